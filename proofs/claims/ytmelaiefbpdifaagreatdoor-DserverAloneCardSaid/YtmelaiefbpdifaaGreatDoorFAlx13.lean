/- DserverAlone: the walk. -/
import Derived.Test.YtmelaiefbpdifaaGreatDoorFAlw13
namespace Go.Proofs.YtmelaiefbpdifaaGreatDoor.Srv
open Go.RowKit Go.Maps
open Pgs (Pg pgE)
theorem run_eql_op (p : Pk) (w : World) : (binOp .eql 51 (opV p) (opV p)).run Tryz.prog w = .ok (.bool true) w := by
 obtain ⟨x0, x1, x2, x3, x4, x5, x6, x7, x8, x9, x10, x11, x12, x13, x14, x15, x16, x17, x18, x19⟩ := p
 rw [run_eql_struct]
 go_simp
theorem wpList_neq_op {ops : Array Oper} {rest : List Oper} {o : Oper} {a : Act} {w : World} {Q : Exit → Act → World → Prop} (p q : Pk) (hpq : opL p = opL q) (hw : Region.wanted o (yielded ops a.tmps) = true) (x y : Operand) (u : TypeId) (ho : o.op = .binOp .neq 51 x y u) (hx : a.eval x = opV p) (hy : a.eval y = opV q)
  (h : wpList Tryz.prog ops Q rest (a.put o.dst (.bool false)) w) : wpList Tryz.prog ops Q (o :: rest) a w := by
 replace hy : a.eval y = opV p := hy.trans (congrArg (fun l : List Value => Value.agg l.toArray) hpq.symm)
 refine wpList_want hw fun _ hK => ?_
 have hg := run_eqGuard_agg (P := Tryz.prog) w .neq 51 x y (opL p).toArray (opL p).toArray (by kernel_rfl)
 have hr := run_eql_op p w
 have hn : (binOp .neq 51 (opV p) (opV p)).run Tryz.prog w = .ok (.bool false) w := by
  rw [run_eql_struct] at hr
  rw [run_neq_struct]
  generalize (Op.equalIn 10000 51 (opV p) (opV p)).run Tryz.prog w = R at hr ⊢
  cases R with
  | ok v w1 =>
   simp only [Result.andThen_ok, Result.ok.injEq, Value.bool.injEq] at hr ⊢
   exact ⟨by rw [hr.1]; rfl, hr.2⟩
  | halt x w1 => simp [Result.andThen] at hr
 unfold Oper.wp execOp
 simp only [ho, hx, hy, Sem.run_bind, Sem.run_pure, Result.andThen_ok, hg, hn]
 exact hK _ _ h
theorem One.mono {σ : Sv} {f : Nat → Nat} {i j : Nat} (h : One σ f i) (hij : i ≤ j) : One σ f j := by
 obtain ⟨T, h1, h2⟩ := h.keys
 exact ⟨h.num, h.me, h.boot, h.snd, h.cnt, T, h1, by omega⟩
structure Pair (w1 wx : World) (sb dp tb dq gq x k : Nat) (R T : List Nat) (σ τ : Sv) (f g : Nat → Nat) : Prop where
 s : ∃ c, c ≤ k ∧ SrvL w1 wx R sb dp σ c
 t : ∃ c, c ≤ k ∧ SrvL w1 wx T tb dq τ c
 blk : Blk wx gq 73 (cntL f g).toArray
 apart : ∀ i ∈ R, i ∉ T
 out : gq ∉ R ∧ gq ∉ T
 one : One σ f k
 two : One τ g k
 few : ∀ j, f j ≤ k ∧ g j ≤ k
 same : At x σ τ
 old : w1.heap.size ≤ gq
set_option maxRecDepth 100000 in
set_option maxHeartbeats 8000000 in
theorem dserverAlone_walk (w : World) (A : Option Addr) (c : Nat) (l : List Ac) (hA : Els acE 23 w A l) (hok : okayA l) (x : Int) (hx : U x) :
  Calls Tryz.prog 7 #[.slice A l.length c, .int .u32 x] w fun e w' => e = .returned (.bool true) ∧ Only [] w w' := by
 obtain ⟨n, hn⟩ : ∃ n, n = l.length := ⟨_, rfl⟩
 rw [← hn]
 replace hn := Lib.hid hn
 replace hok := Lib.hid hok
 go_enter Tryz.func7, Tryz.ntmps7
 go_wp2_with fail
 refine (alive_any _).mono ?_; rintro e w1 ⟨rfl, k01⟩
 have hA1 := hA.kept k01 (by simp)
 have hnew := ownNew_any w1 w1 500 (by decide) (by decide) (Only.refl _ _)
 replace hnew := Lib.hid hnew
 clear hA
 go_wp2_with fail
 refine hnew.out.mono ?_; rintro e w2 ⟨dp, F, rfl, hd1, _, _⟩
 clear hnew
 go_wp2_with fail
 refine (OwnD.startL (N := 459) hd1 (by decide) (by decide) 1 ⟨by decide, by decide⟩).mono ?_
 rintro e w3 ⟨sb, R0, M0, rfl, hl0, _, _, hG, hM⟩
 clear hd1
 have hnew := ownNew_any w1 w3 500 (by decide) (by decide) hl0.only
 replace hnew := Lib.hid hnew
 replace hG := Lib.hid hG
 replace hM := Lib.hid hM
 go_wp2_with fail
 refine hnew.out.mono ?_; rintro e w4 ⟨dq, E, rfl, hd2, k34, hE⟩
 clear hnew
 have hl4 := hl0.keep k34
 have hR0 : ∀ j ∈ R0, j < w3.heap.size := fun j hj => (hl0.new j hj).2
 have h34 := k34.size
 clear hl0
 go_wp2_with fail
 refine (OwnD.startL (N := 459) hd2 (by decide) (by decide) 1 ⟨by decide, by decide⟩).mono ?_
 rintro e w5 ⟨tb, T0, M1, rfl, ht0, k45, hT0, hG1, hM1⟩
 clear hd2
 have hs0 := hl4.beside k45 ht0.only (fun i hi hm => by have := hE i hi; have := hR0 i hm; omega)
 have hap : ∀ i ∈ R0, i ∉ T0 := fun i hi hm => by
  have := hR0 i hi
  rcases hT0 i hm with h | h
  ·have := hE i h; omega
  ·omega
 have hone := one_new hG.out hM.out
 have hone' := one_new hG1 hM1
 have hat : At x.toNat (srv0 459 1 1 M0) (srv0 459 1 1 M1) := by
  have hl := like_new hG.out hG1 hM.out hM1
  exact ⟨hl.get _, hl.sure _, hl.obj _⟩
 generalize srv0 459 1 1 M0 = σ0 at *
 generalize srv0 459 1 1 M1 = τ0 at *
 replace hone := Lib.hid hone
 replace hone' := Lib.hid hone'
 replace hat := Lib.hid hat
 clear hG hM hG1 hM1 hl4 hR0 hE hT0 k34 k45 h34
 have hz0 := (zero_of_info zero_cnt).1
 obtain ⟨zc, hzc⟩ : ∃ zc, zc = cntL (fun _ => 0) fun _ => 0 := ⟨_, rfl⟩
 rw [← hzc] at hz0
 replace hzc := Lib.hid hzc
 go_upto_block 0 with fail
 have hp5 : Pair w1 (w5.alloc (.cells zc.toArray 73)) sb dp tb dq w5.heap.size x.toNat 0 R0 T0 σ0 τ0 (fun _ => 0) (fun _ => 0) := by
  have ka : Only [] w5 (w5.alloc (.cells zc.toArray 73)) := (Only.refl [] w5).alloc _
  refine ⟨⟨0, Nat.le_refl _, hs0.keep ka⟩, ⟨0, Nat.le_refl _, ht0.keep ka⟩, ?_, hap, ⟨fun hm => Nat.lt_irrefl _ (hs0.new _ hm).2, fun hm => Nat.lt_irrefl _ (ht0.new _ hm).2⟩, hone.out, hone'.out, fun j => ⟨Nat.le_refl _, Nat.le_refl _⟩, hat.out, hs0.only.size⟩
  rw [hzc.out]
  exact Blk.new w5 _ _
 have hxx : x = ((x.toNat : Nat) : Int) := by have := hx.1; omega
 have hxl : x.toNat < 4294967296 := by have := hx.2; have := hx.1; omega
 replace hxx := Lib.hid hxx
 generalize w5.heap.size = gq at *
 clear hap hone hone' hat hs0 ht0 hz0
 generalize (w5.alloc (.cells zc.toArray 73)) = w6 at *
 go_cut [10] (fun s10 wx => ∃ (k : Nat) (R T : List Nat) (σ τ : Sv) (f g : Nat → Nat), s10 = .int .i64 k ∧ k ≤ 40 ∧ Pair w1 wx sb dp tb dq gq x.toNat k R T σ τ f g)
 case first =>
  go_wp2_with fail
  go_loopg [10] n (fun gh i wr => ∃ (k : Nat) (R T : List Nat) (σ τ : Sv) (f g : Nat → Nat), k ≤ n ∧ gh = n - k ∧ i = .int .i64 k ∧ k ≤ 40 ∧ Pair w1 wr sb dp tb dq gq x.toNat k R T σ τ f g)
  case atStart => exact ⟨0, R0, T0, σ0, τ0, _, _, Nat.zero_le _, rfl, rfl, Nat.zero_le _, hp5⟩
  case round =>
   obtain ⟨k, R, T, σ, τ, f, gg, hk, rfl, rfl, hk40, hP⟩ := hrel
   by_cases hgo : k < n ∧ k < 40
   ·obtain ⟨hlt, h20⟩ := hgo
    have hkl : k < l.length := by have := hn.out; omega
    obtain ⟨ca, hc1, hσ⟩ := hP.s
    obtain ⟨cb, hc2, hτ⟩ := hP.t
    have kr := hσ.only
    obtain ⟨g, o, rfl, hr⟩ := act_pk (hA1.kept kr (by simp)) hkl
    have hpo := (hok.out l[k] (List.getElem_mem _)).1
    generalize l[k] = y at *
    obtain ⟨_, _, _, y⟩ := y
    simp only at hr hpo
    have z1 := boxed_pk wr
    have kz : Only [] wr (wr.alloc (.cells zPkA 53)) := (Only.refl [] wr).alloc _
    have hskip : ∀ W, Only [] wr W → Pair w1 W sb dp tb dq gq x.toNat (k + 1) R T σ τ f gg := fun W kk =>
     ⟨⟨ca, by omega, hσ.keep kk⟩, ⟨cb, by omega, hτ.keep kk⟩, hP.blk.kept kk (by simp), hP.apart, hP.out, hP.one.mono (by omega), hP.two.mono (by omega), fun j => ⟨by have := (hP.few j).1; omega, by have := (hP.few j).2; omega⟩, hP.same, hP.old⟩
    replace hskip := Lib.hid hskip
    go_wp2_with (first
     | (refine wpList_load_mid rfl 53 (.tmp 41) rfl g (o + k * 23 + 3) rfl (pkA y).toList _ hr Tryz.underlying53 rfl size_pk ?_)
     | (refine wpList_store_pk y zPk rfl (.tmp 11) (.tmp 42) rfl wr.heap.size rfl rfl z1 ?_; intro w4 b4 k4)
     | (refine wpList_load_pk y rfl (.tmp 11) rfl wr.heap.size rfl b4 ?_))
    refine (rright_any _ y).mono ?_; rintro e w7 ⟨rfl, k7⟩
    have b7 := b4.kept k7 (by simp)
    have kq : Only [] wr w7 := (kz.then k4 (fun j hj => .inr (by simp at hj; omega))).trans k7
    have c0 := b7.cell 0
    have c7 := b7.cell 7
    simp only [List.getElem?_toArray, List.getElem?_cons_zero, List.getElem?_cons_succ] at c0 c7
    clear b4 k4 kz z1 k7 hr
    by_cases h1 : y.Right
    ·rw [decide_eq_true h1]
     by_cases h2 : y.kind = 1
     ·have h2' : (y.kind != 1) = false := by rw [h2]; rfl
      by_cases h3 : y.code ≤ 5
      ·have hfb : 0 ≤ y.frm ∧ y.frm ≤ 255 := h1.2.2.1
       have hcd : 1 ≤ y.code ∧ y.code ≤ 5 := by
        have := h1.2.2.2.2.1
        unfold knownP at this
        omega
       obtain ⟨fr, hfr⟩ : ∃ fr : Nat, y.frm = (fr : Int) := ⟨y.frm.toNat, by omega⟩
       have hfr2 : fr < 256 := by omega
       have hRlt : ∀ j ∈ R, j < wr.heap.size := fun j hj => (hσ.new j hj).2
       have hTlt : ∀ j ∈ T, j < wr.heap.size := fun j hj => (hτ.new j hj).2
       have hgq : gq < wr.heap.size := hP.blk.lt
       have ba := hP.blk.kept kq (by simp)
       generalize hqb : wr.heap.size = q at *
       have hne : q ≠ gq := by omega
       have hm : f fr ≤ 40 := by have := (hP.few fr).1; omega
       obtain ⟨m, hm0⟩ : ∃ m, m = f fr := ⟨_, rfl⟩
       replace hm0 := Lib.hid hm0
       have c2 := b7.cell 2
       have g2 := b7.free 2
       simp only [List.getElem?_toArray, List.getElem?_cons_zero, List.getElem?_cons_succ] at c2
       clear hm
       go_upto_region 12 with fail
       have d1 : Blk (w7.setCell ⟨q, 2, none⟩ (.int .i64 1)) q 53 (pkA { y with dst := 1 }) := b7.set 2 _
       have ka : Only [q] w7 (w7.setCell ⟨q, 2, none⟩ (.int .i64 1)) := (Only.refl [q] w7).setCell (p := ⟨q, 2, none⟩) (.inl (by simp)) _
       clear c2 g2 c0 c7
       generalize w7.setCell ⟨q, 2, none⟩ (.int .i64 1) = wA at *
       have c3 := d1.cell 3
       have g3 := d1.free 3
       simp only [List.getElem?_toArray, List.getElem?_cons_zero, List.getElem?_cons_succ] at c3
       go_upto_region 13 with fail
       have d2 : Blk (wA.setCell ⟨q, 3, none⟩ (.int .u32 1)) q 53 (pkA { y with dst := 1, life := 1 }) := d1.set 3 _
       have kb : Only [q] w7 (wA.setCell ⟨q, 3, none⟩ (.int .u32 1)) := ka.setCell (p := ⟨q, 3, none⟩) (.inl (by simp)) _
       clear c3 g3 d1 ka
       generalize wA.setCell ⟨q, 3, none⟩ (.int .u32 1) = wB at *
       have c5 := d2.cell 5
       have g5 := d2.free 5
       simp only [List.getElem?_toArray, List.getElem?_cons_zero, List.getElem?_cons_succ] at c5
       go_upto_region 14 with fail
       have d3 : Blk (wB.setCell ⟨q, 5, none⟩ (.int .u32 1)) q 53 (pkA { y with dst := 1, life := 1, asked := 1 }) := d2.set 5 _
       have kc : Only [q] w7 (wB.setCell ⟨q, 5, none⟩ (.int .u32 1)) := kb.setCell (p := ⟨q, 5, none⟩) (.inl (by simp)) _
       clear c5 g5 d2 kb
       generalize wB.setCell ⟨q, 5, none⟩ (.int .u32 1) = wC at *
       have ba3 := ba.kept kc (by simpa using hne.symm)
       have a0 : wC.cell? ⟨gq, fr, none⟩ = some (.int .u32 (m : Int)) := by rw [ba3.cell fr, List.getElem?_toArray, cntL_get f gg (by omega), if_pos hfr2, ← hm0.out]
       have af := ba3.free fr
       have c1' : wC.cell? ⟨q, 1, none⟩ = some (.int .i64 (fr : Int)) := (d3.cell 1).trans (by rw [← hfr]; rfl)
       have hm : m ≤ 40 := by have := (hP.few fr).1; have := hm0.out; omega
       have hm2 : (m : Int) + 1 < 4294967296 := by omega
       go_upto_region 15 with fail
       have hcast : ((m : Int) + 1) = ((m + 1 : Nat) : Int) := by omega
       have ba4 : Blk (wC.setCell ⟨gq, fr, none⟩ (.int .u32 ((m : Int) + 1))) gq 73 (cntL (fun j => if j = fr then m + 1 else f j) gg).toArray := by
        have := ba3.set fr (.int .u32 ((m : Int) + 1))
        rw [hcast] at this ⊢
        rw [cntL_f f gg hfr2] at this
        exact this
       have d4 := d3.kept ((Only.refl [gq] wC).setCell (p := ⟨gq, fr, none⟩) (.inl (by simp)) (.int .u32 ((m : Int) + 1))) (by simpa using hne)
       have kd : Only [q, gq] w7 (wC.setCell ⟨gq, fr, none⟩ (.int .u32 ((m : Int) + 1))) := (kc.more (by simp)).setCell (p := ⟨gq, fr, none⟩) (.inl (by simp)) _
       clear a0 af c1' ba3 d3 kc
       generalize wC.setCell ⟨gq, fr, none⟩ (.int .u32 ((m : Int) + 1)) = wD at *
       have a1 : wD.cell? ⟨gq, fr, none⟩ = some (.int .u32 ((m : Int) + 1)) := by rw [ba4.cell fr, List.getElem?_toArray, cntL_get _ _ (by omega), if_pos hfr2, if_pos rfl, hcast]
       have c1' : wD.cell? ⟨q, 1, none⟩ = some (.int .i64 (fr : Int)) := (d4.cell 1).trans (by rw [← hfr]; rfl)
       have c4 := d4.cell 4
       have g4 := d4.free 4
       simp only [List.getElem?_toArray, List.getElem?_cons_zero, List.getElem?_cons_succ] at c4
       replace hcast := Lib.hid hcast
       obtain ⟨m1, hm1⟩ : ∃ m1 : Int, m1 = (m : Int) + 1 := ⟨_, rfl⟩
       rw [← hm1] at a1
       replace hm1 := Lib.hid hm1
       replace d4 := Lib.hid d4
       replace ba4 := Lib.hid ba4
       go_upto_region 16 with fail
       rw [hm1.out]
       replace d4 := d4.out
       replace ba4 := ba4.out
       have d5 : Blk (wD.setCell ⟨q, 4, none⟩ (.int .u32 ((m : Int) + 1))) q 53 (pkA (sendP y (m + 1))) := by
        have := d4.set 4 (.int .u32 ((m : Int) + 1))
        rw [hcast.out] at this ⊢
        exact this
       have ke : Only [q, gq] w7 (wD.setCell ⟨q, 4, none⟩ (.int .u32 ((m : Int) + 1))) := kd.setCell (p := ⟨q, 4, none⟩) (.inl (by simp)) _
       have ba5 := ba4.kept ((Only.refl [q] wD).setCell (p := ⟨q, 4, none⟩) (.inl (by simp)) (.int .u32 ((m : Int) + 1))) (by simpa using hne.symm)
       clear a1 c1' c4 g4 d4 ba4 kd
       generalize wD.setCell ⟨q, 4, none⟩ (.int .u32 ((m : Int) + 1)) = wE at *
       go_wp2_with (refine wpList_load_pk (sendP y (m + 1)) rfl (.tmp 11) rfl q rfl d5 ?_)
       have kw : Only [] w1 wE := (kr.trans kq).then ke (fun j hj => .inr (by
        have := hP.old
        have := kr.size
        simp only [List.mem_cons, List.not_mem_nil, or_false] at hj
        omega))
       have hqn : ∀ j ∈ [q, gq], j ∉ R ∧ j ∉ T := fun j hj => by
        simp only [List.mem_cons, List.not_mem_nil, or_false] at hj
        rcases hj with rfl | rfl
        ·exact ⟨fun hm => by have := hRlt _ hm; omega, fun hm => by have := hTlt _ hm; omega⟩
        ·exact hP.out
       have hσE := (hσ.keep kq).beside ke kw (fun j hj => (hqn j hj).1)
       have hτE := (hτ.keep kq).beside ke kw (fun j hj => (hqn j hj).2)
       have hpoS : (sendP y (m + 1)).Ok := ⟨hpo.kind, hpo.frm, by show I 1; unfold I; decide, by show U 1; unfold U; decide, by show U ((m + 1 : Nat) : Int); unfold U; omega, by show U 1; unfold U; decide, hpo.boot, hpo.code, hpo.err, hpo.file, hpo.epoch, hpo.off, hpo.len, hpo.size, hpo.mode, hpo.deny, hpo.handle⟩
       refine (hσE.handle (by omega) (sendP y (m + 1)) hpoS).mono ?_
       rintro e v1 ⟨r1, ok1, σ1, R1, rfl, h1s, hσ1, kh1, hR1⟩
       obtain ⟨d, er, σd, hdid, hr1, rfl, hat1, hone1⟩ := hP.one.step hσE.ok (by omega) hσE.up hpo h1 h2 hcd (by rw [hm0.out, hfr]; rfl) h1s
       have hdo : x.toNat ≠ y.file.toNat → At x.toNat σd σ := fun hne => did_other (hP.one.roomy hσE.ok (by omega)) hP.one.snd hσE.ok hpo.file hxl hne hdid
       have hda : At y.file.toNat σ τ → ∀ d' e' τ', Did (Puts τ.N) τ y d' e' τ' → d = d' ∧ er = e' ∧ At y.file.toNat σd τ' := fun ha d' e' τ' h2 => did_at (hP.one.roomy hσE.ok (by omega)) (hP.two.roomy hτE.ok (by omega)) hP.one.snd hP.two.snd hσE.ok hpo.file ha hdid h2
       have hfrt : y.frm.toNat = fr := by omega
       rw [hfrt] at hone1
       have b6 := d5.kept kh1 (hqn q (by simp)).1
       have ba6 := ba5.kept kh1 (hqn gq (by simp)).1
       have hτ1 := hτE.beside kh1 hσ1.only (fun i hi hm => hP.apart i hi hm)
       have hqE : q < wE.heap.size := d5.lt
       have hgE : gq < wE.heap.size := ba5.lt
       have h1E := kh1.size
       have hap1 : ∀ i ∈ R1, i ∉ T := fun i hi hm => by
        rcases hR1 i hi with h | h
        ·exact hP.apart i h hm
        ·have := hTlt i hm; omega
       have hqR1 : q ∉ R1 := out_of (hqn q (by simp)).1 hR1 hqE
       have hgR1 : gq ∉ R1 := out_of (hqn gq (by simp)).1 hR1 hgE
       have hqT := (hqn q (by simp)).2
       have hgT := (hqn gq (by simp)).2
       have hR1lt : ∀ j ∈ R1, j < v1.heap.size := fun j hj => (hσ1.new j hj).2
       have kvw : Only [] w1 v1 := hσ1.only
       have hfew1 : ∀ j, (if j = fr then m + 1 else f j) ≤ k + 1 ∧ gg j ≤ k + 1 := fun j => by
        have h1 := (hP.few j).1
        have h2 := (hP.few j).2
        have h3 := (hP.few fr).1
        have := hm0.out
        split <;> omega
       have hone1c := hP.two
       have hsameP := hP.same
       have holdP := hP.old
       have hfewP := hP.few
       clear hP hskip hσE hτE d5 ba5 kh1 ke kw kq hσ hτ hqn h1s hdid ba b7
       have y1 := boxed_pk v1
       have ky1 : Only [] v1 (v1.alloc (.cells zPkA 53)) := (Only.refl [] v1).alloc _
       have hq1 : ¬ q = v1.heap.size ∧ ¬ gq = v1.heap.size := by omega
       replace hdo := Lib.hid hdo
       replace hda := Lib.hid hda
       replace hone1 := Lib.hid hone1
       replace hr1 := Lib.hid hr1
       replace hap1 := Lib.hid hap1
       replace hfew1 := Lib.hid hfew1
       replace hR1lt := Lib.hid hR1lt
       replace hRlt := Lib.hid hRlt
       replace hTlt := Lib.hid hTlt
       replace hfewP := Lib.hid hfewP
       clear hR1
       by_cases hfx : y.file = x
       case neg =>
        have hfx2 : (y.file != x) = true := by rw [bne_iff_ne]; exact hfx
        have hne : x.toNat ≠ y.file.toNat := fun h => hfx (by have := hxx.out; have := hpo.file.1; omega)
        go_wp2_with (first
         | (refine wpList_store_pk r1 zPk rfl (.tmp 12) (.tmp 78) rfl v1.heap.size rfl rfl y1 ?_; intro v2 c1 kc1; have b7 := (b6.kept ky1 (by simp)).kept kc1 (by simpa using hq1.1); have ba7 := (ba6.kept ky1 (by simp)).kept kc1 (by simpa using hq1.2); have f9 : v2.cell? ⟨q, 9, none⟩ = some (.int .u32 y.file) := (b7.cell 9).trans rfl))
        have k12 : Only [] v1 v2 := ky1.then kc1 (fun j hj => .inr (by simp at hj; omega))
        have hP2 : Pair w1 v2 sb dp tb dq gq x.toNat (k + 1) R1 T σ1 τ (fun j => if j = fr then m + 1 else f j) gg :=
         ⟨⟨ca + 1, by omega, hσ1.keep k12⟩, ⟨cb, by omega, hτ1.keep k12⟩, ba7, hap1.out, ⟨hgR1, hgT⟩, hone1.out, hone1c.mono (by omega), hfew1.out, (hat1 _).trans ((hdo.out hne).trans hsameP), holdP⟩
        go_roundg (n - (k + 1))
        case measure => omega
        case rel => exact ⟨k + 1, R1, T, σ1, τ, _, gg, by omega, rfl, by go_num, by omega, hP2⟩
       have hfx2 : (y.file != x) = false := by rw [bne_eq_false_iff_eq]; exact hfx
       have hxy : y.file.toNat = x.toNat := by rw [hfx]
       have hgm0 : gg fr ≤ 40 := by have := (hfewP.out fr).2; omega
       obtain ⟨gm, hgm⟩ : ∃ gm, gm = gg fr := ⟨_, rfl⟩
       replace hgm := Lib.hid hgm
       go_upto_region 18 with (first
        | (refine wpList_store_pk r1 zPk rfl (.tmp 12) (.tmp 78) rfl v1.heap.size rfl rfl y1 ?_; intro v2 e2 kc1; have b7 := (b6.kept ky1 (by simp)).kept kc1 (by simpa using hq1.1); have ba7 := (ba6.kept ky1 (by simp)).kept kc1 (by simpa using hq1.2); have f9 : v2.cell? ⟨q, 9, none⟩ = some (.int .u32 y.file) := (b7.cell 9).trans rfl))
       have k12 : Only [] v1 v2 := ky1.then kc1 (fun j hj => .inr (by simp at hj; omega))
       have hσ2 := hσ1.keep k12
       have hτ2 := hτ1.keep k12
       obtain ⟨q1, hq1e⟩ : ∃ q1, q1 = v1.heap.size := ⟨_, rfl⟩
       rw [← hq1e] at e2
       rw [← hq1e]
       have h1q : q1 < v2.heap.size := e2.lt
       have hn1 : q ≠ q1 ∧ gq ≠ q1 := by omega
       have hq1T : q1 ∉ T := fun hm => by have := hTlt.out _ hm; have := kr.size; omega
       have hq1R1 : q1 ∉ R1 := fun hm => by have := hR1lt.out _ hm; omega
       replace hq1e := Lib.hid hq1e
       clear hσ1 hτ1 b6 ba6 y1 ky1 kc1 f9
       have a0 : v2.cell? ⟨gq, 256 + fr, none⟩ = some (.int .u32 (gm : Int)) := by rw [ba7.cell (256 + fr), List.getElem?_toArray, cntL_get _ gg (by omega), if_neg (by omega), hgm.out]; congr 4; omega
       have af := ba7.free (256 + fr)
       have c1' : v2.cell? ⟨q, 1, none⟩ = some (.int .i64 (fr : Int)) := (b7.cell 1).trans (by rw [← hfr]; rfl)
       have hgmb : gm ≤ 40 := by have := hgm.out; omega
       have hgm2 : (gm : Int) + 1 < 4294967296 := by omega
       replace b7 := Lib.hid b7
       replace ba7 := Lib.hid ba7
       replace e2 := Lib.hid e2
       go_upto_region 19 with fail
       replace b7 := b7.out
       replace ba7 := ba7.out
       replace e2 := e2.out
       have hcast2 : ((gm : Int) + 1) = ((gm + 1 : Nat) : Int) := by omega
       have kg : Only [gq] v2 (v2.setCell ⟨gq, 256 + fr, none⟩ (.int .u32 ((gm : Int) + 1))) := (Only.refl [gq] v2).setCell (p := ⟨gq, 256 + fr, none⟩) (.inl (by simp)) _
       have ba8 : Blk (v2.setCell ⟨gq, 256 + fr, none⟩ (.int .u32 ((gm : Int) + 1))) gq 73 (cntL (fun j => if j = fr then m + 1 else f j) (fun j => if j = fr then gm + 1 else gg j)).toArray := by
        have := ba7.set (256 + fr) (.int .u32 ((gm : Int) + 1))
        rw [hcast2] at this ⊢
        rw [cntL_g _ gg hfr2] at this
        exact this
       have b8 := b7.kept kg (by simpa using hne)
       have e3 := e2.kept kg (by simpa using fun h => hn1.2 h.symm)
       clear a0 af c1' b7 ba7 e2
       generalize v2.setCell ⟨gq, 256 + fr, none⟩ (.int .u32 ((gm : Int) + 1)) = v3 at *
       have a1 : v3.cell? ⟨gq, 256 + fr, none⟩ = some (.int .u32 ((gm : Int) + 1)) := by rw [ba8.cell (256 + fr), List.getElem?_toArray, cntL_get _ _ (by omega), if_neg (by omega), if_pos (by omega), hcast2]
       have c1' : v3.cell? ⟨q, 1, none⟩ = some (.int .i64 (fr : Int)) := (b8.cell 1).trans (by rw [← hfr]; rfl)
       have c4 : v3.cell? ⟨q, 4, none⟩ = some (.int .u32 ((m : Int) + 1)) := (b8.cell 4).trans (by rw [hcast.out]; rfl)
       have g4 := b8.free 4
       replace hcast2 := Lib.hid hcast2
       obtain ⟨m2, hm2e⟩ : ∃ m2 : Int, m2 = (gm : Int) + 1 := ⟨_, rfl⟩
       rw [← hm2e] at a1
       replace hm2e := Lib.hid hm2e
       replace b8 := Lib.hid b8
       replace ba8 := Lib.hid ba8
       replace e3 := Lib.hid e3
       go_upto_region 20 with fail
       rw [hm2e.out]
       replace b8 := b8.out
       replace ba8 := ba8.out
       replace e3 := e3.out
       have kq4 : Only [q] v3 (v3.setCell ⟨q, 4, none⟩ (.int .u32 ((gm : Int) + 1))) := (Only.refl [q] v3).setCell (p := ⟨q, 4, none⟩) (.inl (by simp)) _
       have b9 : Blk (v3.setCell ⟨q, 4, none⟩ (.int .u32 ((gm : Int) + 1))) q 53 (pkA (sendP y (gm + 1))) := by
        have := b8.set 4 (.int .u32 ((gm : Int) + 1))
        rw [hcast2.out] at this ⊢
        exact this
       have ba9 := ba8.kept kq4 (by simpa using hne.symm)
       have e4 := e3.kept kq4 (by simpa using hn1.1.symm)
       have k24 : Only [q, gq] v2 (v3.setCell ⟨q, 4, none⟩ (.int .u32 ((gm : Int) + 1))) := (kg.more (by simp)).then kq4 (by simp)
       clear a1 c1' c4 g4 b8 ba8 e3 kg kq4
       generalize v3.setCell ⟨q, 4, none⟩ (.int .u32 ((gm : Int) + 1)) = v4 at *
       have kv4 : Only [] w1 v4 := (kvw.trans k12).then k24 (fun j hj => .inr (by
        have := kr.size
        simp only [List.mem_cons, List.not_mem_nil, or_false] at hj
        omega))
       have hσ4 := hσ2.beside k24 kv4 (fun j hj => by
        simp only [List.mem_cons, List.not_mem_nil, or_false] at hj
        rcases hj with rfl | rfl
        ·exact hqR1
        ·exact hgR1)
       have hτ4 := hτ2.beside k24 kv4 (fun j hj => by
        simp only [List.mem_cons, List.not_mem_nil, or_false] at hj
        rcases hj with rfl | rfl
        ·exact hqT
        ·exact hgT)
       have hpoS2 : (sendP y (gm + 1)).Ok := ⟨hpo.kind, hpo.frm, by show I 1; unfold I; decide, by show U 1; unfold U; decide, by show U ((gm + 1 : Nat) : Int); unfold U; omega, by show U 1; unfold U; decide, hpo.boot, hpo.code, hpo.err, hpo.file, hpo.epoch, hpo.off, hpo.len, hpo.size, hpo.mode, hpo.deny, hpo.handle⟩
       clear hσ2 hτ2
       have h24 := k24.size
       go_wp2_with (refine wpList_load_pk (sendP y (gm + 1)) rfl (.tmp 11) rfl q rfl b9 ?_)
       refine (hτ4.handle (by omega) (sendP y (gm + 1)) hpoS2).mono ?_
       rintro e v5 ⟨r2, ok2, τ1, T1, rfl, h2s, hτ5, kh2, hT1⟩
       obtain ⟨d2, er2, τd, hdid2, hr2, rfl, hat2, hone2⟩ := hone1c.step hτ4.ok (by omega) hτ4.up hpo h1 h2 hcd (by rw [hgm.out, hfr]; rfl) h2s
       rw [hfrt] at hone2
       obtain ⟨rfl, rfl, hatd⟩ := hda.out (by rw [hxy]; exact hsameP) _ _ _ hdid2
       rw [hxy] at hatd
       have hop : opL r1 = opL r2 := by rw [hr1.out, hr2]; rfl
       have hσ5 := hσ4.beside kh2 hτ5.only (fun i hi hm => hap1.out i hm hi)
       have e5 := e4.kept kh2 hq1T
       have ba10 := ba9.kept kh2 hgT
       have hap2 : ∀ i ∈ R1, i ∉ T1 := fun i hi hm => by
        rcases hT1 i hm with h | h
        ·exact hap1.out i hi h
        ·have := hR1lt.out i hi; have := k12.size; omega
       have hgT1 : gq ∉ T1 := out_of hgT hT1 (by have := k12.size; omega)
       have hv5 := kh2.size
       have y5 := boxed_pk v5
       have ky5 : Only [] v5 (v5.alloc (.cells zPkA 53)) := (Only.refl [] v5).alloc _
       have hq5 : ¬ q1 = v5.heap.size ∧ ¬ gq = v5.heap.size := by have := k12.size; omega
       have hfew2 : ∀ j, (if j = fr then m + 1 else f j) ≤ k + 1 ∧ (if j = fr then gm + 1 else gg j) ≤ k + 1 := fun j => by
        have h1 := (hfew1.out j).1
        have h2 := (hfewP.out j).2
        have h3 := (hfewP.out fr).2
        have := hgm.out
        refine ⟨h1, ?_⟩
        split <;> omega
       replace hap2 := Lib.hid hap2
       replace hfew2 := Lib.hid hfew2
       replace hone2 := Lib.hid hone2
       replace hatd := Lib.hid hatd
       clear hσ4 hτ4 b9 ba9 e4 kh2 hT1 h2s hdid2 hr2 hda hdo
       go_wp2_with (first
        | (refine wpList_store_pk r2 zPk rfl (.tmp 14) (.tmp 103) rfl v5.heap.size rfl rfl y5 ?_; intro v6 f1 kf1; have e6 : Blk v6 q1 53 (pkA r1) := (e5.kept ky5 (by simp)).kept kf1 (by simpa using hq5.1); have ba11 := (ba10.kept ky5 (by simp)).kept kf1 (by simpa using hq5.2))
        | (refine wpList_load_op r1 rfl (.tmp 112) rfl q1 rfl e6 ?_)
        | (refine wpList_load_op r2 rfl (.tmp 114) rfl v5.heap.size rfl f1 ?_)
        | (refine wpList_neq_op r1 r2 hop rfl (.tmp 113) (.tmp 115) _ rfl rfl rfl ?_))
       have k56 : Only [] v5 v6 := ky5.then kf1 (fun j hj => .inr (by simp at hj; omega))
       have hP2 : Pair w1 v6 sb dp tb dq gq x.toNat (k + 1) R1 T1 σ1 τ1 (fun j => if j = fr then m + 1 else f j) (fun j => if j = fr then gm + 1 else gg j) :=
        ⟨⟨ca + 1, by omega, hσ5.keep k56⟩, ⟨cb + 1, by omega, hτ5.keep k56⟩, ba11, hap2.out, ⟨hgR1, hgT1⟩, hone1.out, hone2.out, hfew2.out, (hat1 _).trans (hatd.out.trans (hat2 _).symm), holdP⟩
       go_roundg (n - (k + 1))
       case measure => omega
       case rel => exact ⟨k + 1, R1, T1, σ1, τ1, _, _, by omega, rfl, by go_num, by omega, hP2⟩
      ·have h3' : (5 : Int) < y.code := by omega
       go_wp2_with fail
       go_roundg (n - (k + 1))
       case measure => omega
       case rel => exact ⟨k + 1, R, T, σ, τ, f, gg, by omega, rfl, by go_num, by omega, hskip.out _ kq⟩
     ·have h2' : (y.kind != 1) = true := by rw [bne_iff_ne]; exact h2
      go_wp2_with fail
      go_roundg (n - (k + 1))
      case measure => omega
      case rel => exact ⟨k + 1, R, T, σ, τ, f, gg, by omega, rfl, by go_num, by omega, hskip.out _ kq⟩
    ·rw [decide_eq_false h1]
     go_wp2_with fail
     go_roundg (n - (k + 1))
     case measure => omega
     case rel => exact ⟨k + 1, R, T, σ, τ, f, gg, by omega, rfl, by go_num, by omega, hskip.out _ kq⟩
   ·by_cases hlt : k < n
    ·have h20 : ¬ k < 40 := fun h => hgo ⟨hlt, h⟩
     go_wp2_with fail
     go_meet
     exact ⟨k, R, T, σ, τ, f, gg, rfl, hk40, hP⟩
    ·go_wp2_with fail
     go_meet
     exact ⟨k, R, T, σ, τ, f, gg, rfl, hk40, hP⟩
 case rest =>
  obtain ⟨kk, R, T, σ, τ, f, gg, rfl, hk40, ⟨c1, hc1, s9⟩, ⟨c2, hc2, t9⟩, _, _, _, _, _, _, hl, _⟩ := hcut
  generalize wc = wr at *
  have kend := k01.trans s9.only
  have hlo := Pgs.right_len (obj_right s9.ok x.toNat)
  have hls : (sureL σ.M x.toNat).length ≤ 32 := Pgs.right_len (sure_right _ _)
  have e1 := fun W (kk : Only [] wr W) => (s9.keep kk).epoch x hx
  have e2 := fun W (kk : Only [] wr W) => (t9.keep kk).epoch x hx
  have o1 := fun W (kk : Only [] wr W) => (s9.keep kk).object x x.toNat hxx.out hxl
  have o2 := fun W (kk : Only [] wr W) => (t9.keep kk).object x x.toNat hxx.out hxl
  have u1 := fun W (kk : Only [] wr W) => (s9.keep kk).sure x x.toNat hxx.out hxl
  have u2 := fun W (kk : Only [] wr W) => (t9.keep kk).sure x x.toNat hxx.out hxl
  rw [← hl.epN] at e2
  rw [← hl.obj] at o2
  rw [← hl.sure] at u2
  clear s9 t9 hl hp5 hxx
  generalize epN σ.M x.toNat = en at *
  generalize objL σ x.toNat = ob at *
  generalize sureL σ.M x.toNat = su at *
  replace e1 := Lib.hid e1
  replace e2 := Lib.hid e2
  replace o1 := Lib.hid o1
  replace o2 := Lib.hid o2
  replace u1 := Lib.hid u1
  replace u2 := Lib.hid u2
  go_wp2_with fail
  refine (alive_any _).mono ?_; rintro e v0 ⟨rfl, k0⟩
  go_wp2_with fail
  refine (e1.out _ k0).mono ?_; rintro e v1 ⟨rfl, k1⟩
  replace k1 := k0.trans k1
  go_wp2_with fail
  refine (e2.out _ k1).mono ?_; rintro e v2 ⟨rfl, k2⟩
  have k12 := k1.trans k2
  go_wp2_with fail
  refine (o1.out _ k12).mono ?_; rintro e v3 ⟨v, rfl, B, d, rfl, _, hB, k3, _⟩
  have k13 := k12.trans k3
  go_wp2_with fail
  refine (o2.out _ k13).mono ?_; rintro e v4 ⟨v, rfl, C, ff, rfl, _, hC, k4, _⟩
  have k14 := k13.trans k4
  go_wp2_with fail
  refine (Pgs.same_yes _ B C d ff _ _ ob rfl rfl (hB.kept k4 (by simp)) hC (by omega)).mono ?_; rintro e v5 ⟨rfl, k5⟩
  have k15 := k14.trans k5
  go_wp2_with fail
  refine (u1.out _ k15).mono ?_; rintro e v6 ⟨v, rfl, B', d', rfl, _, hB', k6, _⟩
  have k16 := k15.trans k6
  go_wp2_with fail
  refine (u2.out _ k16).mono ?_; rintro e v7 ⟨v, rfl, C', ff', rfl, _, hC', k7, _⟩
  have k17 := k16.trans k7
  go_wp2_with fail
  refine (Pgs.same_yes _ B' C' d' ff' _ _ su rfl rfl (hB'.kept k7 (by simp)) hC' (by omega)).mono ?_; rintro e v8 ⟨rfl, k8⟩
  have k18 := k17.trans k8
  go_wp2_with fail
  go_ret
  exact ⟨rfl, kend.trans k18⟩
end Go.Proofs.YtmelaiefbpdifaaGreatDoor.Srv
