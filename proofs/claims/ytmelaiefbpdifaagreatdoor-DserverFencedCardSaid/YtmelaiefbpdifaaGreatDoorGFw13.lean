/- DserverFenced: the walk. -/
import Derived.Test.YtmelaiefbpdifaaGreatDoorGFi13
import Derived.Test.YtmelaiefbpdifaaGreatDoorGFq13
import Derived.Test.YtmelaiefbpdifaaGreatDoorGFk13
import Derived.Test.YtmelaiefbpdifaaGreatDoorGFt13
namespace Go.Proofs.YtmelaiefbpdifaaGreatDoor.Srv
open Go.RowKit Go.Maps
open Pgs (Pg pgE errB okBytes bytesL)
theorem SrvQ.whenUp {lv : Bool} {w w1 : World} {R : List Nat} {sb dp c b : Nat} {σ : Sv} {P : List Rw → Prop} (h : SrvQ lv w w1 R sb dp σ c b P) (hu : σ.up = true) : P = fun Mo => Mo = σ.M := by
 obtain ⟨s, n, f, _, h⟩ := h
 rcases h with ⟨_, _, _, _, _, h⟩ | ⟨_, h, _⟩
 ·exact h
 ·rw [hu] at h; cases h
structure Held (l : List Ac) (w1 wr : World) (sb dp k : Nat) (R : List Nat) (σ : Sv) (P : List Rw → Prop) (bt : Nat) : Prop where
 q : ∃ c b, c ≤ k ∧ b ≤ k + 1 ∧ SrvQ false w1 wr R sb dp σ c b P
 ring : Ring l k σ P bt
abbrev zActA : Array Value := #[.int .i64 0, .int .i64 0, .int .u64 0, .int .i64 0, .int .i64 0, .int .i64 0, .int .u32 0, .int .u32 0, .int .u32 0, .int .u32 0, .int .i64 0, .int .i64 0, .int .u32 0, .int .u32 0, .int .u32 0, .int .u32 0, .int .u32 0, .int .u32 0, .int .u32 0, .int .u32 0, .string ⟨#[]⟩, .string ⟨#[]⟩, .string ⟨#[]⟩]
set_option maxRecDepth 100000 in
set_option maxHeartbeats 16000000 in
theorem dserverFenced_walk (w : World) (A : Option Addr) (c : Nat) (l : List Ac) (hA : Els acE 23 w A l) (hok : okayA l) :
  Calls Tryz.prog 4 #[.slice A l.length c] w fun e w' => e = .returned (.bool true) ∧ Only [] w w' := by
 obtain ⟨n, hn⟩ : ∃ n, n = l.length := ⟨_, rfl⟩
 rw [← hn]
 replace hn := Lib.hid hn
 replace hok := Lib.hid hok
 go_enter Tryz.func4, Tryz.ntmps4
 go_wp2_with fail
 refine (alive_any _).mono ?_; rintro e w1 ⟨rfl, k01⟩
 have hA1 := hA.kept k01 (by simp)
 have hnew := ownNew_any w1 w1 140 (by decide) (by decide) (Only.refl _ _)
 replace hnew := Lib.hid hnew
 clear hA
 go_wp2_with fail
 refine hnew.out.mono ?_; rintro e w2 ⟨dp, F, rfl, hd1, _, _⟩
 clear hnew
 go_wp2_with fail
 refine ((OwnD.devQ (N := 99) hd1 (by decide)).start (bt := 0) (by decide) (by decide) (by decide) (fun Mo h _ => new_rows (by decide) Mo h)).mono ?_
 rintro e w3 ⟨sb0, R0, Mo0, M0, rfl, _, hMo0, hG, hM, hs3, _, _⟩
 replace hMo0 : Mo0 = [] := hMo0
 subst hMo0
 have hH0 : Held l w1 w3 sb0 dp 0 R0 (srv0 99 1 (((0 : Nat) : Int) + 1) M0) (fun M => M = M0) 1 := ⟨⟨0, 0 + 1, Nat.le_refl _, Nat.le_refl _, hs3.dim⟩, ring_new hG hM⟩
 generalize srv0 99 1 (((0 : Nat) : Int) + 1) M0 = σ0 at *
 generalize (fun M : List Rw => M = M0) = P0 at *
 replace hH0 := Lib.hid hH0
 clear hd1 hs3 hG hM
 go_wp2_with fail
 go_loopg [6, 4] n (fun gh i s4 wr => ∃ (k sb : Nat) (R : List Nat) (σ : Sv) (P : List Rw → Prop) (bt : Nat), k ≤ n ∧ gh = n - k ∧ k ≤ 40 ∧ i = .int .i64 k ∧ s4 = .pointer (some ⟨sb, 0, none⟩) ∧ Hid (Held l w1 wr sb dp k R σ P bt))
 case atStart => exact ⟨0, sb0, R0, σ0, P0, 1, Nat.zero_le _, rfl, Nat.zero_le _, rfl, rfl, hH0⟩
 case round =>
  obtain ⟨k, sb, R, σ, P, bt, hk, rfl, hk40, rfl, rfl, hH⟩ := hrel
  by_cases hgo : k < n ∧ k < 40
  case neg =>
   obtain ⟨⟨cc, b, _, _, hσ⟩, _⟩ := hH.out
   have kend := k01.trans hσ.only
   clear hσ hH hH0
   by_cases hlt : k < n
   ·have h20 : ¬ k < 40 := fun h => hgo ⟨hlt, h⟩
    go_wp2_with fail
    refine (alive_any _).mono ?_; rintro e v1 ⟨rfl, k1⟩
    go_wp2_with fail
    go_ret
    exact ⟨rfl, kend.trans k1⟩
   ·go_wp2_with fail
    refine (alive_any _).mono ?_; rintro e v1 ⟨rfl, k1⟩
    go_wp2_with fail
    go_ret
    exact ⟨rfl, kend.trans k1⟩
  obtain ⟨hlt, h20⟩ := hgo
  have hkl : k < l.length := by have := hn.out; omega
  obtain ⟨⟨cc, b, hcc, hb, hσ⟩, hring⟩ := hH.out
  have kr := hσ.only
  have hAr := hA1.kept kr (by simp)
  obtain ⟨g, o, rfl, hr⟩ := act_row hAr hkl
  obtain ⟨hpk, hkd, hnn, hke0, hke1⟩ := hok.out l[k] (List.getElem_mem _)
  have hx := List.getElem?_eq_getElem hkl
  have hagain := fun W (kk : Only [] w1 W) => again_any W _ c l (hA1.kept kk (by simp)) k hkl hk40
  rw [← hn.out] at hagain
  generalize l[k] = x at *
  have hbt : bt ≤ 41 := by have := hring.few; omega
  have za : Blk (wr.alloc (.cells zActA 55)) wr.heap.size 55 zActA := Blk.new wr _ _
  have kz : Only [] wr (wr.alloc (.cells zActA 55)) := (Only.refl [] wr).alloc _
  have hRlt : ∀ j ∈ R, j < wr.heap.size := fun j hj => (hσ.new j hj).2
  have hor := fun y => obj_right hσ.ok y
  replace hor := Lib.hid hor
  replace hagain := Lib.hid hagain
  replace hring := Lib.hid hring
  replace hx := Lib.hid hx
  replace hRlt := Lib.hid hRlt
  clear hH hH0 hAr
  go_upto_block 2 with (first
   | (refine wpList_load_mid rfl 55 (.tmp 42) rfl g (o + k * 23) rfl (acE x) _ hr Tryz.underlying55 rfl act_size ?_)
   | (refine wpList_store_blk rfl 55 (.tmp 7) (.tmp 43) rfl wr.heap.size zActA (acE x).toArray rfl rfl za act_size rfl (act_one x) ?_; intro w4 ba k4))
  have k04 : Only [] wr w4 := kz.then k4 (fun j hj => .inr (by simp at hj; omega))
  have hσ4 := hσ.keep k04
  have hR4 : ∀ j ∈ R, j < w4.heap.size := fun j hj => by have := hRlt.out j hj; have := k04.size; omega
  have hqR : wr.heap.size ∉ R := fun hm => by have := hRlt.out _ hm; omega
  generalize hq : wr.heap.size = q at *
  have hq4 := ba.lt
  clear hσ za kz k4 hr
  obtain ⟨w6, hw6⟩ : ∃ w6, w6 = (w4.alloc (.cells yEps 56)).alloc (.cells yObs 58) := ⟨_, rfl⟩
  change Code.wp _ _ _ _ ((w4.alloc (.cells yEps 56)).alloc (.cells yObs 58))
  rw [← hw6]
  have k6 : Only [] w4 w6 := by rw [hw6]; exact ((Only.refl [] w4).alloc _).alloc _
  have s6 : Look w4 w6 w4.heap.size (w4.heap.size + 1) σ 0 0 := by
   rw [hw6]
   refine ⟨⟨yEps, rfl, (Blk.new w4 _ yEps).alloc _, fun k hk => by omega⟩, ⟨yObs, rfl, ?_, fun k hk => by omega⟩, ⟨Nat.le_refl _, by omega, by omega⟩⟩
   have := Blk.new (w4.alloc (.cells yEps 56)) 58 yObs
   rwa [show (w4.alloc (.cells yEps 56)).heap.size = w4.heap.size + 1 by simp] at this
  clear hw6
  obtain ⟨ge, hge⟩ : ∃ ge, ge = w4.heap.size := ⟨_, rfl⟩
  obtain ⟨gp, hgp⟩ : ∃ gp, gp = w4.heap.size + 1 := ⟨_, rfl⟩
  rw [← hgp, ← hge] at s6
  rw [← hgp, ← hge]
  refine fenced_fill _ (by kernel_rfl) w6 hσ4 hge hgp s6 k6 _ _ (fun _ _ d _ _ h => by cases d <;> exact h) ?_
  as_aux_lemma =>
   intros
   rename_i wz sx kx
   clear s6 k6
   replace hge := Lib.hid hge
   replace hgp := Lib.hid hgp
   replace hq := Lib.hid hq
   generalize wr = wo at *
   have hσ5 := hσ4.keep kx
   have bx := ba.kept kx (by simp)
   have kwr : Only [] w4 wz := kx
   clear hσ4 ba kx
   have hN := hring.out.num
   have c0 : wz.cell? ⟨q, 0, none⟩ = some (.int .i64 x.kind) := (bx.cell 0).trans rfl
   have hg4 : ge < wz.heap.size := by obtain ⟨cs, _, hh, _⟩ := sx.eps; exact hh.lt
   have hp4 : gp < wz.heap.size := by obtain ⟨cs, _, hh, _⟩ := sx.obs; exact hh.lt
   have hRw : ∀ j ∈ R, j < wz.heap.size := fun j hj => by have := hR4 j hj; have := kwr.size; omega
   by_cases hA3 : 3 ≤ x.kind.tmod 5
   case pos =>
    have dA : decide (3 ≤ x.kind.tmod 5) = true := by simpa using hA3
    obtain ⟨kn, hkn⟩ : ∃ kn : Nat, x.keep = (kn : Int) := ⟨x.keep.toNat, by omega⟩
    have hkn2 : kn < 18446744073709551616 := by omega
    have c2 : wz.cell? ⟨q, 2, none⟩ = some (.int .u64 (kn : Int)) := (bx.cell 2).trans (by rw [← hkn]; rfl)
    have hcr := hσ5.crash (by rw [hN]; decide) kn hkn2
    rw [hN] at hcr
    replace hcr := Lib.hid hcr
    replace hkn := Lib.hid hkn
    replace hkn2 := Lib.hid hkn2
    replace hR4 := Lib.hid hR4
    clear hke0 hke1
    go_wp2_with fail
    refine hcr.out.mono ?_; rintro e v1 ⟨F1, rfl, hdev, hhdr, hsbF, hFR, hsbR, kc⟩
    have lk1 := sx.past kc (fun i hi => hR4.out i (hFR i hi))
    clear hcr
    go_wp2_with fail
    refine (hdev.start (bt := bt) (by decide) (by omega) (by omega) (fun Mo hMo hG => hring.out.beginsOn (by omega) Mo hMo hG)).mono ?_
    rintro e v2 ⟨nb, V, Mo, M', rfl, _, hMo, hG', hM', hν, kst, hV⟩
    obtain ⟨hring', hepo⟩ := hring.out.anew hMo hG' hM'
    have hhdr2 := hhdr.kept kst hsbF
    have lk2 := lk1.past kst (fun i hi => hR4.out i (hFR i hi))
    have hsb := fun W (kk : Only [] v2 W) => (hhdr2.kept kk (by simp)).boot
    rw [hring.out.boot] at hsb
    have hνb : (srv0 99 1 ((bt : Int) + 1) M').boot = (bt : Int) + 1 := rfl
    have hνM : (srv0 99 1 ((bt : Int) + 1) M').M = M' := rfl
    generalize srv0 99 1 ((bt : Int) + 1) M' = ν at *
    subst hνM
    generalize hPP : (fun M : List Rw => M = ν.M) = P2 at *
    replace hring' := Lib.hid hring'
    replace hepo := Lib.hid hepo
    replace hsb := Lib.hid hsb
    clear hdev hhdr hhdr2 lk1 sx hσ5 hG' hM' hMo hPP bx c0 c2 kc kst
    go_upto_block 4 with fail
    refine fenced_crash _ (by kernel_rfl) v2 hν lk2 hsb.out hνb hepo.out _ _ (fun _ _ d _ _ h => by cases d <;> exact h) ?_
    as_aux_lemma =>
     intros
     rename_i wc kx
     have hH2 : Held l w1 wc nb dp (k + 1) V ν P2 (bt + 1) := ⟨⟨0, b + 1, Nat.zero_le _, by omega, (hν.keep kx).dim⟩, hring'.out⟩
     clear hν lk2
     go_wp2_with fail
     go_roundg (n - (k + 1))
     case measure => omega
     case rel => exact ⟨k + 1, nb, V, ν, P2, bt + 1, by omega, rfl, by omega, by go_num, rfl, Lib.hid hH2⟩
   have dA : decide (3 ≤ x.kind.tmod 5) = false := by simpa using hA3
   by_cases hB2 : x.kind.tmod 5 = 2
   case pos =>
    have dB : (x.kind.tmod 5 == 2) = true := by rw [beq_iff_eq]; exact hB2
    have c1 : wz.cell? ⟨q, 1, none⟩ = some (.int .i64 x.n) := (bx.cell 1).trans rfl
    have hfz := hσ5.fuse x.n hnn.1 hnn.2
    replace hfz := Lib.hid hfz
    clear hσ5 sx
    go_wp2_with fail
    refine hfz.out.mono ?_; rintro e v1 ⟨rfl, hσ6, _⟩
    have hH2 : Held l w1 v1 sb dp (k + 1) R σ P bt := ⟨⟨cc, b, by omega, by omega, hσ6⟩, hring.out.skip⟩
    clear hfz hσ6
    go_wp2_with fail
    go_roundg (n - (k + 1))
    case measure => omega
    case rel => exact ⟨k + 1, sb, R, σ, P, bt, by omega, rfl, by omega, by go_num, rfl, Lib.hid hH2⟩
   have dB : (x.kind.tmod 5 == 2) = false := by rw [beq_eq_false_iff_ne]; exact hB2
   have hbo := hσ5.boot
   rw [hring.out.boot] at hbo
   have c8 : wz.cell? ⟨q, 8, none⟩ = some (.int .u32 x.p.asked) := (bx.cell 8).trans rfl
   have f8 := bx.free 8
   obtain ⟨p, hp⟩ : ∃ p, p = pB x.p bt := ⟨_, rfl⟩
   have hpo : p.Ok := by rw [hp]; exact ⟨hpk.kind, hpk.frm, hpk.dst, hpk.life, hpk.seq, by show U (bt : Int); unfold U; omega, hpk.boot, hpk.code, hpk.err, hpk.file, hpk.epoch, hpk.off, hpk.len, hpk.size, hpk.mode, hpk.deny, hpk.handle⟩
   have hxp : p.frm = x.p.frm ∧ p.seq = x.p.seq := by rw [hp]; exact ⟨rfl, rfl⟩
   have hsetp : (acE x).toArray.setIfInBounds 8 (.int .u32 (bt : Int)) = (acE ⟨x.kind, x.n, x.keep, p⟩).toArray := by rw [hp]; rfl
   replace hp := Lib.hid hp
   replace hsetp := Lib.hid hsetp
   replace hxp := Lib.hid hxp
   replace hpo := Lib.hid hpo
   replace hR4 := Lib.hid hR4
   replace hRw := Lib.hid hRw
   clear hpk hkd hnn hke0 hke1
   go_wp2_with fail
   refine hbo.mono ?_; rintro e v0 ⟨rfl, hv0⟩
   obtain rfl : wz = v0 := hv0.symm
   clear hbo
   go_upto_region 30 with fail
   have by_ : Blk (wz.setCell ⟨q, 8, none⟩ (.int .u32 (bt : Int))) q 55 (acE ⟨x.kind, x.n, x.keep, p⟩).toArray := by
    have := bx.set 8 (.int .u32 (bt : Int))
    rwa [hsetp.out] at this
   have ky : Only [q] wz (wz.setCell ⟨q, 8, none⟩ (.int .u32 (bt : Int))) := (Only.refl [q] wz).setCell (p := ⟨q, 8, none⟩) (.inl (by simp)) _
   have hq1 : w1.heap.size ≤ q := by have := kr.size; have := hq.out; omega
   have kwy : Only [] w1 (wz.setCell ⟨q, 8, none⟩ (.int .u32 (bt : Int))) := hσ5.only.then ky (fun i hi => .inr (by simp at hi; omega))
   have hσ6 := hσ5.beside ky kwy (fun i hi => by simp at hi; rw [hi]; exact hqR)
   have lk6 := sx.past ky (fun i hi => by simp at hi; omega)
   have hzy := ky.size
   clear c0 c8 f8 bx hσ5 sx ky
   generalize wz.setCell ⟨q, 8, none⟩ (.int .u32 (bt : Int)) = wy at *
   have r10 : wy.rangeAt q 10 (opL p) := fun j v hj => by
    have hj13 : j < 13 := by have := (List.getElem?_eq_some_iff.1 hj).1; simpa using this
    rw [by_.cell (10 + j), List.getElem?_toArray]
    unfold acE
    rw [List.getElem?_append_right (by simp; omega)]
    have e : 10 + j - [Value.int .i64 x.kind, .int .i64 x.n, .int .u64 x.keep].length = 7 + j := by simp; omega
    have hd : (pkA p).toList.drop 7 = opL p := rfl
    rw [← hd, List.getElem?_drop] at hj
    rw [e]
    exact hj
   have zo : Blk (wy.alloc (.cells zeroOp 51)) wy.heap.size 51 zeroOp := Blk.new wy _ _
   have kzo : Only [] wy (wy.alloc (.cells zeroOp 51)) := (Only.refl [] wy).alloc _
   have hqy : q < wy.heap.size := by_.lt
   have hqo : ¬ q = wy.heap.size := by omega
   go_wp2_with (first
    | (refine wpList_load_mid rfl 51 (.tmp 111) rfl q 10 rfl (opL p) _ r10 Tryz.underlying51 rfl size_op ?_)
    | (refine wpList_store_op p zeroOp rfl rfl (.tmp 14) (.tmp 112) rfl wy.heap.size rfl rfl zo ?_; intro w8 bo k8; have b8 := (by_.kept kzo (by simp)).kept k8 (by simpa using hqo); have r3 : w8.rangeAt q 3 (pkA p).toList := fun j v hj => (by rw [b8.cell (3 + j), List.getElem?_toArray]; unfold acE; rw [List.getElem?_append_right (by simp)]; have e : 3 + j - [Value.int .i64 x.kind, .int .i64 x.n, .int .u64 x.keep].length = j := by { simp }; rw [e]; exact hj))
    | (refine wpList_load_mid rfl 53 (.tmp 115) rfl q 3 rfl (pkA p).toList _ r3 Tryz.underlying53 rfl size_pk ?_))
   have ky8 : Only [] wy w8 := kzo.then k8 (fun j hj => .inr (by simp at hj; omega))
   have hσ8 := hσ6.keep ky8
   have lk8 := lk6.keep ky8
   have hRy : ∀ j ∈ R, j < wy.heap.size := fun j hj => by have := hRw.out j hj; omega
   obtain ⟨qo, hqoe⟩ : ∃ qo, qo = wy.heap.size := ⟨_, rfl⟩
   rw [← hqoe] at bo
   rw [← hqoe]
   have hqoR : qo ∉ R := fun hm => by have := hRy _ hm; omega
   have hqo8 : qo < w8.heap.size := bo.lt
   have hy8 := ky8.size
   replace hqoe := Lib.hid hqoe
   clear hσ6 lk6 by_ r10 zo kzo k8 r3
   have hstepq := fun r ok σ' P' (hst : StepQ false σ p r ok σ' P P') => hring.out.step hx.out hσ8.ok (by rw [← hp.out]; exact hpo.out) (fun hu => hσ8.whenUp hu) (by rw [← hp.out]; exact hst)
   rw [← hp.out] at hstepq
   replace hstepq := Lib.hid hstepq
   refine (hσ8.handle (by omega) (by omega) p hpo.out).mono ?_
   rintro e v1 ⟨r, ok, σ', R', P', rfl, hst, hσ9, kh, hR'⟩
   obtain ⟨hring', hsaw⟩ := hstepq.out r ok σ' P' hst
   have lk9 := lk8.past kh hR4.out
   have b9 := b8.kept kh hqR
   have bo9 := bo.kept kh hqoR
   have h81 := kh.size
   have y1 := boxed_pk v1
   have ky1 : Only [] v1 (v1.alloc (.cells zPkA 53)) := (Only.refl [] v1).alloc _
   have hn1 : ¬ q = v1.heap.size ∧ ¬ qo = v1.heap.size := by omega
   replace hring' := Lib.hid hring'
   replace hsaw := Lib.hid hsaw
   clear hσ8 lk8 b8 bo kh hst hR' hstepq
   go_upto_block 6 with (refine wpList_store_pk r zPk rfl (.tmp 15) (.tmp 118) rfl v1.heap.size rfl rfl y1 ?_; intro v2 br kr2)
   have k12 : Only [] v1 v2 := ky1.then kr2 (fun j hj => .inr (by simp at hj; omega))
   have hσ10 := hσ9.keep k12
   have lk10 := lk9.keep k12
   have b10 := b9.kept k12 (by simp)
   have bo10 := bo9.kept k12 (by simp)
   obtain ⟨qr, hqre⟩ : ∃ qr, qr = v1.heap.size := ⟨_, rfl⟩
   rw [← hqre] at br
   rw [← hqre]
   replace hqre := Lib.hid hqre
   clear hσ9 lk9 b9 bo9 y1 ky1 kr2 k12
   refine fenced_check _ (by kernel_rfl) v2 hσ10 lk10 b10 bo10 br hsaw.out _ _ (fun _ _ d _ _ h => by cases d <;> exact h) ?_
   as_aux_lemma =>
    intros
    rename_i wr kx
    have f_code : wr.cell? ⟨qo, 0, none⟩ = some (.int .i64 p.code) := ((bo10.kept kx (by simp)).cell 0).trans rfl
    have f_file : wr.cell? ⟨qo, 2, none⟩ = some (.int .u32 p.file) := ((bo10.kept kx (by simp)).cell 2).trans rfl
    have f_ep : wr.cell? ⟨qo, 3, none⟩ = some (.int .u32 p.epoch) := ((bo10.kept kx (by simp)).cell 3).trans rfl
    have f_err : wr.cell? ⟨qr, 8, none⟩ = some (.int .i64 r.err) := ((br.kept kx (by simp)).cell 8).trans rfl
    have f_frm : wr.cell? ⟨q, 4, none⟩ = some (.int .i64 p.frm) := ((b10.kept kx (by simp)).cell 4).trans rfl
    have lkx := lk10.keep kx
    have s9 := hσ10.keep kx
    have f_off : wr.cell? ⟨qo, 4, none⟩ = some (.int .u32 p.off) := ((bo10.kept kx (by simp)).cell 4).trans rfl
    have f_len : wr.cell? ⟨qo, 5, none⟩ = some (.int .u32 p.len) := ((bo10.kept kx (by simp)).cell 5).trans rfl
    have f_dat : wr.cell? ⟨qr, 19, none⟩ = some (.string r.data) := ((br.kept kx (by simp)).cell 19).trans rfl
    have f_sqr : wr.cell? ⟨qr, 4, none⟩ = some (.int .u32 r.seq) := ((br.kept kx (by simp)).cell 4).trans rfl
    have f_sqp : wr.cell? ⟨q, 7, none⟩ = some (.int .u32 p.seq) := ((b10.kept kx (by simp)).cell 7).trans rfl
    have htold := hsaw.out.told
    have kw1 : Only [] w1 wr := s9.only
    have hag2 := fun W (kk : Only [] wr W) => hagain.out W (kw1.trans kk)
    have hagp : agR p = agR x.p := by rw [hp.out]; rfl
    rw [hagp] at htold
    generalize (l.take k).any (agR x.p) = ag at *
    have hfin : ∀ W, Only [] wr W → Held l w1 W sb dp (k + 1) R' σ' P' bt := fun W kk => ⟨⟨cc + 1, b + 1, by omega, by omega, s9.keep kk⟩, hring'.out⟩
    have hob4 := fun y => Pgs.right_len (show Pgs.right (objL σ y) = true from hor.out y)
    replace htold := Lib.hid htold
    replace hag2 := Lib.hid hag2
    replace hfin := Lib.hid hfin
    replace hob4 := Lib.hid hob4
    clear s9 hσ10 lk10 bo10 br b10 hagain hsaw hring' f_frm
    dsimp only
    go_upto_region 41 with fail
    refine fenced_told _ (by kernel_rfl) wr f_err f_dat f_code f_file f_sqr f_sqp _ _ (fun _ _ d _ _ h => by cases d <;> exact h) ?_
    as_aux_lemma =>
     intros
     rename_i tb wB htb kw2
     clear f_sqr f_sqp f_err f_code
     cases tb with
     | false =>
      have hH2 := hfin.out _ kw2
      go_wp2_with fail
      go_roundg (n - (k + 1))
      case measure => omega
      case rel => exact ⟨k + 1, sb, R', σ', P', bt, by omega, rfl, by omega, by go_num, rfl, Lib.hid hH2⟩
     | true =>
      obtain ⟨rfl, hc2, hf4, he0⟩ := htb rfl
      have htd := htold.out rfl hc2 he0
      obtain ⟨fy, hfy⟩ : ∃ fy : Nat, p.file = (fy : Int) := ⟨p.file.toNat, by have := hpo.out.file.1; omega⟩
      have hfy4 : fy < 4 := by omega
      rw [show p.file.toNat = fy by omega] at htd
      rw [hfy] at f_file
      have hE := lkx.readE (k := fy) hfy4
      obtain ⟨B, d, hO, hB⟩ := lkx.readO (k := fy) hfy4
      have hl0 := hob4.out fy
      have hwo : IntKind.i64.wrap p.off = p.off := by have := hpo.out.off; obtain ⟨_, _⟩ := this; rw [IntKind.wrap_i64]; omega
      have hwl : IntKind.i64.wrap p.len = p.len := by have := hpo.out.len; obtain ⟨_, _⟩ := this; rw [IntKind.wrap_i64]; omega
      have hlen9 : p.len ≤ 9223372036854775807 := by have := hpo.out.len.2; omega
      generalize (epN σ.M fy : Int) = e0 at *
      generalize objL σ fy = o0 at *
      have hby := fun W (kk : Only [] wr W) => Pgs.bytes_any W B d _ o0 rfl (hB.kept kk (by simp)) (by omega) p.off p.len hlen9
      have htd2 : (errB (okBytes o0 p.off p.len) = 0 ∧ strOf (bytesL o0 p.off p.len) = r.data) ∨ ag = true := by
       rcases htd with ⟨h1, h2⟩ | h
       ·exact .inl ⟨by rw [h1]; rfl, h2.symm⟩
       ·exact .inr h
      clear htd lkx
      generalize errB (okBytes o0 p.off p.len) = er at *
      generalize strOf (bytesL o0 p.off p.len) = dt at *
      replace hby := Lib.hid hby
      replace htd2 := Lib.hid htd2
      replace hfy := Lib.hid hfy
      replace hc2 := Lib.hid hc2
      replace hf4 := Lib.hid hf4
      replace he0 := Lib.hid he0
      replace hl0 := Lib.hid hl0
      replace hlen9 := Lib.hid hlen9
      clear htold htb hob4
      go_upto_region 42 with fail
      refine fenced_read _ (by kernel_rfl) wB (kw2.cell f_file (by simp)) (kw2.cell hO (by simp)) (kw2.cell f_off (by simp)) (kw2.cell f_len (by simp)) hwo hwl (by omega) (fun W kk => hby.out W (kw2.trans kk)) _ _ (fun _ _ d _ _ h => by cases d <;> exact h) ?_
      intros
      rename_i wC kw3
      replace kw3 := kw2.trans kw3
      go_upto_region 43 with fail
      refine fenced_again _ (by kernel_rfl) wC (kw3.cell f_ep (by simp)) (kw3.cell f_file (by simp)) (kw3.cell hE (by simp)) (kw3.cell f_dat (by simp)) (by omega) (fun W kk => hag2.out W (kw3.trans kk)) htd2.out _ _ (fun _ _ d _ _ h => by cases d <;> exact h) ?_
      intros
      rename_i wD kw4
      have hH2 := hfin.out _ (kw3.trans kw4)
      go_wp2_with fail
      go_roundg (n - (k + 1))
      case measure => omega
      case rel => exact ⟨k + 1, sb, R', σ', P', bt, by omega, rfl, by omega, by go_num, rfl, Lib.hid hH2⟩
end Go.Proofs.YtmelaiefbpdifaaGreatDoor.Srv
