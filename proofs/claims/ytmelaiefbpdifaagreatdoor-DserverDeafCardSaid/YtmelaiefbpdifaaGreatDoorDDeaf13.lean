/- DserverDeaf: the walk. -/
import Derived.Test.YtmelaiefbpdifaaGreatDoorDOp14
import Derived.Deep.CutBlock
import Derived.Deep.DeepCutAuto
import Derived.Deep.LoopGhost
namespace Go.Proofs.YtmelaiefbpdifaaGreatDoor.Srv
open Go.RowKit Go.Maps
open Pgs (Pg pgE)
def Sames (σ : Sv) : Prop := σ.N = 99 ∧ σ.me = 1 ∧ σ.boot = 1
def p1 (p : Pk) : Pk := { p with asked := 1 }
theorem u_one : U 1 := by unfold U; decide
theorem p1_ok {p : Pk} (h : p.Ok) : (p1 p).Ok := ⟨h.kind, h.frm, h.dst, h.life, h.seq, u_one, h.boot, h.code, h.err, h.file, h.epoch, h.off, h.len, h.size, h.mode, h.deny, h.handle⟩
theorem act_pk {w : World} {A : Option Addr} {l : List Ac} (h : Els acE 23 w A l) {k : Nat} (hk : k < l.length) : ∃ g o, A = some ⟨g, o, none⟩ ∧ w.rangeAt g (o + k * 23 + 3) (pkA l[k].p).toList := by
  obtain ⟨g, o, rfl, _, hat⟩ := h.get hk
  refine ⟨g, o, rfl, fun j v hj => ?_⟩
  have := hat k hk (3 + j) v (by
    unfold acE
    rw [List.getElem?_append_right (by simp)]
    simpa using hj)
  rw [show o + k * 23 + (3 + j) = o + k * 23 + 3 + j by omega] at this
  exact this
abbrev zEps : Array Value := #[.int .u32 0, .int .u32 0, .int .u32 0, .int .u32 0, .int .u32 0, .int .u32 0]
abbrev zObs : Array Value := #[.slice none 0 0, .slice none 0 0, .slice none 0 0, .slice none 0 0, .slice none 0 0, .slice none 0 0]
structure Seen (w0 w : World) (ge go : Nat) (σ : Sv) (i j : Nat) : Prop where
  eps : ∃ cs : Array Value, cs.size = 6 ∧ Blk w ge 76 cs ∧ ∀ k, k < i → cs[k]? = some (.int .u32 (epN σ.M k : Int))
  obs : ∃ cs : Array Value, cs.size = 6 ∧ Blk w go 77 cs ∧ ∀ k, k < j → ∃ A c, cs[k]? = some (.slice A (objL σ k).length c) ∧ Els pgE 2 w A (objL σ k) ∧ ∀ a, A = some a → w0.heap.size ≤ a.block ∧ a.block ≠ ge ∧ a.block ≠ go
  new : w0.heap.size ≤ ge ∧ w0.heap.size ≤ go ∧ ge ≠ go
section
variable {w0 w w' : World} {ge go i j : Nat} {σ : Sv}
theorem Seen.past {S : List Nat} (h : Seen w0 w ge go σ i j) (k : Only S w w') (hS : ∀ x ∈ S, x < w0.heap.size) : Seen w0 w' ge go σ i j := by
  obtain ⟨⟨cs, h1, h2, h3⟩, ⟨ds, d1, d2, d3⟩, n1, n2, n3⟩ := h
  refine ⟨⟨cs, h1, h2.kept k (fun hm => by have := hS _ hm; omega), h3⟩, ⟨ds, d1, d2.kept k (fun hm => by have := hS _ hm; omega), fun x hx => ?_⟩, n1, n2, n3⟩
  obtain ⟨A, c, e1, e2, e3⟩ := d3 x hx
  exact ⟨A, c, e1, e2.kept k (fun a ha hm => by have := hS _ hm; have := (e3 a ha).1; omega), e3⟩
theorem Seen.keep (h : Seen w0 w ge go σ i j) (k : Only [] w w') : Seen w0 w' ge go σ i j := h.past k (by simp)
theorem Seen.ep {k : Nat} (h : Seen w0 w ge go σ k j) (hk : k < 6) : Seen w0 (w.setCell ⟨ge, k, none⟩ (.int .u32 (epN σ.M k : Int))) ge go σ (k + 1) j := by
  obtain ⟨⟨cs, h1, h2, h3⟩, ⟨ds, d1, d2, d3⟩, n1, n2, n3⟩ := h
  have ko : Only [ge] w (w.setCell ⟨ge, k, none⟩ (.int .u32 (epN σ.M k : Int))) := (Only.refl [ge] w).setCell (.inl (by simp)) _
  refine ⟨⟨_, by simpa using h1, h2.set k _, fun x hx => ?_⟩, ⟨ds, d1, d2.kept ko (by simpa using fun h => n3 h.symm), fun x hx => ?_⟩, n1, n2, n3⟩
  · by_cases hx' : x = k
    · subst hx'
      rw [Array.getElem?_setIfInBounds_self_of_lt (by omega)]
    · rw [Array.getElem?_setIfInBounds_ne (by omega)]
      exact h3 x (by omega)
  · obtain ⟨A, c, e1, e2, e3⟩ := d3 x hx
    exact ⟨A, c, e1, e2.kept ko (fun a ha => by simpa using (e3 a ha).2.1), e3⟩
theorem Seen.ob {k c : Nat} {A : Option Addr} (h : Seen w0 w ge go σ i k) (hk : k < 6) (hA : Els pgE 2 w A (objL σ k)) (ha : ∀ a, A = some a → w0.heap.size ≤ a.block ∧ a.block ≠ ge ∧ a.block ≠ go) : Seen w0 (w.setCell ⟨go, k, none⟩ (.slice A (objL σ k).length c)) ge go σ i (k + 1) := by
  obtain ⟨⟨cs, h1, h2, h3⟩, ⟨ds, d1, d2, d3⟩, n1, n2, n3⟩ := h
  have ko : Only [go] w (w.setCell ⟨go, k, none⟩ (.slice A (objL σ k).length c)) := (Only.refl [go] w).setCell (.inl (by simp)) _
  refine ⟨⟨cs, h1, h2.kept ko (by simpa using n3), h3⟩, ⟨_, by simpa using d1, d2.set k _, fun x hx => ?_⟩, n1, n2, n3⟩
  by_cases hx' : x = k
  · subst hx'
    exact ⟨A, c, by rw [Array.getElem?_setIfInBounds_self_of_lt (by omega)], hA.kept ko (fun a h => by simpa using (ha a h).2.2), ha⟩
  · obtain ⟨A', c', e1, e2, e3⟩ := d3 x (by omega)
    exact ⟨A', c', by rw [Array.getElem?_setIfInBounds_ne (by omega)]; exact e1, e2.kept ko (fun a h => by simpa using (e3 a h).2.2), e3⟩
theorem Seen.cellE {k : Nat} (h : Seen w0 w ge go σ i j) (hk : k < 6) : (∃ v, w.cell? ⟨ge, k, none⟩ = some v) ∧ w.frozen? ⟨ge, k, none⟩ = false ∧ ge < w.heap.size := by
  obtain ⟨⟨cs, h1, h2, _⟩, _⟩ := h
  exact ⟨⟨cs[k]'(by omega), by rw [h2.cell k]; exact Array.getElem?_eq_getElem (by omega)⟩, h2.free k, h2.lt⟩
theorem Seen.cellO {k : Nat} (h : Seen w0 w ge go σ i j) (hk : k < 6) : (∃ v, w.cell? ⟨go, k, none⟩ = some v) ∧ w.frozen? ⟨go, k, none⟩ = false ∧ go < w.heap.size := by
  obtain ⟨_, ⟨cs, h1, h2, _⟩, _⟩ := h
  exact ⟨⟨cs[k]'(by omega), by rw [h2.cell k]; exact Array.getElem?_eq_getElem (by omega)⟩, h2.free k, h2.lt⟩
theorem Seen.readE {k : Nat} (h : Seen w0 w ge go σ i j) (hk : k < i) : w.cell? ⟨ge, k, none⟩ = some (.int .u32 (epN σ.M k : Int)) := by
  obtain ⟨⟨cs, h1, h2, h3⟩, _⟩ := h
  rw [h2.cell k, h3 k hk]
theorem Seen.readO {k : Nat} (h : Seen w0 w ge go σ i j) (hk : k < j) : ∃ A c, w.cell? ⟨go, k, none⟩ = some (.slice A (objL σ k).length c) ∧ Els pgE 2 w A (objL σ k) := by
  obtain ⟨_, ⟨cs, h1, h2, h3⟩, _⟩ := h
  obtain ⟨A, c, e1, e2, _⟩ := h3 k hk
  exact ⟨A, c, by rw [h2.cell k, e1], e2⟩
end
set_option maxRecDepth 100000 in
set_option maxHeartbeats 8000000 in
theorem dserverDeaf_walk (w : World) (A : Option Addr) (c : Nat) (l : List Ac) (hA : Els acE 23 w A l) (hok : okayA l) (p : Pk) (hp : p.Ok) :
    Calls Tryz.prog 8 #[.slice A l.length c, pkV p] w fun e w' => e = .returned (.bool true) ∧ Only [] w w' := by
  obtain ⟨n, hn⟩ : ∃ n, n = l.length := ⟨_, rfl⟩
  rw [← hn]
  replace hn := Lib.hid hn
  replace hok := Lib.hid hok
  go_enter Tryz.func8, Tryz.ntmps8
  go_wp2_with fail
  refine (alive_any _).mono ?_; rintro e w1 ⟨rfl, k1⟩
  have b1 := (Blk.new w 53 (pkA p)).kept k1 (by simp)
  have k01 := ((Only.refl [] w).alloc (.cells (pkA p) 53)).trans k1
  have hA1 := hA.kept k01 (by simp)
  have hnew := ownNew_any w1 w1 140 (by decide) (by decide) (Only.refl _ _)
  replace hnew := Lib.hid hnew
  clear hA k1
  obtain ⟨q, hq⟩ : ∃ q, q = w.heap.size := ⟨_, rfl⟩
  rw [← hq] at b1
  simp only [← hq]
  replace hq := Lib.hid hq
  go_wp2_with fail
  refine hnew.out.mono ?_; rintro e w2 ⟨dp, F, rfl, hd1, _, _⟩
  clear hnew
  go_wp2_with fail
  refine (OwnD.startL (N := 99) hd1 (by decide) (by decide) 1 ⟨by decide, by decide⟩).mono ?_
  rintro e w3 ⟨sb, R0, M0, rfl, hl0, _, _, hG, hM⟩
  have hs0 : Sames (srv0 99 1 1 M0) := ⟨rfl, rfl, rfl⟩
  generalize srv0 99 1 1 M0 = σ0 at *
  clear hG hM hd1
  have hlt0 : ∀ k R σ W, SrvL w1 W R sb dp σ k → Only [] w1 W := fun k R σ W h => h.only
  go_upto_block 0 with fail
  go_cut [7] (fun s7 wx => ∃ (k : Nat) (R : List Nat) (σ : Sv), k ≤ 20 ∧ s7 = .int .i64 k ∧ SrvL w1 wx R sb dp σ k ∧ Hid (Sames σ))
  case first =>
    go_wp2_with fail
    go_loopg [7] n (fun gh i wr => ∃ (k : Nat) (R : List Nat) (σ : Sv), k ≤ n ∧ gh = n - k ∧ k ≤ 20 ∧ i = .int .i64 k ∧ SrvL w1 wr R sb dp σ k ∧ Hid (Sames σ))
    case atStart => exact ⟨0, R0, σ0, Nat.zero_le _, rfl, Nat.zero_le _, rfl, hl0, Lib.hid hs0⟩
    case round =>
      obtain ⟨k, R, σ, hk, rfl, hk20, rfl, hσ, hsm⟩ := hrel
      have kr := hσ.only
      by_cases hgo : k < n ∧ k < 20
      · obtain ⟨hlt, h20⟩ := hgo
        have hkl : k < l.length := by have := hn.out; omega
        obtain ⟨g, o, rfl, hr⟩ := act_pk (hA1.kept kr (by simp)) hkl
        have hpo := p1_ok (hok.out l[k] (List.getElem_mem _))
        generalize l[k] = x at *
        obtain ⟨_, _, _, x⟩ := x
        simp only at hr hpo
        have z1 := boxed_pk wr
        have kz : Only [] wr (wr.alloc (.cells zPkA 53)) := (Only.refl [] wr).alloc _
        go_wp2_with (first
          | (refine wpList_load_mid rfl 53 (.tmp 36) rfl g (o + k * 23 + 3) rfl (pkA x).toList _ hr Tryz.underlying53 rfl size_pk ?_)
          | (refine wpList_store_pk x zPk rfl (.tmp 8) (.tmp 37) rfl wr.heap.size rfl rfl z1 ?_; intro w4 b4 k4; have c5 : w4.cell? ⟨wr.heap.size, 5, none⟩ = some (.int .u32 x.asked) := (b4.cell 5).trans rfl; have b5 : Blk (w4.setCell ⟨wr.heap.size, 5, none⟩ (.int .u32 1)) wr.heap.size 53 (pkA (p1 x)) := b4.set 5 _; have f5 := b4.free 5)
          | (refine wpList_load_pk (p1 x) rfl (.tmp 8) rfl wr.heap.size rfl b5 ?_))
        have kq : Only [] wr (w4.setCell ⟨wr.heap.size, 5, none⟩ (.int .u32 1)) := kz.then (k4.setCell (p := ⟨wr.heap.size, 5, none⟩) (.inl (by simp)) _) (fun j hj => .inr (by simp at hj; omega))
        clear c5 f5 k4 b4 kz z1 b5
        generalize w4.setCell ⟨wr.heap.size, 5, none⟩ (.int .u32 1) = w5 at *
        refine ((hσ.keep kq).handle (by omega) (p1 x) hpo).mono ?_
        rintro e w6 ⟨r, ok, σ', R', rfl, hh, hl', _, _⟩
        have hs' : Sames σ' := by
          obtain ⟨a1, a2, a3⟩ := handled_same hh
          obtain ⟨c1, c2, c3⟩ := hsm.out
          exact ⟨a1.trans c1, a2.trans c2, a3.trans c3⟩
        clear hh
        go_wp2_with fail
        go_roundg (n - (k + 1))
        case measure => omega
        case rel => exact ⟨k + 1, R', σ', by omega, rfl, by omega, by go_num, hl', Lib.hid hs'⟩
      · by_cases hlt : k < n
        · have h20 : ¬ k < 20 := fun h => hgo ⟨hlt, h⟩
          go_wp2_with fail
          go_meet
          exact ⟨k, R, σ, hk20, rfl, hσ, hsm⟩
        · go_wp2_with fail
          go_meet
          exact ⟨k, R, σ, hk20, rfl, hσ, hsm⟩
  case rest =>
    obtain ⟨kk, R, σ, hk20, rfl, hσ, hsm⟩ := hcut
    generalize wc = wa at *
    have kr := hσ.only
    have bq := b1.kept kr (by simp)
    go_upto_region 10 with fail
    go_cut [59] (fun s wx => s = .bool (decide (p.Right ∧ p.kind = 1 ∧ p.dst = 1 ∧ p.code ≤ 5)) ∧ Only [] wa wx)
    case first =>
      go_wp2_with (refine wpList_load_pk p rfl (.tmp 3) rfl q rfl bq ?_)
      refine (rright_any _ p).mono ?_; rintro e w5 ⟨rfl, k5⟩
      have b5 := bq.kept k5 (by simp)
      have c0 := b5.cell 0
      have c2 := b5.cell 2
      have c7 := b5.cell 7
      simp only [List.getElem?_toArray, List.getElem?_cons_zero, List.getElem?_cons_succ] at c0 c2 c7
      by_cases h1 : p.Right
      · rw [decide_eq_true h1]
        by_cases h2 : p.kind = 1
        · have h2' : (p.kind == 1) = true := by rw [beq_iff_eq]; exact h2
          by_cases h3 : p.dst = 1
          · have h3' : (p.dst == 1) = true := by rw [beq_iff_eq]; exact h3
            go_wp2_with fail
            go_meet
            exact ⟨congrArg Value.bool (decide_eq_decide.2 ⟨fun h => ⟨h1, h2, h3, h⟩, fun h => h.2.2.2⟩), k5⟩
          · have h3' : (p.dst == 1) = false := by rw [beq_eq_false_iff_ne]; exact h3
            go_wp2_with fail
            go_meet
            exact ⟨congrArg Value.bool (decide_eq_false fun h => h3 h.2.2.1).symm, k5⟩
        · have h2' : (p.kind == 1) = false := by rw [beq_eq_false_iff_ne]; exact h2
          go_wp2_with fail
          go_meet
          exact ⟨congrArg Value.bool (decide_eq_false fun h => h2 h.2.1).symm, k5⟩
      · rw [decide_eq_false h1]
        go_wp2_with fail
        go_meet
        exact ⟨congrArg Value.bool (decide_eq_false fun h => h1 h.1).symm, k5⟩
    case rest =>
      obtain ⟨rfl, kw⟩ := hcut
      have hσ1 := hσ.keep kw
      replace bq := bq.kept kw (by simp)
      clear hσ kr
      generalize wc = wr1 at *
      by_cases hall : p.Right ∧ p.kind = 1 ∧ p.dst = 1 ∧ p.code ≤ 5
      · rw [decide_eq_true hall]
        have kx := k01.trans hσ1.only
        go_wp2_with fail
        refine (alive_any _).mono ?_; rintro e w5 ⟨rfl, k5⟩
        go_wp2
        go_ret
        exact ⟨rfl, kx.trans k5⟩
      · rw [decide_eq_false hall]
        have hnt : ¬ takes σ p := fun h => hall ⟨h.1, h.2.1, h.2.2.1.trans hsm.out.2.1, h.2.2.2.2⟩
        have hroom := hσ1.room
        go_wp2_with fail
        refine hroom.mono ?_; rintro e w5 ⟨rfl, k5⟩
        have hσ2 := hσ1.keep k5
        replace bq := bq.kept k5 (by simp)
        clear hroom hσ1 kw
        go_wp2_with fail
        have hR2 : ∀ j ∈ R, j < w5.heap.size := fun j hj => (hσ2.new j hj).2
        obtain ⟨w6, hw6⟩ : ∃ w6, w6 = (w5.alloc (.cells zEps 76)).alloc (.cells zObs 77) := ⟨_, rfl⟩
        change Code.wp _ (Code.loop _) _ _ ((w5.alloc (.cells zEps 76)).alloc (.cells zObs 77))
        rw [← hw6]
        have k6 : Only [] w5 w6 := by rw [hw6]; exact ((Only.refl [] w5).alloc _).alloc _
        have s6 : Seen w5 w6 w5.heap.size (w5.heap.size + 1) σ 0 0 := by
          rw [hw6]
          refine ⟨⟨zEps, rfl, (Blk.new w5 _ zEps).alloc _, fun k hk => by omega⟩, ⟨zObs, rfl, ?_, fun k hk => by omega⟩, ⟨Nat.le_refl _, by omega, by omega⟩⟩
          have := Blk.new (w5.alloc (.cells zEps 76)) 77 zObs
          rwa [show (w5.alloc (.cells zEps 76)).heap.size = w5.heap.size + 1 by simp] at this
        clear hw6
        obtain ⟨ge, hge⟩ : ∃ ge, ge = w5.heap.size := ⟨_, rfl⟩
        obtain ⟨gp, hgp⟩ : ∃ gp, gp = w5.heap.size + 1 := ⟨_, rfl⟩
        rw [← hgp, ← hge] at s6
        rw [← hgp, ← hge]
        replace hge := Lib.hid hge
        replace hgp := Lib.hid hgp
        go_loopw [12] (fun i wx => ∃ k : Nat, k ≤ 6 ∧ i = .int .u32 k ∧ Seen w5 wx ge gp σ k k ∧ Only [] w5 wx) (fun i _ => 6 - (intOf i).toNat)
        case atStart => exact ⟨0, by omega, rfl, s6, k6⟩
        case round =>
          obtain ⟨k, hk, rfl, sx, kx⟩ := hrel
          by_cases hlt : k < 6
          · have hep := (hσ2.keep kx).epoch (k : Int) (by unfold U; omega)
            simp only [Int.toNat_natCast] at hep
            go_wp2_with fail
            refine hep.mono ?_; rintro e w7 ⟨rfl, k7⟩
            have s7 := sx.keep k7
            obtain ⟨⟨v, cv⟩, fv, _⟩ := s7.cellE hlt
            have s8 := s7.ep hlt
            have k8 : Only [] w5 (w7.setCell ⟨ge, k, none⟩ (.int .u32 (epN σ.M k : Int))) := (kx.trans k7).setCell (.inr (by have := hge.out; show w5.heap.size ≤ ge; omega)) _
            have hob := (hσ2.keep k8).object k k rfl (by omega)
            clear hep
            go_wp2_with fail
            have hnew8 : w7.heap.size = (w7.setCell ⟨ge, k, none⟩ (.int .u32 (epN σ.M k : Int))).heap.size := by simp
            have hg7 := s8.cellE hlt
            have hp7 := s8.cellO hlt
            generalize w7.setCell ⟨ge, k, none⟩ (.int .u32 (epN σ.M k : Int)) = w8 at *
            refine hob.mono ?_; rintro e w9 ⟨v', rfl, B, d, rfl, _, hE, k9, hB⟩
            have s9 := s8.keep k9
            obtain ⟨⟨v2, cv2⟩, fv2, _⟩ := s9.cellO hlt
            have hw8 := k8.size
            have hBB : ∀ a, B = some a → w5.heap.size ≤ a.block ∧ a.block ≠ ge ∧ a.block ≠ gp := fun a ha => by
              have := hB a ha
              have := hg7.2.2
              have := hp7.2.2
              exact ⟨by omega, by omega, by omega⟩
            have s10 := s9.ob (c := d) hlt hE hBB
            have k10 : Only [] w5 (w9.setCell ⟨gp, k, none⟩ (.slice B (objL σ k).length d)) := (k8.trans k9).setCell (.inr (by have := hgp.out; show w5.heap.size ≤ gp; omega)) _
            clear hob cv fv s7 s8 s9 sx
            go_wp2_with fail
            go_roundw
            case rel => exact ⟨k + 1, by omega, by go_num, s10, k10⟩
            case measure => simp [intOf]; omega
          · obtain rfl : k = 6 := by omega
            have hσ3 := hσ2.keep kx
            have hh := hσ3.handle (by omega) p hp
            replace bq := bq.kept kx (by simp)
            clear hσ2 s6
            go_wp2_with (refine wpList_load_pk p rfl (.tmp 3) rfl q rfl bq ?_)
            refine hh.mono ?_; rintro e w7 ⟨r, ok, σ', R', rfl, hd, hl', kh, hR'⟩
            obtain ⟨rfl, rfl, rfl⟩ : r = zPk ∧ ok = false ∧ σ' = σ := by
              rcases hd with ⟨_, h⟩ | ⟨h, _⟩ | ⟨h, _⟩ | ⟨h, _⟩ | ⟨h, _⟩
              · exact h
              all_goals exact absurd h.2 hnt
            have s7 := sx.past kh hR2
            have z7 := boxed_pk w7
            have kz7 : Only [] w7 (w7.alloc (.cells zPkA 53)) := (Only.refl [] w7).alloc _
            clear hh hd sx hR'
            go_wp2_with (refine wpList_store_pk zPk zPk rfl (.tmp 13) (.tmp 81) rfl w7.heap.size rfl rfl z7 ?_; intro w8 b8 k8)
            have k78 : Only [] w7 w8 := kz7.then k8 (fun j hj => .inr (by simp at hj; omega))
            have s8 := s7.keep k78
            have h8 := hl'.keep k78
            clear s7 hl' kz7 k8 z7
            go_loopw [15] (fun i wx => ∃ k : Nat, k ≤ 6 ∧ i = .int .u32 k ∧ Only [] w8 wx) (fun i _ => 6 - (intOf i).toNat)
            case atStart => exact ⟨0, by omega, rfl, Only.refl [] _⟩
            case round =>
              obtain ⟨k, hk, rfl, kx⟩ := hrel
              by_cases hlt : k < 6
              · have s9 := s8.keep kx
                have h9 := h8.keep kx
                have hE := s9.readE (k := k) hlt
                obtain ⟨B, d, hO, hB⟩ := s9.readO (k := k) hlt
                have hlen := Pgs.right_len (obj_right h9.ok k)
                have hep := fun W (kk : Only [] wr W) => (h9.keep kk).epoch (k : Int) (by unfold U; omega)
                simp only [Int.toNat_natCast] at hep
                have hob := fun W (kk : Only [] wr W) => (h9.keep kk).object (k : Int) k rfl (by omega)
                have hsame := fun W A c (hA : Els pgE 2 W A (objL σ' k)) (hB : Els pgE 2 W B (objL σ' k)) => Pgs.same_yes W A B c d _ _ (objL σ' k) rfl rfl hA hB (by omega)
                clear s9
                generalize epN σ'.M k = en at *
                generalize objL σ' k = ob at *
                replace hep := Lib.hid hep
                replace hob := Lib.hid hob
                replace hsame := Lib.hid hsame
                go_wp2_with fail
                have kd : Only [] wr wr.drew := (Only.refl [] wr).drew
                have eE : wr.drew.cell? ⟨ge, k, none⟩ = some (.int .u32 (en : Int)) := kd.cell hE (by simp)
                have eO : wr.drew.cell? ⟨gp, k, none⟩ = some (.slice B ob.length d) := kd.cell hO (by simp)
                refine wp_region_held_drew (S := fun w' => w'.cell? ⟨ge, k, none⟩ = some (.int .u32 (en : Int)) ∧ w'.cell? ⟨gp, k, none⟩ = some (.slice B ob.length d)) (by kernel_rfl) ⟨eE, eO⟩ (fun hHeld => ?_)
                generalize wr.drew = wd at *
                refine held_take 0 (.pointer (some ⟨sb, 0, none⟩)) rfl (by kernel_rfl) (by kernel_rfl) (by kernel_rfl) (fun _ _ _ h => h) hHeld (Or.inl ⟨by rfl, fun w' hSw => by (try dsimp only at hSw); (try subst hSw); go_simp⟩) ?_
                simp only [Act.put, List.setIfInBounds_toArray, List.set_cons_zero, List.set_cons_succ]
                refine held_take 1 (.int .u32 (k : Int)) rfl (by kernel_rfl) (by kernel_rfl) (by kernel_rfl) (fun _ _ _ h => h) hHeld (Or.inl ⟨by rfl, fun w' hSw => by (try dsimp only at hSw); (try subst hSw); go_simp⟩) ?_
                simp only [Act.put, List.setIfInBounds_toArray, List.set_cons_zero, List.set_cons_succ]
                refine held_take 3 (.int .u32 (k : Int)) rfl (by kernel_rfl) (by kernel_rfl) (by kernel_rfl) (fun _ _ _ h => h) hHeld (Or.inl ⟨by rfl, fun w' hSw => by (try dsimp only at hSw); (try subst hSw); go_simp⟩) ?_
                simp only [Act.put, List.setIfInBounds_toArray, List.set_cons_zero, List.set_cons_succ]
                refine held_take 4 (.pointer (some ⟨ge, k, none⟩)) rfl (by kernel_rfl) (by kernel_rfl) (by kernel_rfl) (fun _ _ _ h => h) hHeld (Or.inl ⟨by rfl, fun w' hSw => by (try dsimp only at hSw); (try subst hSw); go_simp⟩) ?_
                simp only [Act.put, List.setIfInBounds_toArray, List.set_cons_zero, List.set_cons_succ]
                refine held_take 5 (.int .u32 (en : Int)) rfl (by kernel_rfl) (by kernel_rfl) (by kernel_rfl) (fun _ _ _ h => h) hHeld (Or.inl ⟨by rfl, fun w' hSw => by obtain ⟨hc, _⟩ := hSw; go_simp⟩) ?_
                simp only [Act.put, List.setIfInBounds_toArray, List.set_cons_zero, List.set_cons_succ]
                refine held_step 2 rfl (by kernel_rfl) (fun K hK => ?_)
                go_simp
                refine (hep.out _ kd).mono ?_; rintro e w10 ⟨rfl, k10⟩
                have k11 := kd.trans k10
                go_wp2_with fail
                refine hK.out _ _ ⟨k10.cell eE (by simp), k10.cell eO (by simp)⟩ (fun hHeld => ?_)
                clear hK K
                refine held_take 6 (.bool false) rfl (by kernel_rfl) (by kernel_rfl) (by kernel_rfl) (fun _ _ _ h => h) hHeld (Or.inl ⟨by rfl, fun w' hSw => by (try dsimp only at hSw); (try subst hSw); go_simp⟩) ?_
                simp only [Act.put, List.setIfInBounds_toArray, List.set_cons_zero, List.set_cons_succ]
                refine held_take 7 (.bool false) rfl (by kernel_rfl) (by kernel_rfl) (by kernel_rfl) (fun _ _ _ h => h) hHeld (Or.inl ⟨by rfl, fun w' hSw => by (try dsimp only at hSw); (try subst hSw); go_simp⟩) ?_
                simp only [Act.put, List.setIfInBounds_toArray, List.set_cons_zero, List.set_cons_succ]
                refine held_take 8 (.pointer (some ⟨sb, 0, none⟩)) rfl (by kernel_rfl) (by kernel_rfl) (by kernel_rfl) (fun _ _ _ h => h) hHeld (Or.inl ⟨by rfl, fun w' hSw => by (try dsimp only at hSw); (try subst hSw); go_simp⟩) ?_
                simp only [Act.put, List.setIfInBounds_toArray, List.set_cons_zero, List.set_cons_succ]
                refine held_take 9 (.int .u32 (k : Int)) rfl (by kernel_rfl) (by kernel_rfl) (by kernel_rfl) (fun _ _ _ h => h) hHeld (Or.inl ⟨by rfl, fun w' hSw => by (try dsimp only at hSw); (try subst hSw); go_simp⟩) ?_
                simp only [Act.put, List.setIfInBounds_toArray, List.set_cons_zero, List.set_cons_succ]
                refine held_take 11 (.int .u32 (k : Int)) rfl (by kernel_rfl) (by kernel_rfl) (by kernel_rfl) (fun _ _ _ h => h) hHeld (Or.inl ⟨by rfl, fun w' hSw => by (try dsimp only at hSw); (try subst hSw); go_simp⟩) ?_
                simp only [Act.put, List.setIfInBounds_toArray, List.set_cons_zero, List.set_cons_succ]
                refine held_take 12 (.pointer (some ⟨gp, k, none⟩)) rfl (by kernel_rfl) (by kernel_rfl) (by kernel_rfl) (fun _ _ _ h => h) hHeld (Or.inl ⟨by rfl, fun w' hSw => by (try dsimp only at hSw); (try subst hSw); go_simp⟩) ?_
                simp only [Act.put, List.setIfInBounds_toArray, List.set_cons_zero, List.set_cons_succ]
                refine held_take 13 (.slice B ob.length d) rfl (by kernel_rfl) (by kernel_rfl) (by kernel_rfl) (fun _ _ _ h => h) hHeld (Or.inl ⟨by rfl, fun w' hSw => by obtain ⟨_, hc⟩ := hSw; go_simp⟩) ?_
                simp only [Act.put, List.setIfInBounds_toArray, List.set_cons_zero, List.set_cons_succ]
                refine held_step 10 rfl (by kernel_rfl) (fun K hK => ?_)
                go_simp
                refine (hob.out _ k11).mono ?_; rintro e w12 ⟨v, rfl, C, dC, rfl, _, hC, k12, _⟩
                have k13 := k11.trans k12
                go_wp2_with fail
                refine hK.out _ _ ⟨k13.cell hE (by simp), k13.cell hO (by simp)⟩ (fun hHeld => ?_)
                clear hK K
                refine held_step 14 rfl (by kernel_rfl) (fun K hK => ?_)
                go_simp
                refine (hsame.out _ C dC hC (hB.kept k13 (by simp))).mono ?_; rintro e w14 ⟨rfl, k14⟩
                have k15 := k13.trans k14
                go_wp2_with fail
                refine hK.out _ _ ⟨k15.cell hE (by simp), k15.cell hO (by simp)⟩ (fun hHeld => ?_)
                clear hK K
                refine held_take 15 (.bool false) rfl (by kernel_rfl) (by kernel_rfl) (by kernel_rfl) (fun _ _ _ h => h) hHeld (Or.inl ⟨by rfl, fun w' hSw => by (try dsimp only at hSw); (try subst hSw); go_simp⟩) ?_
                simp only [Act.put, List.setIfInBounds_toArray, List.set_cons_zero, List.set_cons_succ]
                refine held_take 16 (.bool false) rfl (by kernel_rfl) (by kernel_rfl) (by kernel_rfl) (fun _ _ _ h => h) hHeld (Or.inl ⟨by rfl, fun w' hSw => by (try dsimp only at hSw); (try subst hSw); go_simp⟩) ?_
                simp only [Act.put, List.setIfInBounds_toArray, List.set_cons_zero, List.set_cons_succ]
                refine wpAnyH_done (by kernel_rfl) ?_ _
                clear hHeld
                go_wp2_with fail
                go_roundw
                case rel => exact ⟨k + 1, by omega, by go_num, kx.trans k15⟩
                case measure => simp [intOf]; omega
              · obtain rfl : k = 6 := by omega
                have h9 := h8.keep kx
                have b9 := b8.kept kx (by simp)
                have kend := k01.trans h9.only
                have hroom := fun W (kk : Only [] wr W) => (h9.keep kk).room
                have hdown := fun W (kk : Only [] wr W) => (h9.keep kk).down
                have hboot := fun W (kk : Only [] wr W) => (h9.keep kk).boot
                rw [hsm.out.2.2] at hboot
                generalize roomI σ' = ri at *
                obtain ⟨qb, hqb⟩ : ∃ qb, qb = w7.heap.size := ⟨_, rfl⟩
                rw [← hqb] at b9
                rw [← hqb]
                replace hqb := Lib.hid hqb
                replace hroom := Lib.hid hroom
                replace hdown := Lib.hid hdown
                replace hboot := Lib.hid hboot
                clear h8 s8 b8 h9
                go_wp2_with fail
                refine (alive_any _).mono ?_; rintro e v1 ⟨rfl, k1⟩
                have b10 := b9.kept k1 (by simp)
                go_wp2_with (first
                  | (refine wpList_load_pk zPk rfl (.tmp 13) rfl qb rfl b10 ?_)
                  | (refine wpList_eql_pk zPk zPk rfl (.tmp 110) (.tmp 111) _ rfl rfl rfl true (by simp) ?_))
                refine (hroom.out _ k1).mono ?_; rintro e v2 ⟨rfl, k2⟩
                have k12 := k1.trans k2
                go_wp2_with fail
                refine (hdown.out _ k12).mono ?_; rintro e v3 ⟨rfl, rfl⟩
                go_wp2_with fail
                refine (hboot.out _ k12).mono ?_; rintro e v4 ⟨rfl, rfl⟩
                go_wp2_with fail
                go_ret
                exact ⟨rfl, kend.trans k12⟩
end Go.Proofs.YtmelaiefbpdifaaGreatDoor.Srv
