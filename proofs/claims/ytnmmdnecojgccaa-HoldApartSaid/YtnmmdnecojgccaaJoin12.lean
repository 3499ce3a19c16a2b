/- A lock without a client's hold, in its next epoch, with one more holder. -/
import Derived.Test.YtnmmdnecojgccaaOwn12
namespace Go.Proofs.Ytnmmdnecojgccaa
open Go.RowKit
set_option linter.unusedVariables false

/-- A lock's box and the result's box, laid. -/
structure Two (w wb : World) (L : Lk) (v : Value) : Prop where
  only : Only [] w wb
  box : Lx wb w.heap.size L v
  res : Lx wb (w.heap.size + 1) noL (.slice none 0 0)
  size : wb.heap.size = w.heap.size + 2
theorem two_new (w : World) (f ep u ct : Int) (fe go : Bool) (l : List Hol) (v : Value) :
    Two w ((w.alloc (.cells #[.int .u32 f, .int .u32 ep, .int .u32 u, .int .u32 ct, .bool fe, .bool go, v] 25)).alloc (.cells #[.int .u32 0, .int .u32 0, .int .u32 0, .int .u32 0, .bool false, .bool false, .slice none 0 0] 25)) ⟨f, ep, u, ct, fe, go, l⟩ v := by
  have hz : (w.alloc (.cells #[.int .u32 f, .int .u32 ep, .int .u32 u, .int .u32 ct, .bool fe, .bool go, v] 25)).heap.size = w.heap.size + 1 := by simp
  have bz := Lx.zero (w.alloc (.cells #[.int .u32 f, .int .u32 ep, .int .u32 u, .int .u32 ct, .bool fe, .bool go, v] 25))
  rw [hz] at bz
  exact ⟨((Only.refl [] w).alloc _).alloc _, (Lx.new w f ep u ct fe go l v).alloc _, bz, by simp⟩
theorem own_lt {W : World} {v : Value} {l : List Hol} (h : W.ownsRow 0 47 2 v l.length (encs holE l)) : ∀ g, v.ownBlock = some g → g < W.heap.size := fun g hg => (h.lt g hg).2
theorem ne_of_lt_own {v : Value} {n q : Nat} (h : ∀ g, v.ownBlock = some g → g < n) (hq : n ≤ q) : v.ownBlock ≠ some q := fun e => by have := h q e; omega
theorem wrap_pos (n : Nat) (h : n ≤ 1048576) : IntKind.i64.wrap ((n : Int) + 1) = (n : Int) + 1 := by simp only [IntKind.wrap, IntKind.bits, IntKind.signed]; simp; omega
/-- Set, then a list of the call's own. -/
theorem Hs.then {S : List Nat} {w w1 w2 : World} {v v' : Value} {l : List Hol} (k : Only [] w w1) (h : Hs S w1 w2 v' l) : Hs S w w2 v' l := Hs.from k h

set_option maxRecDepth 100000 in
set_option maxHeartbeats 2000000 in
theorem without_any (w : World) (L : Lk) (v : Value) (t : Int) (hown : w.ownsRow 0 47 2 v L.hs.length (encs holE L.hs)) (hr : L.hs.Pairwise cliLt) (hl : L.hs.length ≤ 1000) :
    Calls Try.prog 27 #[lkV L v, .int .u32 t] w fun e w' => LkAns v.ownBlock.toList w w' e (withL L (withoutH L.hs t)) := by
  obtain ⟨f, ep, u, ct, fe, go, l⟩ := L
  simp only at hown hl hr
  simp only [withL]
  have h0 := Hs.self hown
  obtain ⟨A, c, rfl, hel, hcc, _, _⟩ := h0.shape
  have hvl := own_lt hown
  have hP := fun W (k : Only [] w W) => place_any W ⟨f, ep, u, ct, fe, go, l⟩ A c t (hel.kept k (by simp)) hr (by simp only; omega)
  have T := two_new w f ep u ct fe go l (.slice A l.length c)
  generalize hwb : ((w.alloc (.cells #[.int .u32 f, .int .u32 ep, .int .u32 u, .int .u32 ct, .bool fe, .bool go, .slice A l.length c] 25)).alloc (.cells #[.int .u32 0, .int .u32 0, .int .u32 0, .int .u32 0, .bool false, .bool false, .slice none 0 0] 25)) = wb at T
  replace hwb := Lib.hid hwb
  obtain ⟨k2, b2, z2, hsz⟩ := T
  simp only [lkV] at hP ⊢
  obtain ⟨S, hS⟩ : ∃ S, S = (Value.slice A l.length c).ownBlock := ⟨_, rfl⟩
  rw [← hS] at hvl h0 ⊢
  cases hf : findC l t with
  | none =>
    rw [without_none hf]
    rw [hf] at hP
    replace hP := Lib.hid hP
    replace hS := Lib.hid hS
    have n0 : S ≠ some w.heap.size := by intro h; have := hvl _ h; omega
    have n1 : S ≠ some (w.heap.size + 1) := by intro h; have := hvl _ h; omega
    replace hsz := Lib.hid hsz
    have hw2 := h0.kept k2
    go_enter Try.func27, Try.ntmps27
    go_wp2_with fail
    rw [hwb.out]
    clear hwb
    refine (hP.out _ k2).mono ?_; rintro e w3 ⟨rfl, k3⟩
    have z3 := z2.kept k3 (by simp)
    obtain ⟨c0, c1, c2, c3, c4, c5, c6⟩ := b2.at k3 (by simp)
    replace hw2 := Lib.hid (hw2.kept k3)
    clear b2 z2 h0 hel hcc
    go_wp2_with (refine wpList_store_lk ⟨f, ep, u, ct, fe, go, l⟩ noL (.slice A l.length c) _ rfl rfl _ _ rfl (w.heap.size + 1) rfl rfl z3 ?_; intro w5 b5 k5)
    refine bodyPost_ret (v := lkV ⟨f, ep, u, ct, fe, go, l⟩ (.slice A l.length c)) (results_lk rfl _ _ (w.heap.size + 1) rfl _ _ b5) rfl ?_
    exact ⟨_, rfl, hw2.out.far k5 (by omega) (by rw [← hS.out]; exact n1)⟩
  | some x =>
    have hpos := findC_pos hr hf
    have hlt : posC l t < l.length := (List.getElem?_eq_some_iff.1 hpos).1
    have hD := fun W (h : Hs S.toList W W (.slice A l.length c) l) => delete_any S.toList W W _ l (posC l t) h hlt hl
    have hwh := without_at hr hf
    have hw1 := wrap_pos (posC l t) (by omega)
    have hlen : (l.take (posC l t) ++ l.drop (posC l t + 1)).length ≤ 1000 := by simp; omega
    rw [hwh]
    rw [hf] at hP
    generalize posC l t = p at *
    generalize l.take p ++ l.drop (p + 1) = l2 at *
    replace hP := Lib.hid hP
    replace hD := Lib.hid hD
    replace hS := Lib.hid hS
    have n0 : S ≠ some w.heap.size := by intro h; have := hvl _ h; omega
    have n1 : S ≠ some (w.heap.size + 1) := by intro h; have := hvl _ h; omega
    replace hsz := Lib.hid hsz
    have hw2 := h0.kept k2
    go_enter Try.func27, Try.ntmps27
    go_wp2_with fail
    rw [hwb.out]
    clear hwb
    refine (hP.out _ k2).mono ?_; rintro e w3 ⟨rfl, k3⟩
    have z3 := z2.kept k3 (by simp)
    have b3 := b2.kept k3 (by simp)
    obtain ⟨c0, c1, c2, c3, c4, c5, c6⟩ := b2.at k3 (by simp)
    have hw3 : Hs S.toList w3 w3 (.slice A l.length c) l := ⟨(hw2.kept k3).own, fun g hg => .inl (by rw [hS.out, hg]; simp), Only.refl _ _⟩
    replace hw3 := Lib.hid hw3
    clear b2 z2 h0 hel hcc hw2
    go_wp2_with fail
    refine (hD.out _ hw3.out).mono ?_; rintro e w4 ⟨v4, rfl, hm4⟩
    have s0 : w.heap.size ∉ S.toList := fun h => n0 (by simpa using h)
    have s1 : w.heap.size + 1 ∉ S.toList := fun h => n1 (by simpa using h)
    have z4 := z3.kept hm4.only s1
    have b4 := b3.kept hm4.only s0
    clear c0 c1 c2 c3 c4 c5 c6
    obtain ⟨c0, c1, c2, c3, c4, c5, c6⟩ := b4.at (Only.refl [] _) (by simp)
    have f6 := b4.free 6
    obtain ⟨A', c', rfl, _, _, _, _⟩ := hm4.shape
    have m0 : (Value.slice A' l2.length c').ownBlock ≠ some w.heap.size := fun h => by
      rcases hm4.new _ h with a | a
      · exact s0 a
      · have := k3.size; have := hsz.out; omega
    have m1 : (Value.slice A' l2.length c').ownBlock ≠ some (w.heap.size + 1) := fun h => by
      rcases hm4.new _ h with a | a
      · exact s1 a
      · have := k3.size; have := hsz.out; omega
    have k5 : Only [w.heap.size] w4 (w4.setCell ⟨w.heap.size, 6, none⟩ (.slice A' l2.length c')) := (Only.refl _ _).setCell (.inl (by simp)) _
    have hm5 := (Hs.from (k2.trans k3) hm4).far k5 (Nat.le_refl _) m0
    have z5 := z4.kept k5 (by simp)
    replace hm5 := Lib.hid hm5
    clear hm4 k5 z4 b4 z3 b3
    go_wp2_with (refine wpList_store_lk ⟨f, ep, u, ct, fe, go, l2⟩ noL (.slice A' l2.length c') _ rfl rfl _ _ rfl (w.heap.size + 1) rfl rfl z5 ?_; intro w5 b5 k5)
    refine bodyPost_ret (v := lkV ⟨f, ep, u, ct, fe, go, l2⟩ (.slice A' l2.length c')) (results_lk rfl _ _ (w.heap.size + 1) rfl _ _ b5) rfl ?_
    exact ⟨_, rfl, hm5.out.far k5 (by omega) m1⟩

/-- The holders' slice in the next epoch. -/
def turnV (L : Lk) (v : Value) : Value := if L.epoch = 4294967295 then v else .slice none 0 0
set_option maxRecDepth 100000 in
set_option maxHeartbeats 2000000 in
theorem turned_any (w : World) (L : Lk) (A : Option Addr) (c : Nat) (he : 0 ≤ L.epoch ∧ L.epoch ≤ 4294967295) :
    Calls Try.prog 30 #[lkV L (.slice A L.hs.length c)] w fun e w' => e = .returned (lkV (turnL L) (turnV L (.slice A L.hs.length c))) ∧ Only [] w w' := by
  obtain ⟨f, ep, u, ct, fe, go, l⟩ := L
  simp only at he
  have T := two_new w f ep u ct fe go l (.slice A l.length c)
  obtain ⟨k2, b2, z2, hsz⟩ := T
  replace hsz := Lib.hid hsz
  by_cases hm : ep = 4294967295
  · rw [show turnL ⟨f, ep, u, ct, fe, go, l⟩ = ⟨f, ep, u, ct, fe, go, l⟩ from if_pos hm, show turnV ⟨f, ep, u, ct, fe, go, l⟩ (.slice A l.length c) = .slice A l.length c from if_pos hm]
    simp only [lkV]
    have d1 : (ep == 4294967295) = true := by simpa using hm
    replace hm := Lib.hid hm
    clear b2
    go_enter Try.func30, Try.ntmps30
    go_wp2_with (refine wpList_store_lk ⟨f, ep, u, ct, fe, go, l⟩ noL (.slice A l.length c) _ rfl rfl _ _ rfl (w.heap.size + 1) rfl rfl z2 ?_; intro w5 b5 k5)
    refine bodyPost_ret (v := lkV ⟨f, ep, u, ct, fe, go, l⟩ (.slice A l.length c)) (results_lk rfl _ _ (w.heap.size + 1) rfl _ _ b5) rfl ?_
    exact ⟨rfl, k2.far k5 (by omega)⟩
  · rw [show turnL ⟨f, ep, u, ct, fe, go, l⟩ = ⟨f, ep + 1, 0, ct, false, go, []⟩ from if_neg hm, show turnV ⟨f, ep, u, ct, fe, go, l⟩ (.slice A l.length c) = .slice none 0 0 from if_neg hm]
    simp only [lkV]
    have d1 : (ep == 4294967295) = false := by simpa using hm
    have hw : IntKind.u32.wrap (ep + 1) = ep + 1 := by rw [IntKind.wrap_u32]; omega
    replace hm := Lib.hid hm
    obtain ⟨k6, _, z6, _⟩ := two_new w f (ep + 1) 0 ct false go [] (.slice none 0 0)
    clear b2
    go_enter Try.func30, Try.ntmps30
    go_wp2_with (refine wpList_store_lk ⟨f, ep + 1, 0, ct, false, go, []⟩ noL (.slice none 0 0) _ rfl rfl _ _ rfl (w.heap.size + 1) rfl rfl z6 ?_; intro w5 b5 k5)
    refine bodyPost_ret (v := lkV ⟨f, ep + 1, 0, ct, false, go, []⟩ (.slice none 0 0)) (results_lk rfl _ _ (w.heap.size + 1) rfl _ _ b5) rfl ?_
    exact ⟨rfl, k6.far k5 (by omega)⟩
end Go.Proofs.Ytnmmdnecojgccaa
