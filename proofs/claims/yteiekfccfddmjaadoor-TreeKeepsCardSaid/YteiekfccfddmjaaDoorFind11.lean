/- checked, Find, Get: the program's and the document's; Above. -/
import Derived.Test.YteiekfccfddmjaaDoorFind10
namespace Go.Proofs.YteiekfccfddmjaaDoor
open Go.RowKit

section
variable (w : World) (A : Option Addr) (c : Nat) (l : List Nd) (hb : Els ndE 5 w A l) (hl : l.length ≤ 1048576)
include hb hl
theorem right_bool (hc : l.length ≤ c) (b : Bool) (h : b = true ↔ Tree l) : Calls Tryd.prog 16 #[.slice A l.length c] w fun e w' => e = .returned (.bool b) ∧ Only [] w w' :=
  (right_any w A c l hb hc hl).mono fun e w' ⟨⟨r, he, hr⟩, hk⟩ => ⟨by rw [he]; congr 2; rw [Bool.eq_iff_iff, hr, h], hk⟩
theorem rright_bool (b : Bool) (h : b = true ↔ Tree l) : Calls Tryd.prog 13 #[.slice A l.length c] w fun e w' => e = .returned (.bool b) ∧ Only [] w w' :=
  (rright_any w A c l hb hl).mono fun e w' ⟨⟨r, he, hr⟩, hk⟩ => ⟨by rw [he]; congr 2; rw [Bool.eq_iff_iff, hr, h], hk⟩
end
theorem bool_yes {p : Prop} (h : p) : true = true ↔ p := ⟨fun _ => h, fun _ => rfl⟩
theorem bool_no {p : Prop} (h : ¬ p) : false = true ↔ p := ⟨fun e => (by cases e), fun e => absurd e h⟩

/-- A path's names in a tree, and the error's number. -/
def namesOf (t : List Nd) (p : List UInt8) : List (List UInt8) := if Tree t then (splitL p).getD [] else []
def errOf (t : List Nd) (p : List UInt8) : Int := if Tree t then (if (splitL p).isSome then 0 else 9) else 1
theorem namesOf_le (t : List Nd) (p : List UInt8) : (namesOf t p).length ≤ 6 := by
  unfold namesOf
  split
  · cases h : splitL p with
    | none => simp
    | some q => exact splitL_le h
  · simp

theorem NmsAns.from {w0 w w' : World} {e : Ending} {l : List (List UInt8)} {x : Value} (k : Only [] w0 w) (h : NmsAns w w' e l x) : NmsAns w0 w' e l x := by
  obtain ⟨A, c, h1, h2, h3, h4⟩ := h
  exact ⟨A, c, h1, h2, h3, k.trans h4⟩
set_option maxHeartbeats 2000000 in
theorem checked_any (w : World) (A : Option Addr) (c : Nat) (l : List Nd) (p : List UInt8) (hb : Els ndE 5 w A l) (hc : l.length ≤ c) (hl : l.length ≤ 1048576) (hp : p.length ≤ 1048576) :
    Calls Tryd.prog 44 #[.slice A l.length c, .string (strOf p)] w fun e w' => NmsAns w w' e (namesOf l p) (.int .i64 (errOf l p)) := by
  have hS := fun W => split_any W p hp
  by_cases hT : Tree l
  · have hR := right_bool w A c l hb hl hc true (bool_yes hT)
    have e1 : namesOf l p = (splitL p).getD [] := by rw [namesOf, if_pos hT]
    have e2 : errOf l p = if (splitL p).isSome then 0 else 9 := by rw [errOf, if_pos hT]
    rw [e1, e2]
    generalize (splitL p).getD [] = ns at *
    generalize (if (splitL p).isSome then (0 : Int) else 9) = er at *
    replace hS := Lib.hid hS
    replace hR := Lib.hid hR
    clear hT e1 e2
    go_enter Tryd.func44, Tryd.ntmps44
    go_wp2_with fail
    refine hR.out.mono ?_; rintro e w1 ⟨rfl, k1⟩
    go_wp2_with fail
    refine (hS.out _).mono ?_; rintro e w2 ⟨B, d, rfl, h1, h2, k2⟩
    go_wp2
    go_ret2
    exact ⟨B, d, rfl, h1, h2, k1.trans k2⟩
  · have hR := right_bool w A c l hb hl hc false (bool_no hT)
    have e1 : namesOf l p = [] := by rw [namesOf, if_neg hT]
    have e2 : errOf l p = 1 := by rw [errOf, if_neg hT]
    rw [e1, e2]
    replace hS := Lib.hid hS
    replace hR := Lib.hid hR
    clear hT e1 e2
    go_enter Tryd.func44, Tryd.ntmps44
    go_wp2_with fail
    refine hR.out.mono ?_; rintro e w1 ⟨rfl, k1⟩
    go_wp2
    go_ret2
    exact NmsAns.no k1

/-- Finding. -/
def findR (t : List Nd) (p : List UInt8) : Nd × Int := if errOf t p = 0 then walkR t rootN (namesOf t p) else (zeroN, errOf t p)
theorem errOf_tree {t : List Nd} {p : List UInt8} (h : errOf t p = 0) : Tree t ∧ splitL p = some (namesOf t p) := by
  unfold errOf at h
  by_cases hT : Tree t
  · rw [if_pos hT] at h
    cases hs : splitL p with
    | none => rw [hs] at h; simp at h
    | some q => exact ⟨hT, by rw [namesOf, if_pos hT, hs]; rfl⟩
  · rw [if_neg hT] at h; cases h
theorem Tree.get0 {t : List Nd} (h : Tree t) : t[0]? = some rootN := by rw [← List.head?_eq_getElem?]; exact h.head

set_option maxRecDepth 100000 in
set_option maxHeartbeats 2000000 in
theorem find_any (w : World) (A : Option Addr) (c : Nat) (l : List Nd) (p : List UInt8) (hb : Els ndE 5 w A l) (hc : l.length ≤ c) (hl : l.length ≤ 1048576) (hp : p.length ≤ 1048576) :
    Calls Tryd.prog 19 #[.slice A l.length c, .string (strOf p)] w fun e w' => e = .returned (.tuple #[ndV (findR l p).1, .int .i64 (findR l p).2]) ∧ Only [] w w' := by
  have hC := fun W (k : Only [] w W) => checked_any W A c l p (hb.kept k (by simp)) hc hl hp
  have hk0 : Only [] w (w.alloc (.cells #[.int .u32 0, .int .u32 0, .string ⟨#[]⟩, .bool false, .int .u32 0] 28)) := (Only.refl [] w).alloc _
  have bz := Bx.zero w
  have hnl := namesOf_le l p
  by_cases he : errOf l p = 0
  · have hT := (errOf_tree he).1
    have e1 : findR l p = walkR l rootN (namesOf l p) := by rw [findR, if_pos he]
    have hW := fun W B d (k : Only [] w W) hB => walk_any W A B c d l rootN (namesOf l p) (hb.kept k (by simp)) hl hT.get0 hB (by omega)
    rw [e1]
    rw [he] at hC
    generalize namesOf l p = ns at *
    generalize walkR l rootN ns = R at *
    obtain ⟨y, er⟩ := R
    simp only at hW ⊢
    replace hC := Lib.hid hC
    replace hW := Lib.hid hW
    clear e1 hT
    go_enter Tryd.func19, Tryd.ntmps19
    go_wp2_with fail
    refine (hC.out _ hk0).mono ?_; rintro e w1 ⟨B, d, rfl, h1, h2, k1⟩
    have hk1 := hk0.trans k1
    go_wp2_with fail
    refine (hW.out _ _ _ hk1 h2).mono ?_; rintro e w2 ⟨rfl, k2⟩
    have hk2 := hk1.trans k2
    have b2 : Bx w2 w.heap.size zeroN := (bz.kept k1 (by simp)).kept k2 (by simp)
    go_wp2_with (refine wpList_store_nd y zeroN rfl _ _ rfl w.heap.size rfl rfl b2 ?_; intro w5 b5 k5)
    refine bodyPost_ret (v := .tuple #[ndV y, .int .i64 er]) (results_nd rfl _ _ w.heap.size rfl _ b5 _ rfl) rfl ?_
    exact ⟨rfl, hk2.at0 k5 (Nat.le_refl _)⟩
  · have e1 : findR l p = (zeroN, errOf l p) := by rw [findR, if_neg he]
    rw [e1]
    have heb : (errOf l p != 0) = true := by simpa using he
    generalize errOf l p = er at *
    generalize namesOf l p = ns at *
    replace hC := Lib.hid hC
    clear e1
    go_enter Tryd.func19, Tryd.ntmps19
    go_wp2_with fail
    refine (hC.out _ hk0).mono ?_; rintro e w1 ⟨B, d, rfl, h1, h2, k1⟩
    have hk1 := hk0.trans k1
    have b2 : Bx w1 w.heap.size zeroN := bz.kept k1 (by simp)
    go_wp2_with (refine wpList_store_nd zeroN zeroN rfl _ _ rfl w.heap.size rfl rfl b2 ?_; intro w5 b5 k5)
    refine bodyPost_ret (v := .tuple #[ndV zeroN, .int .i64 er]) (results_nd rfl _ _ w.heap.size rfl _ b5 _ rfl) rfl ?_
    exact ⟨rfl, hk1.at0 k5 (Nat.le_refl _)⟩

/-- The document's finding. -/
def findI (t : List Nd) (p : List UInt8) : Nat × Int := if errOf t p = 0 then walkI t 0 (namesOf t p) else (0, errOf t p)
set_option maxRecDepth 100000 in
set_option maxHeartbeats 2000000 in
theorem rfind_any (w : World) (A : Option Addr) (c : Nat) (l : List Nd) (p : List UInt8) (hb : Els ndE 5 w A l) (hl : l.length ≤ 1048576) (hp : p.length ≤ 1048576) :
    Calls Tryd.prog 20 #[.slice A l.length c, .string (strOf p)] w fun e w' => e = .returned (.tuple #[.int .i64 ((findI l p).1 : Nat), .int .i64 (findI l p).2]) ∧ Only [] w w' := by
  have hS := fun W => rsplit_any W p hp
  unfold findI errOf namesOf
  by_cases hT : Tree l
  · have hR := rright_bool w A c l hb hl true (bool_yes hT)
    rw [if_pos hT, if_pos hT]
    have hlen := List.length_pos_iff.2 (show l ≠ [] from fun h => by have := hT.head; rw [h] at this; cases this)
    cases hs : splitL p with
    | none =>
      rw [hs] at hS
      simp only [Option.isSome_none, Option.getD_none, Bool.false_eq_true, if_false] at hS ⊢
      rw [if_neg (by decide)]
      replace hS := Lib.hid hS
      replace hR := Lib.hid hR
      clear hT hs
      go_enter Tryd.func20, Tryd.ntmps20
      go_wp2_with fail
      refine hR.out.mono ?_; rintro e w1 ⟨rfl, k1⟩
      go_wp2_with fail
      refine (hS.out _).mono ?_; rintro e w2 ⟨B, d, rfl, h1, h2, k2⟩
      go_wp2
      go_ret2
      exact ⟨rfl, k1.trans k2⟩
    | some ns =>
      have hle := splitL_le hs
      rw [hs] at hS
      simp only [Option.isSome_some, Option.getD_some, if_true] at hS ⊢
      have hW := fun W B d (k : Only [] w W) hB => rwalk_any W A B c d l ns (hb.kept k (by simp)) hl hlen hB (by omega)
      generalize walkI l 0 ns = R at *
      obtain ⟨y, er⟩ := R
      simp only at hW ⊢
      replace hS := Lib.hid hS
      replace hR := Lib.hid hR
      replace hW := Lib.hid hW
      clear hT hs
      go_enter Tryd.func20, Tryd.ntmps20
      go_wp2_with fail
      refine hR.out.mono ?_; rintro e w1 ⟨rfl, k1⟩
      go_wp2_with fail
      refine (hS.out _).mono ?_; rintro e w2 ⟨B, d, rfl, h1, h2, k2⟩
      go_wp2_with fail
      refine (hW.out _ _ _ (k1.trans k2) h2).mono ?_; rintro e w3 ⟨rfl, k3⟩
      go_wp2
      go_ret2
      exact ⟨rfl, (k1.trans k2).trans k3⟩
  · have hR := rright_bool w A c l hb hl false (bool_no hT)
    rw [if_neg hT, if_neg (by decide)]
    replace hR := Lib.hid hR
    clear hT hS
    go_enter Tryd.func20, Tryd.ntmps20
    go_wp2_with fail
    refine hR.out.mono ?_; rintro e w1 ⟨rfl, k1⟩
    go_wp2
    go_ret2
    exact ⟨rfl, k1⟩

/-- The inode of a number. -/
def getR (t : List Nd) (i : Int) : Option Nd := if Tree t then getI t i else none
set_option maxRecDepth 100000 in
set_option maxHeartbeats 2000000 in
theorem get_any (w : World) (A : Option Addr) (c : Nat) (l : List Nd) (i : Int) (hb : Els ndE 5 w A l) (hc : l.length ≤ c) (hl : l.length ≤ 1048576) :
    Calls Tryd.prog 14 #[.slice A l.length c, .int .u32 i] w fun e w' => e = .returned (.tuple #[ndV ((getR l i).getD zeroN), .bool (getR l i).isSome]) ∧ Only [] w w' := by
  have hk0 : Only [] w (w.alloc (.cells #[.int .u32 0, .int .u32 0, .string ⟨#[]⟩, .bool false, .int .u32 0] 28)) := (Only.refl [] w).alloc _
  have bz := Bx.zero w
  have hR := fun W (k : Only [] w W) => right_bool W A c l (hb.kept k (by simp)) hl hc
  by_cases hT : Tree l
  · have hR := fun W k => hR W k true (bool_yes hT)
    have e1 : getR l i = getI l i := by rw [getR, if_pos hT]
    rw [e1]
    have hP := fun W (k : Only [] w W) => place_any W A c l i (hb.kept k (by simp)) hT.rise hl
    have hpos : ∀ x, getI l i = some x → l[posN l i]? = some x := fun x h => getI_pos hT.rise h
    generalize getI l i = go at *
    generalize posN l i = po at *
    cases go with
    | none =>
      simp only [Option.isSome_none, Option.getD_none] at hP ⊢
      replace hR := Lib.hid hR
      replace hP := Lib.hid hP
      clear hT e1 hpos
      go_enter Tryd.func14, Tryd.ntmps14
      go_wp2_with fail
      refine (hR.out _ hk0).mono ?_; rintro e w1 ⟨rfl, k1⟩
      go_wp2_with fail
      refine (hP.out _ (hk0.trans k1)).mono ?_; rintro e w2 ⟨rfl, k2⟩
      have hk2 := (hk0.trans k1).trans k2
      have b2 : Bx w2 w.heap.size zeroN := (bz.kept k1 (by simp)).kept k2 (by simp)
      go_wp2_with (refine wpList_store_nd zeroN zeroN rfl _ _ rfl w.heap.size rfl rfl b2 ?_; intro w5 b5 k5)
      refine bodyPost_ret (v := .tuple #[ndV zeroN, .bool false]) (results_nd rfl _ _ w.heap.size rfl _ b5 _ rfl) rfl ?_
      exact ⟨rfl, hk2.at0 k5 (Nat.le_refl _)⟩
    | some x =>
      have hx := hpos x rfl
      have hlt := (List.getElem?_eq_some_iff.1 hx).1
      have hxe : l[po] = x := (List.getElem?_eq_some_iff.1 hx).2
      obtain ⟨g, o, rfl, hg, hat⟩ := hb.get hlt
      have hcl := fun W (k : Only [] w W) => nds_at (hat.kept k (by simp)) hlt
      rw [hxe] at hcl
      have hpI : (po : Int) < (l.length : Int) := by omega
      simp only [Option.isSome_some, Option.getD_some] at hP ⊢
      replace hR := Lib.hid hR
      replace hP := Lib.hid hP
      replace hcl := Lib.hid hcl
      replace hx := Lib.hid hx
      replace hxe := Lib.hid hxe
      clear hT e1 hpos hat
      go_enter Tryd.func14, Tryd.ntmps14
      go_wp2_with fail
      refine (hR.out _ hk0).mono ?_; rintro e w1 ⟨rfl, k1⟩
      go_wp2_with fail
      refine (hP.out _ (hk0.trans k1)).mono ?_; rintro e w2 ⟨rfl, k2⟩
      have hk2 := (hk0.trans k1).trans k2
      have b2 : Bx w2 w.heap.size zeroN := (bz.kept k1 (by simp)).kept k2 (by simp)
      obtain ⟨c0, c1, c2, c3, c4⟩ := hcl.out _ hk2
      go_wp2_with (refine wpList_store_nd x zeroN rfl _ _ rfl w.heap.size rfl rfl b2 ?_; intro w5 b5 k5)
      refine bodyPost_ret (v := .tuple #[ndV x, .bool true]) (results_nd rfl _ _ w.heap.size rfl _ b5 _ rfl) rfl ?_
      exact ⟨rfl, hk2.at0 k5 (Nat.le_refl _)⟩
  · have hR := fun W k => hR W k false (bool_no hT)
    have e1 : getR l i = none := by rw [getR, if_neg hT]
    rw [e1]
    replace hR := Lib.hid hR
    clear hT e1
    go_enter Tryd.func14, Tryd.ntmps14
    go_wp2_with fail
    refine (hR.out _ hk0).mono ?_; rintro e w1 ⟨rfl, k1⟩
    have hk1 := hk0.trans k1
    have b2 : Bx w1 w.heap.size zeroN := bz.kept k1 (by simp)
    go_wp2_with (refine wpList_store_nd zeroN zeroN rfl _ _ rfl w.heap.size rfl rfl b2 ?_; intro w5 b5 k5)
    refine bodyPost_ret (v := .tuple #[ndV zeroN, .bool false]) (results_nd rfl _ _ w.heap.size rfl _ b5 _ rfl) rfl ?_
    exact ⟨rfl, hk1.at0 k5 (Nat.le_refl _)⟩
end Go.Proofs.YteiekfccfddmjaaDoor
