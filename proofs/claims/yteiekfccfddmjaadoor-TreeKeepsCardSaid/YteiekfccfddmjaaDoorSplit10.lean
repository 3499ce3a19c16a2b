/- A path's names: the program's Split, the document's. -/
import Derived.Test.YteiekfccfddmjaaDoorTr3
import Derived.Test.YteiekfccfddmjaaDoorEql10
import Derived.Lib.SplitLaws
namespace Go.Proofs.YteiekfccfddmjaaDoor
open Go.RowKit

def strE (s : List UInt8) : List Value := [.string (strOf s)]
theorem strE_length (s : List UInt8) : (strE s).length = 1 := rfl
theorem strE_one (s : List UInt8) : ∀ v ∈ strE s, v.oneCell' = true := by
  intro v hv
  simp [strE] at hv
  subst hv
  rfl
theorem info_str : (Tryd.prog.info? 9).map (fun i => (i.zero, i.size, i.bytes)) = some (some (.string ⟨#[]⟩), 1, 16) := by kernel_rfl
theorem strs_at {w : World} {g o : Nat} {l : List (List UInt8)} (h : ElsAt strE 1 w g o l) {i : Nat} (hi : i < l.length) : w.cell? ⟨g, o + i, none⟩ = some (.string (strOf l[i])) := by
  have := h i hi 0 _ rfl
  rw [Nat.mul_one] at this
  simpa using this
theorem size_str : ∀ w, (Go.sizeOf 9).run Tryd.prog w = .ok 1 w := Tryd.sizeOf9
theorem part_strOf {P : Program} (t : TypeId) (ht : P.underlying t = some .string) (bs : List UInt8) (i j : Nat) (x y : Int) (k k' : IntKind) (hx : x = i) (hy : y = j) (hij : i ≤ j) (h : j ≤ bs.length) :
    ∀ W : World, (Instr.slice t (.string (strOf bs)) (some (.int k x)) (some (.int k' y)) none).run P W = .ok (.string (strOf ((bs.drop i).take (j - i)))) W := by
  intro W
  subst hx
  subst hy
  have hs := strOf_size bs
  rw [run_slice_string W t _ k k' _ _ ht (by omega) (by omega) (by omega)]
  congr 2
  show (ByteArray.mk bs.toArray).extract _ _ = _
  rw [ByteArray.extract_mk, Int.toNat_natCast, Int.toNat_natCast]
  rfl

/-! strings.SplitN at '/'. -/
theorem indexByte_miss : ∀ {s : List UInt8}, s.all notS = true → Lib.indexByte s 47 = -1
  | [], _ => rfl
  | c :: r, h => by
    simp only [List.all_cons, Bool.and_eq_true] at h
    have hc : (c == 47) = false := by simpa [notS] using h.1
    have ih := indexByte_miss h.2
    simp only [Lib.indexByte, hc, ih]
    rfl
theorem indexByte_hit : ∀ {s : List UInt8}, s.all notS = false → Lib.indexByte s 47 = ((s.takeWhile notS).length : Int)
  | [], h => by cases h
  | c :: r, h => by
    by_cases hc : c = 47
    · subst hc
      simp [Lib.indexByte, notS]
    · have hn : notS c = true := by simp [notS, hc]
      have hb : (c == 47) = false := by simpa using hc
      simp only [List.all_cons, hn, Bool.true_and] at h
      have ih := indexByte_hit h
      simp only [Lib.indexByte, hb, List.takeWhile_cons, hn, if_true, List.length_cons]
      rw [ih]
      have : ((((r.takeWhile notS).length : Nat) : Int) == -1) = false := by rw [beq_eq_false_iff_ne]; omega
      simp only [this]
      simp
theorem tw_eq (s : List UInt8) : s.take (s.takeWhile notS).length = s.takeWhile notS ∧ s.drop (s.takeWhile notS).length = s.dropWhile notS := by
  have h : s.takeWhile notS ++ s.dropWhile notS = s := List.takeWhile_append_dropWhile
  refine ⟨?_, ?_⟩
  · conv => lhs; arg 2; rw [← h]
    rw [List.take_left]
  · conv => lhs; arg 2; rw [← h]
    rw [List.drop_left]
theorem extract_strOf (s : List UInt8) (a b : Nat) : (strOf s).extract a b = strOf ((s.drop a).take (b - a)) := by
  show (ByteArray.mk s.toArray).extract _ _ = _
  rw [ByteArray.extract_mk]
  simp [strOf]
theorem splitB_strOf : ∀ (k : Nat) (s : List UInt8), Lib.splitB ⟨#[47]⟩ 0 k (strOf s) = (segsN k s).map strOf
  | 0, s => rfl
  | k + 1, s => by
    have hix : Lib.indexB (strOf s) ⟨#[47]⟩ = Lib.indexByte s 47 := by
      show Lib.index (strOf s).data.toList [47] = _
      rw [strOf_list, Lib.index_one]
    cases ha : s.all notS with
    | true =>
      rw [Lib.splitB_miss _ _ _ _ (by rw [hix]; exact indexByte_miss ha), segsN, ha]
      rfl
    | false =>
      obtain ⟨e1, e2⟩ := tw_eq s
      rw [Lib.splitB_hit _ _ _ _ (s.takeWhile notS).length (by rw [hix]; exact indexByte_hit ha), segsN, ha, extract_strOf, extract_strOf]
      simp only [Bool.false_eq_true, if_false, List.map_cons]
      have hsz : (⟨#[47]⟩ : ByteArray).size = 1 := rfl
      rw [hsz, strOf_size]
      have h1 : (s.drop 0).take ((s.takeWhile notS).length + 0 - 0) = s.takeWhile notS := by simpa using e1
      have h2 : (s.drop ((s.takeWhile notS).length + 1)).take (s.length - ((s.takeWhile notS).length + 1)) = (s.dropWhile notS).drop 1 := by
        rw [List.take_of_length_le (by simp), ← e2, List.drop_drop]
      rw [h1, h2, splitB_strOf k]
theorem segs_len : ∀ s : List UInt8, (segs s).length ≤ s.length + 1
  | [] => by simp [segs]
  | c :: r => by
    have ih := segs_len r
    simp only [segs]
    split
    · simp; omega
    · split
      · rename_i h t e; rw [e] at ih; simp at ih ⊢; omega
      · simp
theorem segsN_min (s : List UInt8) : segsN (min 8 (s.length + 1) - 1) s = segsN 7 s := by
  have h := segs_len s
  by_cases h8 : 8 ≤ s.length + 1
  · rw [show min 8 (s.length + 1) - 1 = 7 by omega]
  · rw [segsN_few _ s (by omega), segsN_few 7 s (by omega)]
theorem segsN_le : ∀ (k : Nat) (s : List UInt8), (segsN k s).length ≤ k + 1
  | 0, s => Nat.le_refl _
  | k + 1, s => by
    rw [segsN]
    split
    · simp
    · have := segsN_le k ((s.dropWhile notS).drop 1); simp only [List.length_cons]; omega

set_option maxHeartbeats 2000000 in
theorem splitn_any (w : World) (s : List UInt8) (hs : s.length ≤ 1048576) :
    Calls Tryd.prog 43 #[.string (strOf s), .string ⟨#[47]⟩, .int .i64 8] w fun e w' => ∃ A c, e = .returned (.slice A (segsN 7 s).length c) ∧ (segsN 7 s).length ≤ c ∧ Els strE 1 w' A (segsN 7 s) ∧ Only [] w w' ∧ 1 ≤ (segsN 7 s).length := by
  have hsz := strOf_size s
  have core : ∀ W, Calls Tryd.prog 66 #[.string (strOf s), .string ⟨#[47]⟩, .int .i64 0, .int .i64 8] W fun e w' => e = .returned (.slice (some ⟨W.heap.size, 0, none⟩) (segsN 7 s).length (min 8 (s.length + 1))) ∧ w' = W.alloc (.cells (Lib.cellsOf ((segsN 7 s).map strOf) (min 8 (s.length + 1))) 9) := fun W => by
    have c := Any.strings_genSplit_core Tryd.lays221 (by kernel_rfl) (strOf s) ⟨#[47]⟩ 0 8 (min 8 (s.length + 1)) W (by omega) (by decide) (by decide)
      (fun x c _ => (Tryd.strings_Index_one x 47 _).mono fun e w' ⟨he, hw⟩ => ⟨by rw [he]; show _ = Ending.returned (.int .i64 (Lib.index x.data.toList [47])); rw [Lib.index_one], hw⟩)
      ((Tryd.strings_Count_one (strOf s) 47 W).mono fun e w' ⟨he, hw⟩ => ⟨by rw [he]; show _ = Ending.returned (.int .i64 ((Lib.count (strOf s).data.toList [47] : Nat) : Int)); rw [Lib.count_one]; rfl, hw⟩)
      (by decide) (by decide) (by rw [if_neg (by decide), hsz]; omega)
    rw [splitB_strOf, segsN_min, List.length_map] at c
    exact c
  have hmin : (segsN 7 s).length ≤ min 8 (s.length + 1) := by
    rw [← segsN_min]
    have := segsN_le (min 8 (s.length + 1) - 1) s
    omega
  have hpos : 1 ≤ (segsN 7 s).length := by
    cases h : segsN 7 s with
    | nil => rw [segsN] at h; split at h <;> cases h
    | cons a r => simp
  replace core := Lib.hid core
  clear hsz
  go_enter Tryd.func43, Tryd.ntmps43
  go_wp2_with fail
  refine (core.out _).mono ?_; rintro e w1 ⟨rfl, rfl⟩
  go_wp2
  go_ret
  refine ⟨_, _, rfl, hmin, .inr ⟨w.heap.size, 0, rfl, by simp, fun i hi j v hv => ?_⟩, (Only.refl [] w).alloc _, hpos⟩
  have hj : j = 0 := by have := (List.getElem?_eq_some_iff.1 hv).1; simp [strE] at this; exact this
  subst hj
  simp only [strE, List.getElem?_cons_zero, Option.some.injEq] at hv
  subst hv
  have := (Blk.new w 9 (Lib.cellsOf ((segsN 7 s).map strOf) (min 8 (s.length + 1)))).cell i
  rw [show 0 + i * 1 + 0 = i by omega, this]
  unfold Lib.cellsOf
  rw [List.getElem?_toArray, List.getElem?_append_left (by simpa using hi), List.getElem?_map, List.getElem?_map, List.getElem?_eq_getElem hi]
  rfl

/-- What is answered: names, and a word. -/
def NmsAns (w w' : World) (e : Ending) (l : List (List UInt8)) (x : Value) : Prop := ∃ A c, e = .returned (.tuple #[.slice A l.length c, x]) ∧ l.length ≤ c ∧ Els strE 1 w' A l ∧ Only [] w w'
theorem NmsAns.no {w w' : World} {x : Value} (h : Only [] w w') : NmsAns w w' (.returned (.tuple #[.slice none 0 0, x])) [] x := ⟨none, 0, rfl, Nat.le_refl _, .inl rfl, h⟩
set_option maxRecDepth 100000 in
set_option maxHeartbeats 2000000 in
theorem split_any (w : World) (s : List UInt8) (hs : s.length ≤ 1048576) :
    Calls Tryd.prog 17 #[.string (strOf s)] w fun e w' => NmsAns w w' e ((splitL s).getD []) (.int .i64 (if (splitL s).isSome then 0 else 9)) := by
  have e1 : ((strOf s).toList == [47]) = (s == [47]) := by rw [show (strOf s).toList = s from ByteArray.toList_mk _]
  have hsp := fun W => splitn_any W s hs
  by_cases h1 : s = [47]
  · have e2 : ((strOf s).toList == [47]) = true := by rw [e1, h1]; rfl
    have hr : splitL s = some [] := by rw [h1, splitL_root]
    rw [hr]
    clear e1 hr
    replace hsp := Lib.hid hsp
    generalize strOf s = sb at *
    go_enter Tryd.func17, Tryd.ntmps17
    go_wp2
    go_ret2
    exact NmsAns.no (Only.refl _ _)
  have e2 : ((strOf s).toList == [47]) = false := by rw [e1]; simpa using h1
  have hprog := fun h t => splitL_prog h1 (h := h) (t := t)
  clear e1
  obtain ⟨r, hr⟩ : ∃ r, r = splitL s := ⟨_, rfl⟩
  rw [← hr] at hprog ⊢
  have HR := Lib.hid hr
  clear hr h1
  have hle := segsN_le 7 s
  generalize segsN 7 s = ps at *
  generalize strOf s = sb at *
  replace hsp := Lib.hid hsp
  replace hprog := Lib.hid hprog
  go_enter Tryd.func17, Tryd.ntmps17
  go_wp2_with fail
  refine (hsp.out _).mono ?_; rintro e w1 ⟨A, c, rfl, hc, hel, k1, hp1⟩
  obtain ⟨g, o, rfl, hg, hat⟩ := hel.get (i := 0) (by omega)
  have hps : ∃ h t, ps = h :: t := by cases ps with | nil => simp at hp1 | cons h t => exact ⟨h, t, rfl⟩
  obtain ⟨h, t, rfl⟩ := hps
  have hp := hprog.out h t rfl
  have hc0 := strs_at hat (i := 0) (by simp)
  rw [Nat.add_zero] at hc0
  simp only [List.getElem_cons_zero] at hc0
  have htail := hel.tail (c := c) (m := 1) hc (by simp)
  have hrun := run_tail (P := Tryd.prog) 33 9 Tryd.underlying33 size_str (some ⟨g, o, none⟩) (h :: t).length c 1 1 rfl (by simp)
  simp only [List.drop_succ_cons, List.drop_zero] at htail
  simp only [List.length_cons, Nat.add_sub_cancel] at hrun hle hc hp1 ⊢
  generalize tailA (some ⟨g, o, none⟩) c 1 1 = TA at *
  have hnc : t.length ≤ c - 1 := by omega
  generalize c - 1 = d at *
  have hlen1 : ((t.length + 1 : Nat) : Int) = (t.length : Int) + 1 := by omega
  have eh : ((strOf h).toList == ([] : List UInt8)) = (h == []) := by rw [show (strOf h).toList = h from ByteArray.toList_mk _]
  obtain ⟨tl, htl⟩ : ∃ tl, tl = t.length := ⟨_, rfl⟩
  rw [← htl] at hrun hle hnc hlen1 ⊢
  rw [← htl] at hp
  have HT := Lib.hid htl
  by_cases hh : h = []
  rotate_left
  · have hn : r = none := by rw [hp, if_neg (fun q => hh q.1)]
    have eh2 : ((strOf h).toList != ([] : List UInt8)) = true := by rw [bne, eh]; simpa using hh
    have eh3 : ((strOf h).toList == ([] : List UInt8)) = false := by rw [eh]; simpa using hh
    subst hn
    clear eh hp hh htl
    generalize strOf h = hb at *
    go_wp2
    go_ret2
    exact NmsAns.no k1
  have eh2 : ((strOf h).toList != ([] : List UInt8)) = false := by rw [bne, eh, hh]; rfl
  have eh3 : ((strOf h).toList == ([] : List UInt8)) = true := by rw [eh, hh]; rfl
  by_cases h0 : tl = 0
  · have hn : r = none := by rw [hp, if_neg (fun q => by omega)]
    have e0 : ((tl : Int) == 0) = true := by simp [h0]
    subst hn
    clear eh hp htl
    replace hh := Lib.hid hh
    replace h0 := Lib.hid h0
    generalize strOf h = hb at *
    go_wp2
    go_ret2
    exact NmsAns.no k1
  have e0 : ((tl : Int) == 0) = false := by rw [beq_eq_false_iff_ne]; omega
  by_cases h6 : 6 < tl
  · have hn : r = none := by rw [hp, if_neg (fun q => by omega)]
    have e6 : decide ((6 : Int) < (tl : Int)) = true := decide_eq_true (by omega)
    subst hn
    clear eh hp htl
    replace hh := Lib.hid hh
    generalize strOf h = hb at *
    go_wp2
    go_ret2
    exact NmsAns.no k1
  have e6 : decide ((6 : Int) < (tl : Int)) = false := decide_eq_false (by omega)
  have hyes : (∀ x ∈ t, nmB x = true) → r = some t := fun q => by
    rw [hp, if_pos ⟨hh, by omega, by omega, List.all_eq_true.2 q⟩]
  have hno : ∀ x ∈ t, nmB x = false → r = none := fun x hx q => by
    rw [hp, if_neg]
    intro qq
    have := List.all_eq_true.1 qq.2.2.2 x hx
    rw [q] at this
    cases this
  replace hyes := Lib.hid hyes
  replace hno := Lib.hid hno
  replace hh := Lib.hid hh
  clear eh hp htl hat
  generalize strOf h = hb at *
  go_wp2_with fail
  go_loopw [30] (fun i wr => ∃ n : Nat, n ≤ tl ∧ i = .int .i64 n ∧ Hid (∀ j (hj : j < t.length), j < n → nmB t[j] = true) ∧ wr = w1) (fun i _ => tl - (intOf i).toNat)
  case atStart => exact ⟨0, by omega, rfl, fun j hj h => by omega, rfl⟩
  case round =>
    obtain ⟨n, hn, rfl, hgood, rfl⟩ := hrel
    by_cases hlt : n < tl
    · have hnt : n < t.length := by have := HT.out; omega
      obtain ⟨g2, o2, hTA, hg2, hat2⟩ := htail.get hnt
      subst hTA
      have hcx := strs_at hat2 hnt
      have hN := fun W => named_any W t[n]
      have hmem : t[n] ∈ t := List.getElem_mem hnt
      have hnos := hno.out t[n] hmem
      have hnext : nmB t[n] = true → Hid (∀ j (hj : j < t.length), j < n + 1 → nmB t[j] = true) := fun q j hj hjn => by
        by_cases e : j = n
        · subst e; exact q
        · exact hgood.out j hj (by omega)
      replace hmem := Lib.hid hmem
      generalize t[n] = x at *
      generalize nmB x = nb at *
      generalize strOf x = xb at *
      replace hN := Lib.hid hN
      clear hat2
      cases nb with
      | false =>
        have hn' := hnos rfl
        subst hn'
        clear hgood hnext hnos
        go_wp2_with fail
        refine (hN.out _).mono ?_; rintro e w3 ⟨rfl, rfl⟩
        go_wp2
        go_ret2
        exact NmsAns.no k1
      | true =>
        have hnx := hnext rfl
        clear hgood hnext hnos
        go_wp2_with fail
        refine (hN.out _).mono ?_; rintro e w3 ⟨rfl, rfl⟩
        go_wp2
        go_roundw
        case rel => exact ⟨n + 1, by omega, by go_num, hnx, by trivial⟩
        case measure => simp [intOf]; omega
    · have hr' := hyes.out (fun x hx => by
        obtain ⟨j, hj, rfl⟩ := List.getElem_of_mem hx
        exact hgood.out j hj (by have := HT.out; omega))
      subst hr'
      clear hgood
      go_wp2
      go_ret2
      exact ⟨TA, d, by rw [HT.out]; rfl, by have := HT.out; show t.length ≤ d; omega, htail, k1⟩
end Go.Proofs.YteiekfccfddmjaaDoor
