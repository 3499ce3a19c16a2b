/- The document's put, SameTexts; sorted names. -/
import Derived.Test.YteiekfccfddmjaaDoorRrm10
import Derived.Sort.OwnSorted
import Derived.Sort.Walk0
namespace Go.Proofs.YteiekfccfddmjaaDoor
open Go.RowKit

def ltS (s x : List UInt8) : Bool := decide (x < s)
/-- A text in its place. -/
def putL (l : List (List UInt8)) (s : List UInt8) : List (List UInt8) := l.takeWhile (ltS s) ++ s :: l.dropWhile (ltS s)
theorem putL_perm (l : List (List UInt8)) (s : List UInt8) : (putL l s).Perm (s :: l) := by
  unfold putL
  have h : l = l.takeWhile (ltS s) ++ l.dropWhile (ltS s) := List.takeWhile_append_dropWhile.symm
  conv => rhs; rw [h]
  exact List.perm_middle
theorem dropWhile_ge : ∀ {l : List (List UInt8)} {s : List UInt8}, l.Pairwise (fun a b => a ≤ b) → ∀ y ∈ l.dropWhile (ltS s), s ≤ y
  | [], s, _, y, hy => by simp at hy
  | a :: r, s, h, y, hy => by
    rw [List.pairwise_cons] at h
    by_cases ha : a < s
    · rw [List.dropWhile_cons_of_pos (by simpa [ltS] using ha)] at hy
      exact dropWhile_ge h.2 y hy
    · rw [List.dropWhile_cons_of_neg (by simpa [ltS] using ha)] at hy
      rcases List.mem_cons.1 hy with rfl | hy
      · exact List.not_lt.1 ha
      · exact List.le_trans (List.not_lt.1 ha) (h.1 y hy)
theorem putL_sorted {l : List (List UInt8)} (h : l.Pairwise (fun a b => a ≤ b)) (s : List UInt8) : (putL l s).Pairwise (fun a b => a ≤ b) := by
  unfold putL
  have hd := dropWhile_ge (s := s) h
  have ht : ∀ y ∈ l.takeWhile (ltS s), y ≤ s := fun y hy => by
    have := List.all_eq_true.1 (List.all_takeWhile (l := l) (p := ltS s)) y hy
    have h1 : y < s := by simpa [ltS] using this
    exact List.le_of_lt h1
  have e : l = l.takeWhile (ltS s) ++ l.dropWhile (ltS s) := List.takeWhile_append_dropWhile.symm
  have h' := h
  rw [e] at h'
  rw [List.pairwise_append] at h' ⊢
  refine ⟨h'.1, List.pairwise_cons.2 ⟨hd, h'.2.1⟩, fun u hu v hv => ?_⟩
  rcases List.mem_cons.1 hv with rfl | hv
  · exact ht u hu
  · exact h'.2.2 u hu v hv
theorem fold_put : ∀ (xs l : List (List UInt8)), l.Pairwise (fun a b => a ≤ b) → (xs.foldl putL l).Pairwise (fun a b => a ≤ b) ∧ (xs.foldl putL l).Perm (xs ++ l)
  | [], l, h => ⟨h, List.Perm.refl _⟩
  | x :: r, l, h => by
    obtain ⟨h1, h2⟩ := fold_put r (putL l x) (putL_sorted h x)
    refine ⟨h1, h2.trans ?_⟩
    exact (List.Perm.append_left r (putL_perm l x)).trans List.perm_middle
theorem put_sort (xs : List (List UInt8)) : xs.foldl putL [] = xs.mergeSort fun x y => decide (x ≤ y) := by
  obtain ⟨h1, h2⟩ := fold_put xs [] List.Pairwise.nil
  rw [List.append_nil] at h2
  have h3 := List.pairwise_mergeSort (le := fun x y : List UInt8 => decide (x ≤ y)) (fun a b c p q => by simp only [decide_eq_true_eq] at *; exact List.le_trans p q) (fun a b => by simp only [Bool.or_eq_true, decide_eq_true_eq]; exact List.le_total a b) xs
  exact List.Perm.eq_of_pairwise (le := fun x y : List UInt8 => x ≤ y) (fun a b _ _ p q => List.le_antisymm p q) h1 (h3.imp (fun h => by simpa using h)) (h2.trans (List.mergeSort_perm _ _).symm)

theorem Mine.joinedS {w w1 w2 : World} {v v' : Value} {l ys : List (List UInt8)} (h : Mine strE 1 9 w w1 v l) (h1 : w2.ownsRow 0 9 1 v' (l.length + ys.length) (encs strE (l ++ ys))) (h2 : w1.grownBy w2 v.ownBlock) (h3 : v'.ownBlock = v.ownBlock ∨ v'.ownBlock = some w1.heap.size) : Mine strE 1 9 w w2 v' (l ++ ys) := by
  refine ⟨by rw [List.length_append]; exact h1, fun g hg => ?_, h.only.grown h2 (fun j hj => .inr (h.new j hj))⟩
  rcases h3 with h3 | h3
  · exact h.new g (by rw [← h3]; exact hg)
  · rw [h3] at hg
    injection hg with hg
    have := h.only.size
    omega
theorem blk_str {w : World} {g : Nat} {s : List UInt8} (h : Blk w g 9 (strE s).toArray) : Els strE 1 w (some ⟨g, 0, none⟩) [s] := by
  refine .inr ⟨g, 0, rfl, h.lt, fun i hi j v hv => ?_⟩
  obtain rfl : i = 0 := by simp at hi; omega
  have := Blk.cell h j
  rw [show 0 + 0 * 1 + j = j by omega, this, ← hv]
  simp
/-- What is answered: names of the call's own. -/
def NamAns (w w' : World) (e : Ending) (l : List (List UInt8)) : Prop := ∃ v, e = .returned v ∧ Mine strE 1 9 w w' v l
theorem tw_lt : ∀ {l : List (List UInt8)} {s : List UInt8} {k : Nat} (hk : k < l.length), k < (l.takeWhile (ltS s)).length → l[k] < s
  | a :: r, s, 0, _, h => by
    by_cases ha : a < s
    · exact ha
    · rw [List.takeWhile_cons_of_neg (by simpa [ltS] using ha)] at h; simp at h
  | a :: r, s, k + 1, hk, h => by
    by_cases ha : a < s
    · rw [List.takeWhile_cons_of_pos (by simpa [ltS] using ha)] at h
      have := tw_lt (l := r) (s := s) (k := k) (by simpa using hk) (by simpa using h)
      simpa using this
    · rw [List.takeWhile_cons_of_neg (by simpa [ltS] using ha)] at h; simp at h
theorem tw_end : ∀ {l : List (List UInt8)} {s : List UInt8} (hk : (l.takeWhile (ltS s)).length < l.length), ¬ l[(l.takeWhile (ltS s)).length] < s
  | a :: r, s, h => by
    by_cases ha : a < s
    · have e : (a :: r).takeWhile (ltS s) = a :: r.takeWhile (ltS s) := List.takeWhile_cons_of_pos (by simpa [ltS] using ha)
      have hr : (r.takeWhile (ltS s)).length < r.length := by rw [e] at h; simpa using h
      have ih := tw_end hr
      simpa [e] using ih
    · have e : (a :: r).takeWhile (ltS s) = [] := List.takeWhile_cons_of_neg (by simpa [ltS] using ha)
      simpa [e] using ha
theorem less_of (a b : List UInt8) : Op.bytesLess (strOf a).toList (strOf b).toList = decide (a < b) := by
  rw [show (strOf a).toList = a from ByteArray.toList_mk _, show (strOf b).toList = b from ByteArray.toList_mk _]
  exact bytesLess_eq a b

theorem at_str (g o n c k : Nat) (x : Int) (hx : x = k) (h : k < n) (W : World) : (Instr.indexAt 33 (.slice (some ⟨g, o, none⟩) n c) (.int .i64 x)).run Tryd.prog W = .ok (.pointer (some ⟨g, o + k, none⟩)) W := by
  subst hx
  have ht : Tryd.prog.underlying 33 = some (.slice (Tryd.prog.elem 33)) := by simp [Program.elem, Tryd.underlying33]
  have he : Tryd.prog.elem 33 = 9 := by simp [Program.elem, Tryd.underlying33]
  rw [run_indexAt_slice (h := ht), he]
  have h1 : (0 : Int) ≤ (k : Int) ∧ (k : Int) < (n : Int) := by omega
  simp [h1, Result.andThen, addr_add]
set_option maxRecDepth 100000 in
set_option maxHeartbeats 4000000 in
theorem put_any (w : World) (A : Option Addr) (c : Nat) (l : List (List UInt8)) (s : List UInt8) (hb : Els strE 1 w A l) (hc : l.length ≤ c) (hl : l.length ≤ 1000) :
    Calls Tryd.prog 48 #[.slice A l.length c, .string (strOf s)] w fun e w' => NamAns w w' e (putL l s) := by
  have hlI : (l.length : Int) ≤ 1000 := by omega
  have hlt := fun k => tw_lt (l := l) (s := s) (k := k)
  have hend := tw_end (l := l) (s := s)
  have e1 : l.takeWhile (ltS s) = l.take (l.takeWhile (ltS s)).length := by
    conv => rhs; arg 2; rw [← List.takeWhile_append_dropWhile (p := ltS s) (l := l)]
    rw [List.take_left]
  have e2 : l.dropWhile (ltS s) = l.drop (l.takeWhile (ltS s)).length := by
    conv => rhs; arg 2; rw [← List.takeWhile_append_dropWhile (p := ltS s) (l := l)]
    rw [List.drop_left]
  unfold putL
  rw [e2]
  have hpo : (l.takeWhile (ltS s)).length ≤ l.length := (List.takeWhile_sublist _).length_le
  rw [e1]
  obtain ⟨po, hpq⟩ : ∃ po, po = (l.takeWhile (ltS s)).length := ⟨_, rfl⟩
  rw [← e1, ← hpq] 
  rw [e1, ← hpq]
  simp only [← hpq] at hpo hlt hend
  have hend' : ∀ (hk : po < l.length), ¬ l[po]'hk < s := fun hk => hend hk
  clear hend
  clear hpq e1 e2
  have hhd := run_head (P := Tryd.prog) 33 9 Tryd.underlying33 size_str A l.length c po (po : Int) rfl (by omega)
  have htl := run_tail (P := Tryd.prog) 33 9 Tryd.underlying33 size_str A l.length c po (po : Int) rfl (by omega)
  have h1 : Els strE 1 w (tailA A c 0 1) (l.take po) := hb.head
  have h2 : Els strE 1 w (tailA A c po 1) (l.drop po) := hb.tail hc hpo
  have n1 : (l.take po).length = po := by rw [List.length_take]; omega
  have n2 : (l.drop po).length = l.length - po := List.length_drop
  generalize l.take po = l1 at *
  generalize l.drop po = l2 at *
  have n9 : l1.length ≤ 1000 ∧ l2.length ≤ 1000 := ⟨by omega, by omega⟩
  have n8 : l1.length = po := n1
  obtain ⟨n9, n7⟩ := n9
  replace n8 := Lib.hid n8
  replace hhd := Lib.hid hhd
  replace htl := Lib.hid htl
  replace h1 := Lib.hid h1
  replace h2 := Lib.hid h2
  replace n1 := Lib.hid n1
  replace n2 := Lib.hid n2
  replace hlt := Lib.hid hlt
  have hless := fun k (hk : k < l.length) => less_of l[k] s
  replace hless := Lib.hid hless
  have hk0 := Only.refl [] w
  generalize hsb : strOf s = sb at *
  replace hsb := Lib.hid hsb
  go_enter Tryd.func48, Tryd.ntmps48
  go_wp2_with fail
  go_loopw [5] (fun i wr => ∃ k m : Nat, k ≤ po ∧ i = .int .i64 k ∧ wr = w.drewN m) (fun i _ => po - (intOf i).toNat)
  case atStart => exact ⟨0, 0, by omega, rfl, rfl⟩
  case round =>
    obtain ⟨k, m, hk, rfl, rfl⟩ := hrel
    by_cases hlt2 : k < po
    · have hk' : k < l.length := by omega
      have hkI : (k : Int) < (l.length : Int) := by omega
      have hki := hlt.out k hk' hlt2
      have hls := hless.out k hk'
      rw [decide_eq_true hki] at hls
      obtain ⟨g, o, rfl, _, hat⟩ := hb.get hk'
      have d0 := strs_at hat hk'
      generalize strOf l[k] = f at *
      have hd1 : decide ((k : Int) < (l.length : Int)) = true := decide_eq_true hkI
      clear hat hb hki
      go_wp2_with fail
      go_roundw
      case rel => exact ⟨k + 1, _, by omega, by go_num, rfl⟩
      case measure => simp [intOf]; omega
    · obtain rfl : k = po := by omega
      have hex : ∀ (Q : Prop), (k < l.length → (∃ g o f, A = some ⟨g, o, none⟩ ∧ w.cell? ⟨g, o + k, none⟩ = some (.string f) ∧ Op.bytesLess f.toList sb.toList = false) → Q) → (k = l.length → Q) → Q := fun Q q1 q2 => by
        by_cases hkl : k < l.length
        · obtain ⟨g, o, hA, _, hat⟩ := hb.get hkl
          have d := strs_at hat hkl
          have hls := hless.out k hkl
          rw [decide_eq_false (hend' hkl)] at hls
          exact q1 hkl ⟨g, o, _, hA, d, hls⟩
        · exact q2 (by omega)
      refine hex _ (fun hkl hq => ?_) (fun hkl => ?_)
      · obtain ⟨g, o, f, hA, d0, d1⟩ := hq
        have hkI : (k : Int) < (l.length : Int) := by omega
        have hd1 : decide ((k : Int) < (l.length : Int)) = true := decide_eq_true hkI
        clear hex hb
        have hix := at_str g o l.length c k k rfl hkl
        rw [← hA] at hix
        replace hA := Lib.hid hA
        replace hhd := hhd.out
        replace htl := htl.out
        go_wp2_with (at_builtin; first
          | (refine wpList_append_any strE_length (by decide) strE_one rfl (.tmp 21) (.tmp 24) 33 rfl 9 _ 16 Tryd.underlying33 info_str rfl _ 0 [] rfl (Mine.start strE 1 9 (hk0.drewN _)).own (tailA A c 0 1) c l1 (by rw [n1.out]; exact rfl) (h1.out.kept (hk0.drewN _) (by simp)) (by unfold maxLen; omega) (by omega) ?_
             intro vv w6 h6 g6 a6
             have m1 : Hid (Mine strE 1 9 w w6 vv ([] ++ l1)) := Lib.hid ((Mine.start strE 1 9 (hk0.drewN _)).joinedS h6 g6 a6)
             have h2' := h2.out.kept m1.out.only (by simp)
             rw [List.nil_append] at m1
             have bn : Hid (Blk (w6.alloc (.cells #[.string (strOf s)] 9)) w6.heap.size 9 (strE s).toArray) := Lib.hid (Blk.new _ _ _)
             rw [hsb.out] at bn
             have kn : Only [] w6 (w6.alloc (.cells #[.string sb] 9)) := (Only.refl [] w6).alloc _
             clear h6 g6 a6 hhd)
          | (refine wpList_append_any strE_length (by decide) strE_one rfl (.tmp 26) (.tmp 28) 33 rfl 9 _ 16 Tryd.underlying33 info_str rfl _ l1.length l1 rfl (m1.out.keep kn).own (some ⟨w6.heap.size, 0, none⟩) 1 [s] rfl (blk_str bn.out) (by simp only [List.length_cons, List.length_nil]; unfold maxLen; omega) (by simp only [List.length_cons, List.length_nil]; omega) ?_
             intro v2 w7 h7 g7 a7
             have m2 : Hid (Mine strE 1 9 w w7 v2 (l1 ++ [s])) := Lib.hid ((m1.out.keep kn).joinedS h7 g7 a7)
             have n3 : (l1 ++ [s]).length = k + 1 := by simp only [List.length_append, List.length_cons, List.length_nil]; rw [n8.out]
             have h2'' := h2.out.kept m2.out.only (by simp)
             clear h7 g7 a7 m1 h2' bn kn)
          | (go_must (refine wpList_append_any strE_length (by decide) strE_one rfl (.tmp 30) (.tmp 33) 33 rfl 9 _ 16 Tryd.underlying33 info_str rfl _ _ _ rfl m2.out.own (tailA A c k 1) (c - k) l2 (by rw [n2.out]; exact rfl) h2'' (by rw [n3]; unfold maxLen; omega) (by rw [n3]; omega) ?_)
             intro v3 w8 h8 g8 a8
             have m3 : Hid (Mine strE 1 9 w w8 v3 ((l1 ++ [s]) ++ l2)) := Lib.hid (m2.out.joinedS h8 g8 a8)
             clear h8 g8 a8 m2 h2'' htl))
        go_ret
        refine ⟨_, rfl, ?_⟩
        have := m3.out
        rwa [List.append_assoc] at this
      · have hkI : ¬ (k : Int) < (l.length : Int) := by omega
        have hd1 : decide ((k : Int) < (l.length : Int)) = false := decide_eq_false hkI
        have hk10 : k ≤ 1000 := by omega
        have hkN : ¬ k < l.length := by omega
        have hd1N : decide (k < l.length) = false := decide_eq_false hkN
        replace hkl := Lib.hid hkl
        clear hex hb
        replace hhd := hhd.out
        replace htl := htl.out
        go_wp2_with (at_builtin; first
          | (refine wpList_append_any strE_length (by decide) strE_one rfl (.tmp 21) (.tmp 24) 33 rfl 9 _ 16 Tryd.underlying33 info_str rfl _ 0 [] rfl (Mine.start strE 1 9 (hk0.drewN _)).own (tailA A c 0 1) c l1 (by rw [n1.out]; exact rfl) (h1.out.kept (hk0.drewN _) (by simp)) (by unfold maxLen; omega) (by omega) ?_
             intro vv w6 h6 g6 a6
             have m1 : Hid (Mine strE 1 9 w w6 vv ([] ++ l1)) := Lib.hid ((Mine.start strE 1 9 (hk0.drewN _)).joinedS h6 g6 a6)
             have h2' := h2.out.kept m1.out.only (by simp)
             rw [List.nil_append] at m1
             have bn : Hid (Blk (w6.alloc (.cells #[.string (strOf s)] 9)) w6.heap.size 9 (strE s).toArray) := Lib.hid (Blk.new _ _ _)
             rw [hsb.out] at bn
             have kn : Only [] w6 (w6.alloc (.cells #[.string sb] 9)) := (Only.refl [] w6).alloc _
             clear h6 g6 a6 hhd)
          | (refine wpList_append_any strE_length (by decide) strE_one rfl (.tmp 26) (.tmp 28) 33 rfl 9 _ 16 Tryd.underlying33 info_str rfl _ l1.length l1 rfl (m1.out.keep kn).own (some ⟨w6.heap.size, 0, none⟩) 1 [s] rfl (blk_str bn.out) (by simp only [List.length_cons, List.length_nil]; unfold maxLen; omega) (by simp only [List.length_cons, List.length_nil]; omega) ?_
             intro v2 w7 h7 g7 a7
             have m2 : Hid (Mine strE 1 9 w w7 v2 (l1 ++ [s])) := Lib.hid ((m1.out.keep kn).joinedS h7 g7 a7)
             have n3 : (l1 ++ [s]).length = k + 1 := by simp only [List.length_append, List.length_cons, List.length_nil]; rw [n8.out]
             have h2'' := h2.out.kept m2.out.only (by simp)
             clear h7 g7 a7 m1 h2' bn kn)
          | (go_must (refine wpList_append_any strE_length (by decide) strE_one rfl (.tmp 30) (.tmp 33) 33 rfl 9 _ 16 Tryd.underlying33 info_str rfl _ _ _ rfl m2.out.own (tailA A c k 1) (c - k) l2 (by rw [n2.out]; exact rfl) h2'' (by rw [n3]; unfold maxLen; omega) (by rw [n3]; omega) ?_)
             intro v3 w8 h8 g8 a8
             have m3 : Hid (Mine strE 1 9 w w8 v3 ((l1 ++ [s]) ++ l2)) := Lib.hid (m2.out.joinedS h8 g8 a8)
             clear h8 g8 a8 m2 h2'' htl))
        go_ret
        refine ⟨_, rfl, ?_⟩
        have := m3.out
        rwa [List.append_assoc] at this

set_option maxHeartbeats 1000000 in
theorem sametexts_yes (w : World) (A B : Option Addr) (c d : Nat) (l : List (List UInt8)) (hA : Els strE 1 w A l) (hB : Els strE 1 w B l) (hl : l.length ≤ 1024) :
    Calls Tryd.prog 23 #[.slice A l.length c, .slice B l.length d] w fun e w' => e = .returned (.bool true) ∧ Only [] w w' := by
  obtain ⟨n, hn⟩ : ∃ n, n = l.length := ⟨_, rfl⟩
  rw [← hn] at hl ⊢
  replace hn := Lib.hid hn
  go_enter Tryd.func23, Tryd.ntmps23
  go_wp2_with fail
  go_loopw [5] (fun i wr => ∃ k m : Nat, k ≤ n ∧ i = .int .i64 k ∧ wr = w.drewN m) (fun i _ => n - (intOf i).toNat)
  case atStart => exact ⟨0, 0, by omega, rfl, rfl⟩
  case round =>
    obtain ⟨k, m, hk, rfl, rfl⟩ := hrel
    by_cases hlt : k < n
    · have hk' : k < l.length := by have := hn.out; omega
      obtain ⟨g, o, rfl, _, hat⟩ := hA.get hk'
      obtain ⟨g', o', rfl, _, hat'⟩ := hB.get hk'
      have c0 := strs_at hat hk'
      have d0 := strs_at hat' hk'
      generalize strOf l[k] = s2 at *
      clear hat hat' hA hB
      go_wp2_with fail
      go_quiet (fail)
      go_wp2_with fail
      go_roundw
      case rel => exact ⟨k + 1, _, by omega, by go_num, rfl⟩
      case measure => simp [intOf]; omega
    · clear hA hB
      go_wp2
      go_ret
      exact ⟨rfl, (Only.refl [] w).drewN m⟩
end Go.Proofs.YteiekfccfddmjaaDoor
