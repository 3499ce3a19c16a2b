/- Noughts: strings.Trim, TrimRight of noughts; zero; the document's Noughts. -/
import Derived.Test.YtchlcmgdfbabdaaGreatDoorPg7
import Derived.WalkKit
import Derived.BigQuiet
namespace Go.Proofs.YtchlcmgdfbabdaaGreatDoor.Pgs
open Go.RowKit

theorem rtrim_nil : rtrim [] = [] := rfl
theorem rtrim_length (l : List UInt8) : (rtrim l).length ≤ l.length := (rtrim_end l).1
theorem snoc_size (q : List UInt8) (x : UInt8) : ((strOf (q ++ [x])).size : Int) = (q.length : Int) + 1 := by rw [strOf_size]; simp
theorem snoc_index (q : List UInt8) (x : UInt8) (i : Int) (hi : i = q.length) :
    ∀ W : World, (Instr.index 9 (.string (strOf (q ++ [x]))) (.int .i64 i)).run Tryz.prog W = .ok (byteV x) W := by
  have := index_strOf (P := Tryz.prog) 9 Tryz.underlying9 (q ++ [x]) q.length i .i64 hi (by simp)
  intro W
  rw [this W]
  simp [byteV, List.getD]
theorem snoc_upto (q : List UInt8) (x : UInt8) (i : Int) (hi : i = q.length) :
    ∀ W : World, (Instr.slice 9 (.string (strOf (q ++ [x]))) none (some (.int .i64 i)) none).run Tryz.prog W = .ok (.string (strOf q)) W := by
  have := upto_strOf (P := Tryz.prog) 9 Tryz.underlying9 (q ++ [x]) q.length i .i64 hi (by simp)
  intro W
  rw [this W]
  simp
theorem byte_nz {x : UInt8} (h : ¬ x = 0) : ((x.toNat : Int) == 0) = false := by
  rw [beq_eq_false_iff_ne]
  intro e
  exact h (UInt8.toNat_inj.1 (by simpa using e))

set_option maxRecDepth 100000 in
theorem trimRight_any (w : World) (l : List UInt8) (hl : l.length ≤ 1048576) :
    Calls Tryz.prog 69 #[.string (strOf l), .int .u8 0] w fun e w' => e = .returned (.string (strOf (rtrim l))) ∧ w' = w := by
  go_enter Tryz.func69, Tryz.ntmps69
  go_wp2_with fail
  go_loopw [0] (fun s wr => ∃ r : List UInt8, s = .string (strOf r) ∧ rtrim r = rtrim l ∧ r.length ≤ l.length ∧ wr = w) (fun s _ => strLen s)
  case atStart => exact ⟨l, rfl, rfl, Nat.le_refl _, rfl⟩
  case round =>
    obtain ⟨r, rfl, hr, hrl, rfl⟩ := hrel
    have HR := Lib.hid hr
    clear hr
    rcases List.eq_nil_or_concat r with rfl | ⟨q, x, rfl⟩
    · have h0 : strOf [] = ⟨#[]⟩ := rfl
      rw [h0]
      go_wp2
      go_ret
      exact ⟨by rw [← HR.out]; rfl, rfl⟩
    · rw [List.concat_eq_append] at *
      have hql : (q.length : Int) + 1 ≤ 1048576 := by simp at hrl; omega
      have hql2 : q.length ≤ l.length := by simp at hrl; omega
      have hsz := snoc_size q x
      have hsz' := strOf_size q
      have hix := snoc_index q x _ rfl
      have hup := snoc_upto q x _ rfl
      have hrx := rtrim_snoc q x
      replace hrx := Lib.hid hrx
      generalize hQ : strOf (q ++ [x]) = Q at *
      replace hQ := Lib.hid hQ
      unfold byteV at hix
      by_cases hx : x = 0
      · have hz : (x.toNat : Int) = 0 := by rw [hx]; rfl
        have hnext : rtrim q = rtrim l := by have h1 := hrx.out; rw [if_pos hx] at h1; rw [← h1]; exact HR.out
        have hqs : strLen (.string (strOf q)) < strLen (.string Q) := by simp only [strLen]; omega
        rw [hz] at hix
        replace hnext := Lib.hid hnext
        replace hx := Lib.hid hx
        clear hrl
        go_wp2_with fail
        go_roundw
        case rel => exact ⟨q, rfl, hnext.out, hql2, trivial⟩
        case measure => exact hqs
      · have hz := byte_nz hx
        have hans : rtrim l = q ++ [x] := by have h1 := hrx.out; rw [if_neg hx] at h1; rw [← h1]; exact HR.out.symm
        replace hans := Lib.hid hans
        generalize (x.toNat : Int) = xi at *
        replace hx := Lib.hid hx
        clear hrl
        go_wp2
        go_ret
        exact ⟨by rw [hans.out, hQ.out]; rfl, rfl⟩

/-- Noughts at the beginning taken away. -/
def ltrim (l : List UInt8) : List UInt8 := l.dropWhile (· == 0)
theorem ltrim_cons (x : UInt8) (l : List UInt8) : ltrim (x :: l) = if x = 0 then ltrim l else x :: l := by
  unfold ltrim
  rw [List.dropWhile_cons]
  by_cases h : x = 0
  · subst h; simp
  · have : (x == 0) = false := by simpa using h
    rw [this, if_neg h]
    simp
theorem cons_size (q : List UInt8) (x : UInt8) : ((strOf (x :: q)).size : Int) = (q.length : Int) + 1 := by rw [strOf_size]; simp
theorem cons_index (q : List UInt8) (x : UInt8) :
    ∀ W : World, (Instr.index 9 (.string (strOf (x :: q))) (.int .i64 0)).run Tryz.prog W = .ok (byteV x) W := by
  have := index_strOf (P := Tryz.prog) 9 Tryz.underlying9 (x :: q) 0 0 .i64 rfl (by simp)
  intro W
  rw [this W]
  simp [byteV, List.getD]
theorem cons_from (q : List UInt8) (x : UInt8) :
    ∀ W : World, (Instr.slice 9 (.string (strOf (x :: q))) (some (.int .i64 1)) none none).run Tryz.prog W = .ok (.string (strOf q)) W := by
  have := from_strOf (P := Tryz.prog) 9 Tryz.underlying9 (x :: q) 1 1 .i64 rfl (by simp)
  intro W
  rw [this W]
  simp

set_option maxRecDepth 100000 in
theorem trimLeft_any (w : World) (l : List UInt8) (hl : l.length ≤ 1048576) :
    Calls Tryz.prog 95 #[.string (strOf l), .int .u8 0] w fun e w' => e = .returned (.string (strOf (ltrim l))) ∧ w' = w := by
  go_enter Tryz.func95, Tryz.ntmps95
  go_wp2_with fail
  go_loopw [0] (fun s wr => ∃ r : List UInt8, s = .string (strOf r) ∧ ltrim r = ltrim l ∧ r.length ≤ l.length ∧ wr = w) (fun s _ => strLen s)
  case atStart => exact ⟨l, rfl, rfl, Nat.le_refl _, rfl⟩
  case round =>
    obtain ⟨r, rfl, hr, hrl, rfl⟩ := hrel
    have HR := Lib.hid hr
    clear hr
    cases r with
    | nil =>
      have h0 : strOf [] = ⟨#[]⟩ := rfl
      rw [h0]
      go_wp2
      go_ret
      exact ⟨by rw [← HR.out]; rfl, rfl⟩
    | cons x q =>
      have hql : (q.length : Int) + 1 ≤ 1048576 := by simp at hrl; omega
      have hql2 : q.length ≤ l.length := by simp at hrl; omega
      have hsz := cons_size q x
      have hsz' := strOf_size q
      have hix := cons_index q x
      have hup := cons_from q x
      have hrx := ltrim_cons x q
      replace hrx := Lib.hid hrx
      generalize hQ : strOf (x :: q) = Q at *
      replace hQ := Lib.hid hQ
      unfold byteV at hix
      by_cases hx : x = 0
      · have hz : (x.toNat : Int) = 0 := by rw [hx]; rfl
        have hnext : ltrim q = ltrim l := by have h1 := hrx.out; rw [if_pos hx] at h1; rw [← h1]; exact HR.out
        have hqs : strLen (.string (strOf q)) < strLen (.string Q) := by simp only [strLen]; omega
        rw [hz] at hix
        replace hnext := Lib.hid hnext
        replace hx := Lib.hid hx
        clear hrl
        go_wp2_with fail
        go_roundw
        case rel => exact ⟨q, rfl, hnext.out, hql2, trivial⟩
        case measure => exact hqs
      · have hz := byte_nz hx
        have hans : ltrim l = x :: q := by have h1 := hrx.out; rw [if_neg hx] at h1; rw [← h1]; exact HR.out.symm
        replace hans := Lib.hid hans
        generalize (x.toNat : Int) = xi at *
        replace hx := Lib.hid hx
        clear hrl
        go_wp2
        go_ret
        exact ⟨by rw [hans.out, hQ.out]; rfl, rfl⟩

theorem ltrim_nil {l : List UInt8} : ltrim l = [] ↔ allZ l = true := by
  induction l with
  | nil => simp [ltrim, allZ]
  | cons x l ih =>
    rw [ltrim_cons]
    by_cases h : x = 0
    · subst h; rw [if_pos rfl, ih]; simp [allZ]
    · rw [if_neg h]; simp [allZ, h]
theorem rtrim_nilz {l : List UInt8} : rtrim l = [] ↔ allZ l = true := by
  unfold rtrim
  rw [List.reverse_eq_nil_iff]
  have := ltrim_nil (l := l.reverse)
  unfold ltrim at this
  rw [this]
  simp [allZ]
theorem allZ_rtrim {l : List UInt8} (h : allZ (rtrim l) = true) : allZ l = true := by
  apply Decidable.byContradiction
  intro hn
  have hs := rtrim_some (by simpa using hn)
  obtain ⟨q, x, hq⟩ : ∃ q x, rtrim l = q ++ [x] := by
    rcases List.eq_nil_or_concat (rtrim l) with h0 | ⟨q, x, h0⟩
    · exact (hs h0).elim
    · exact ⟨q, x, by simpa using h0⟩
  have hx : x ≠ 0 := by
    intro h0
    have e : rtrim (rtrim l) = rtrim l := by
      refine snoc_ind (p := fun l => rtrim (rtrim l) = rtrim l) rfl (fun l y ih => ?_) l
      rw [rtrim_snoc]
      split
      · exact ih
      · rename_i hy
        rw [rtrim_snoc, if_neg hy]
    rw [hq, rtrim_snoc, if_pos h0] at e
    have h1 := congrArg List.length e
    have h2 := rtrim_length q
    simp at h1
    omega
  rw [hq] at h
  simp [allZ] at h
  exact hx h.2
theorem trim_nil (l : List UInt8) : ltrim (rtrim l) = [] ↔ allZ l = true := by
  rw [ltrim_nil]
  refine ⟨allZ_rtrim, fun h => ?_⟩
  rw [rtrim_nilz.2 h]
  rfl

set_option maxRecDepth 100000 in
/-- strings.TrimRight of noughts. -/
theorem trimR_any (w : World) (l : List UInt8) (hl : l.length ≤ 1048576) :
    Calls Tryz.prog 40 #[.string (strOf l), .string ⟨#[0]⟩] w fun e w' => e = .returned (.string (strOf (rtrim l))) ∧ w' = w := by
  cases l with
  | nil =>
    have h0 : strOf [] = ⟨#[]⟩ := rfl
    rw [h0]
    go_enter Tryz.func40, Tryz.ntmps40
    go_wp2
    go_ret
    exact ⟨rfl, rfl⟩
  | cons x q =>
    have hne : ((strOf (x :: q)).toList == ([] : List UInt8)) = false := by
      rw [show (strOf (x :: q)).toList = x :: q from ByteArray.toList_mk _]; rfl
    have hix := cons_index [] 0
    have hsz : (strOf (0 :: [])).size = 1 := rfl
    rw [show strOf (0 :: []) = ⟨#[0]⟩ from rfl] at hix hsz
    unfold byteV at hix
    have hans := fun W => trimRight_any W (x :: q) hl
    generalize strOf (x :: q) = Q at *
    generalize rtrim (x :: q) = R at *
    go_enter Tryz.func40, Tryz.ntmps40
    go_wp2_with fail
    refine (hans _).mono ?_; rintro e w1 ⟨rfl, rfl⟩
    go_wp2
    go_ret
    exact ⟨rfl, rfl⟩

set_option maxRecDepth 100000 in
/-- strings.Trim of noughts. -/
theorem trim_any (w : World) (l : List UInt8) (hl : l.length ≤ 1048576) :
    Calls Tryz.prog 68 #[.string (strOf l), .string ⟨#[0]⟩] w fun e w' => e = .returned (.string (strOf (ltrim (rtrim l)))) ∧ ∃ m, w' = w.drewN m := by
  cases l with
  | nil =>
    have h0 : strOf [] = ⟨#[]⟩ := rfl
    rw [h0]
    go_enter Tryz.func68, Tryz.ntmps68
    go_wp2
    go_ret
    exact ⟨rfl, 0, rfl⟩
  | cons x q =>
    have hne : ((strOf (x :: q)).toList == ([] : List UInt8)) = false := by
      rw [show (strOf (x :: q)).toList = x :: q from ByteArray.toList_mk _]; rfl
    have hix := cons_index [] 0
    have hsz : (strOf (0 :: [])).size = 1 := rfl
    rw [show strOf (0 :: []) = ⟨#[0]⟩ from rfl] at hix hsz
    unfold byteV at hix
    have hans := fun W => trimRight_any W (x :: q) hl
    have hans2 := fun W => trimLeft_any W (rtrim (x :: q)) (Nat.le_trans (rtrim_length _) hl)
    generalize strOf (x :: q) = Q at *
    generalize rtrim (x :: q) = R at *
    go_enter Tryz.func68, Tryz.ntmps68
    go_wp2_with fail
    go_quiet ((first | (with_reducible refine Calls.quiet_of_same (hans _)) | (with_reducible refine Calls.quiet_of_same (hans2 _))))
    go_wp2
    go_ret
    exact ⟨rfl, _, rfl⟩


set_option maxRecDepth 100000 in
theorem zero_any (w : World) (l : List UInt8) (hl : l.length ≤ 1048576) :
    Calls Tryz.prog 36 #[.string (strOf l)] w fun e w' => e = .returned (.bool (allZ l)) ∧ ∃ m, w' = w.drewN m := by
  have ht := fun W => trim_any W l hl
  have hz := trim_nil l
  generalize ltrim (rtrim l) = T at *
  go_enter Tryz.func36, Tryz.ntmps36
  go_wp2_with fail
  refine (ht _).mono ?_; rintro e w1 ⟨rfl, m, rfl⟩
  cases T with
  | nil =>
    have h0 : strOf [] = ⟨#[]⟩ := rfl
    rw [h0]
    have hz' := Lib.hid (hz.1 rfl)
    clear hz
    go_wp2
    go_ret
    exact ⟨by rw [hz'.out]; rfl, m, rfl⟩
  | cons x q =>
    have hne : ((strOf (x :: q)).toList == ([] : List UInt8)) = false := by
      rw [show (strOf (x :: q)).toList = x :: q from ByteArray.toList_mk _]; rfl
    have hf : allZ l = false := by
      cases h : allZ l with
      | false => rfl
      | true => have := hz.2 h; cases this
    have hf := Lib.hid hf
    generalize strOf (x :: q) = Q at *
    clear hz
    go_wp2
    go_ret
    exact ⟨by rw [hf.out]; rfl, m, rfl⟩

theorem allZ_take {l : List UInt8} {k : Nat} (h : k < l.length) : allZ (l.take (k + 1)) = (allZ (l.take k) && l[k] == 0) := by
  rw [List.take_add_one, List.getElem?_eq_getElem h]
  simp only [allZ, List.all_append, Option.toList_some, List.all_cons, List.all_nil, Bool.and_true]
theorem allZ_hit {l : List UInt8} {k : Nat} (h : k < l.length) (hk : ¬ l[k] = 0) : allZ l = false := by
  apply Bool.eq_false_iff.2
  intro hz
  unfold allZ at hz
  rw [List.all_eq_true] at hz
  exact hk (by simpa using hz l[k] (List.getElem_mem h))

set_option maxRecDepth 100000 in
theorem noughts_any (w : World) (l : List UInt8) (hl : l.length ≤ 1048576) :
    Calls Tryz.prog 67 #[.string (strOf l)] w fun e w' => e = .returned (.bool (allZ l)) ∧ w' = w := by
  have hsz := strOf_size l
  have hix := fun (k : Nat) (h : k < l.length) => index_strOf (P := Tryz.prog) 9 Tryz.underlying9 l k k .i64 rfl h
  generalize hs : strOf l = s at *
  replace hs := Lib.hid hs
  replace hix := Lib.hid hix
  obtain ⟨n, hn⟩ : ∃ n, n = l.length := ⟨_, rfl⟩
  have hsn : s.size = n := by omega
  have hn1 : n ≤ 1048576 := by omega
  have HN := Lib.hid hn
  clear hn hsz hl
  go_enter Tryz.func67, Tryz.ntmps67
  go_wp2_with fail
  go_loopw [3] (fun i wr => ∃ k : Nat, k ≤ n ∧ i = .int .i64 k ∧ allZ (l.take k) = true ∧ wr = w) (fun i _ => n - (intOf i).toNat)
  case atStart => exact ⟨0, by omega, rfl, rfl, rfl⟩
  case round =>
    obtain ⟨k, hk, rfl, hz, rfl⟩ := hrel
    by_cases hlt : k < n
    · have hkl : k < l.length := by have := HN.out; omega
      have hik := hix.out k hkl
      have hx : l.getD k 0 = l[k] := by rw [List.getD_eq_getElem?_getD, List.getElem?_eq_getElem hkl]; rfl
      rw [hx] at hik
      by_cases hb : l[k] = 0
      · have hnext : allZ (l.take (k + 1)) = true := by rw [allZ_take hkl, hz, hb]; rfl
        rw [hb] at hik
        have hzz : ((0 : UInt8).toNat : Int) = 0 := rfl
        rw [hzz] at hik
        replace hnext := Lib.hid hnext
        replace hb := Lib.hid hb
        clear hz hx
        go_wp2_with fail
        go_roundw
        case rel => exact ⟨k + 1, by omega, by go_num, hnext.out, trivial⟩
        case measure => simp [intOf]; omega
      · have hno := allZ_hit hkl hb
        have hne := byte_nz hb
        have hno := Lib.hid hno
        generalize (l[k].toNat : Int) = xi at *
        replace hb := Lib.hid hb
        clear hz hx
        go_wp2
        go_ret
        exact ⟨by rw [hno.out]; rfl, rfl⟩
    · have hyes : allZ l = true := by
        have := HN.out
        rw [List.take_of_length_le (by omega)] at hz
        exact hz
      have hyes := Lib.hid hyes
      clear hz
      go_wp2
      go_ret
      exact ⟨by rw [hyes.out]; rfl, rfl⟩

end Go.Proofs.YtchlcmgdfbabdaaGreatDoor.Pgs
