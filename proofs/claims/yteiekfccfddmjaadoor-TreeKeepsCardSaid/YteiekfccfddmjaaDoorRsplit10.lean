/- A path's names: the document's Split. -/
import Derived.Test.YteiekfccfddmjaaDoorSplit10
namespace Go.Proofs.YteiekfccfddmjaaDoor
open Go.RowKit

/-- The document is at place i, and has cut off these names. -/
def SI (s : List UInt8) (i : Nat) (out : List (List UInt8)) : Prop :=
  (segs s).drop 1 = out ++ (segs (s.drop i)).drop 1 ∧ (s.drop i = [] ∨ (∃ r, s.drop i = 47 :: r) ∨ i = 0) ∧ (∀ x ∈ out, nmB x = true) ∧ (0 < i → (segs s).head? = some []) ∧ (i = 0 → out = [])
theorem SI.start (s : List UInt8) : SI s 0 [] := ⟨by simp, .inr (.inr rfl), by simp, by omega, fun _ => rfl⟩
theorem seg_name {s : List UInt8} {i k : Nat} (hi : i ≤ k) (hk : k ≤ s.length) (h1 : ∀ j (hj : j < s.length), i ≤ j → j < k → s[j] ≠ 47) (h2 : ∀ hk : k < s.length, s[k] = 47) :
    (s.drop i).takeWhile notS = (s.drop i).take (k - i) ∧ (s.drop i).dropWhile notS = s.drop k := by
  have e : s.drop i = (s.drop i).take (k - i) ++ s.drop k := by
    have := List.take_append_drop (k - i) (s.drop i)
    rw [List.drop_drop, show i + (k - i) = k by omega] at this
    exact this.symm
  have ha : ∀ c ∈ (s.drop i).take (k - i), notS c = true := by
    intro c hc
    obtain ⟨j, hj, rfl⟩ := List.getElem_of_mem hc
    simp only [List.length_take, List.length_drop] at hj
    rw [List.getElem_take, List.getElem_drop]
    have := h1 (i + j) (by omega) (by omega) (by omega)
    simpa [notS] using this
  have hb : s.drop k = [] ∨ ∃ r, s.drop k = 47 :: r := by
    by_cases hkl : k < s.length
    · right
      exact ⟨s.drop (k + 1), by rw [List.drop_eq_getElem_cons hkl, h2 hkl]⟩
    · left
      exact List.drop_of_length_le (by omega)
  generalize (s.drop i).take (k - i) = a at *
  generalize s.drop k = b at *
  rw [e, List.takeWhile_append_of_pos ha, List.dropWhile_append_of_pos ha]
  rcases hb with rfl | ⟨r, rfl⟩
  · simp
  · simp [notS]
theorem SI.next {s : List UInt8} {i : Nat} {out : List (List UInt8)} {r : List UInt8} (h : SI s i out) (hr : s.drop i = 47 :: r) (hn : nmB (r.takeWhile notS) = true) {k : Nat} (hk : r.dropWhile notS = s.drop k) (hk0 : 0 < k) : SI s k (out ++ [r.takeWhile notS]) := by
  obtain ⟨h1, h2, h3, h4, h5⟩ := h
  have e1 : (segs (47 :: r)).drop 1 = segs r := by simp [segs]
  rw [hr, e1, segs_take r, hk] at h1
  refine ⟨by rw [h1]; simp, ?_, fun x hx => ?_, fun _ => ?_, by omega⟩
  · rw [← hk]
    cases ha : r.all notS with
    | true => left; exact (tw_all ha).2
    | false => obtain ⟨q, hq⟩ := tw_some ha; right; left; exact ⟨q, hq⟩
  · rcases List.mem_append.1 hx with hx | hx
    · exact h3 x hx
    · simp only [List.mem_singleton] at hx
      rw [hx]
      exact hn
  · rcases Nat.eq_zero_or_pos i with e | e
    · rw [e, List.drop_zero] at hr
      rw [hr]
      simp [segs]
    · exact h4 e
theorem splitL_bad {s : List UInt8} (h1 : s ≠ [47]) {x : List UInt8} (hx : x ∈ (segs s).drop 1) (hn : nmB x = false) : splitL s = none := by
  cases hq : segs s with
  | nil => exact absurd hq (segs_ne s)
  | cons h t =>
    rw [hq] at hx
    rw [splitL_of h1 hq, if_neg]
    intro hh
    have := List.all_eq_true.1 hh.2.2.2 x (by simpa using hx)
    rw [hn] at this
    cases this
theorem SI.bad {s : List UInt8} {i : Nat} {out : List (List UInt8)} {r : List UInt8} (h : SI s i out) (h0 : s ≠ [47]) (hr : s.drop i = 47 :: r) (hn : nmB (r.takeWhile notS) = false) : splitL s = none := by
  have e1 : (segs (47 :: r)).drop 1 = segs r := by simp [segs]
  have h1 := h.1
  rw [hr, e1, segs_take r] at h1
  exact splitL_bad h0 (by rw [h1]; simp) hn
theorem SI.odd {s : List UInt8} {i : Nat} {out : List (List UInt8)} (h : SI s i out) (h0 : s ≠ [47]) (hi : i < s.length) (hc : s[i] ≠ 47) : splitL s = none := by
  have hd := List.drop_eq_getElem_cons hi
  rcases h.2.1 with e | ⟨r, e⟩ | e
  · rw [e] at hd; cases hd
  · rw [e] at hd; injection hd with hd; exact absurd hd.symm hc
  · subst e
    rw [List.drop_zero] at hd
    cases hq : segs s with
    | nil => exact absurd hq (segs_ne s)
    | cons h t =>
      rw [splitL_of h0 hq, if_neg]
      intro hh
      rw [hd] at hq
      simp only [segs, hc, if_false] at hq
      split at hq
      · injection hq with hq; rw [hh.1] at hq; cases hq
      · injection hq with hq; rw [hh.1] at hq; cases hq
theorem SI.done {s : List UInt8} {i : Nat} {out : List (List UInt8)} (h : SI s i out) (h0 : s ≠ [47]) (hi : s.length ≤ i) : splitL s = if 1 ≤ out.length ∧ out.length ≤ 6 then some out else none := by
  obtain ⟨h1, _, h3, h4, h5⟩ := h
  rw [List.drop_of_length_le (l := s) hi] at h1
  have h1 : (segs s).drop 1 = out := by rw [h1]; simp [segs]
  cases hq : segs s with
  | nil => exact absurd hq (segs_ne s)
  | cons h t =>
    rw [hq] at h1 h4
    simp only [List.drop_succ_cons, List.drop_zero] at h1
    subst h1
    rw [splitL_of h0 hq]
    rcases Nat.eq_zero_or_pos i with e | e
    · have := h5 e
      subst this
      simp
    · have := h4 e
      simp only [List.head?_cons, Option.some.injEq] at this
      subst this
      by_cases hc : 1 ≤ t.length ∧ t.length ≤ 6
      · rw [if_pos hc, if_pos ⟨rfl, hc.1, hc.2, List.all_eq_true.2 h3⟩]
      · rw [if_neg hc, if_neg (fun q => hc ⟨q.2.1, q.2.2.1⟩)]

theorem Mine.nms {w w' : World} {v : Value} {l : List (List UInt8)} (h : Mine strE 1 9 w w' v l) (x : Value) : NmsAns w w' (.returned (.tuple #[v, x])) l x := by
  obtain ⟨A, c, rfl, he, hc, _, _⟩ := h.shape strE_length
  exact ⟨A, c, rfl, hc, he, h.only⟩

set_option maxRecDepth 100000 in
set_option maxHeartbeats 4000000 in
theorem rsplit_any (w : World) (s : List UInt8) (hs : s.length ≤ 1048576) :
    Calls Tryd.prog 18 #[.string (strOf s)] w fun e w' => NmsAns w w' e ((splitL s).getD []) (.bool (splitL s).isSome) := by
  have e1 : ((strOf s).toList == [47]) = (s == [47]) := by rw [show (strOf s).toList = s from ByteArray.toList_mk _]
  have hsz := strOf_size s
  have hix := fun (i : Nat) (x : Int) (hx : x = i) (h : i < s.length) => index_strOf (P := Tryd.prog) 9 Tryd.underlying9 s i x .i64 hx h
  have hpt := fun (i j : Nat) (x y : Int) (hx : x = i) (hy : y = j) (hij : i ≤ j) (h : j ≤ s.length) => part_strOf (P := Tryd.prog) 9 Tryd.underlying9 s i j x y .i64 .i64 hx hy hij h
  by_cases h1 : s = [47]
  · have e2 : ((strOf s).toList == [47]) = true := by rw [e1, h1]; rfl
    have hr : splitL s = some [] := by rw [h1, splitL_root]
    rw [hr]
    clear e1 hr hix hpt
    generalize strOf s = sb at *
    go_enter Tryd.func18, Tryd.ntmps18
    go_wp2
    go_ret2
    exact NmsAns.no (Only.refl _ _)
  have e2 : ((strOf s).toList == [47]) = false := by rw [e1]; simpa using h1
  obtain ⟨r, hr⟩ : ∃ r, r = splitL s := ⟨_, rfl⟩
  rw [← hr]
  have HR := Lib.hid hr
  have H1 := Lib.hid h1
  clear hr h1 e1
  have hlenI : ((strOf s).size : Int) = (s.length : Int) := by omega
  generalize strOf s = sb at *
  have HZ := Lib.hid hlenI
  replace hix := Lib.hid hix
  replace hpt := Lib.hid hpt
  clear hsz hlenI
  go_enter Tryd.func18, Tryd.ntmps18
  go_wp2_with fail
  go_loopw [4, 5] (fun v a wr => ∃ (i : Nat) (out : List (List UInt8)), a = .int .i64 i ∧ i ≤ s.length ∧ out.length ≤ i ∧ Hid (SI s i out) ∧ Mine strE 1 9 w wr v out) (fun _ a _ => s.length - (intOf a).toNat)
  case atStart => exact ⟨0, [], rfl, Nat.zero_le _, Nat.le_refl _, SI.start s, Mine.start _ _ _ (Only.refl _ _)⟩
  case round =>
    obtain ⟨i, out, rfl, hi, hol, hI, hm⟩ := hrel
    obtain ⟨ol, hole⟩ : ∃ ol, ol = out.length := ⟨_, rfl⟩
    rw [← hole] at hol
    have HO := Lib.hid hole
    clear hole
    by_cases hlt : i < s.length
    · have hltI : (i : Int) < (sb.size : Int) := by rw [HZ.out]; omega
      have hx := hix.out i i rfl hlt
      rw [show s.getD i 0 = s[i] by simp [hlt]] at hx
      by_cases hc : s[i] = 47
      rotate_left
      · have hn := hI.out.odd H1.out hlt hc
        have hn' : r = none := by rw [HR.out, hn]
        subst hn'
        have hcc : ¬ (s[i].toNat : Int) = 47 := fun e => hc (UInt8.toNat_inj.1 (by rw [show (47 : UInt8).toNat = 47 from rfl]; omega))
        have hcb : ((s[i].toNat : Int) != 47) = true := by simpa using hcc
        have honly := hm.only
        clear hn hc hm
        generalize s[i].toNat = x at *
        go_wp2
        go_ret2
        exact NmsAns.no honly
      · rw [hc, show ((47 : UInt8).toNat : Int) = 47 from rfl] at hx
        have hdr : s.drop i = 47 :: s.drop (i + 1) := by rw [List.drop_eq_getElem_cons hlt, hc]
        replace hdr := Lib.hid hdr
        replace hc := Lib.hid hc
        go_wp2_with fail
        go_loopw [6] (fun b wr2 => ∃ k : Nat, b = .int .i64 k ∧ i + 1 ≤ k ∧ k ≤ s.length ∧ Hid (∀ j (hj : j < s.length), i + 1 ≤ j → j < k → s[j] ≠ 47) ∧ wr2 = wr) (fun b _ => s.length - (intOf b).toNat)
        case atStart => exact ⟨i + 1, by go_num, Nat.le_refl _, by omega, fun j hj q1 q2 => by omega, rfl⟩
        case round =>
          obtain ⟨k, rfl, hik, hkl, hgood, rfl⟩ := hrel
          have hend : Hid ((∀ hk : k < s.length, s[k] = 47) → nmB ((s.drop (i + 1)).take (k - (i + 1))) = false → r = none) := fun h2 hn => by
            obtain ⟨q1, q2⟩ := seg_name hik hkl hgood.out h2
            rw [← q1] at hn
            rw [HR.out]
            exact hI.out.bad H1.out hdr.out hn
          have hgo : Hid ((∀ hk : k < s.length, s[k] = 47) → nmB ((s.drop (i + 1)).take (k - (i + 1))) = true → SI s k (out ++ [(s.drop (i + 1)).take (k - (i + 1))])) := fun h2 hn => by
            obtain ⟨q1, q2⟩ := seg_name hik hkl hgood.out h2
            rw [← q1] at hn ⊢
            exact hI.out.next hdr.out hn q2 (by omega)
          have hpart := hpt.out (i + 1) k (i + 1) k (by omega) rfl hik hkl
          have hikI : (i : Int) + 1 ≤ (k : Int) := by omega
          have hklI : (k : Int) ≤ (sb.size : Int) := by rw [HZ.out]; omega
          by_cases hkk : k < s.length
          · have hkI : (k : Int) < (sb.size : Int) := by rw [HZ.out]; omega
            have hkd : decide ((k : Int) < (sb.size : Int)) = true := decide_eq_true hkI
            have hx2 := hix.out k k rfl hkk
            rw [show s.getD k 0 = s[k] by simp [hkk]] at hx2
            by_cases hc2 : s[k] = 47
            rotate_left
            · have hcc : ¬ (s[k].toNat : Int) = 47 := fun e => hc2 (UInt8.toNat_inj.1 (by rw [show (47 : UInt8).toNat = 47 from rfl]; omega))
              have hcb : ((s[k].toNat : Int) != 47) = true := by simpa using hcc
              have hnext : Hid (∀ j (hj : j < s.length), i + 1 ≤ j → j < k + 1 → s[j] ≠ 47) := fun j hj q1 q2 => by
                by_cases e : j = k
                · subst e; exact hc2
                · exact hgood.out j hj q1 (by omega)
              clear hc2 hcc hend hgo hpart hgood
              generalize s[k].toNat = x at *
              go_wp2
              go_roundw
              case rel => exact ⟨k + 1, by go_num, by omega, by omega, hnext, by trivial⟩
              case measure => simp [intOf]; omega
            · rw [hc2, show ((47 : UInt8).toNat : Int) = 47 from rfl] at hx2
              have hend' := Lib.hid (hend.out (fun _ => hc2))
              have hgo' := Lib.hid (hgo.out (fun _ => hc2))
              clear hend hgo hgood hc2
              have hN := fun W => rname_any W ((s.drop (i + 1)).take (k - (i + 1)))
              generalize (s.drop (i + 1)).take (k - (i + 1)) = nm at *
              generalize nmB nm = nb at *
              replace hN := Lib.hid hN
              cases nb with
              | false =>
                have hn := hend'.out rfl
                subst hn
                have honly := hm.only
                clear hm
                generalize strOf nm = nmb at *
                go_wp2_with fail
                refine (hN.out _).mono ?_; rintro e w3 ⟨rfl, rfl⟩
                go_wp2
                go_ret2
                exact NmsAns.no honly
              | true =>
                have hgo2 := hgo'.out rfl
                replace hgo2 := Lib.hid hgo2
                obtain ⟨A, cc, rfl, _, hcl, _, _⟩ := hm.shape strE_length
                have B5 : ∀ W : World, Blk (W.alloc (.cells #[.string (strOf nm)] 9)) W.heap.size 9 (strE nm).toArray := fun W => Blk.new _ _ _
                have hm5 := hm.keep ((Only.refl [] _).alloc (.cells #[.string (strOf nm)] 9))
                have hole := HO.out
                rw [← hole] at hcl
                rw [← hole] at hm5
                rw [← hole]
                replace hole := Lib.hid hole
                go_wp2_with fail
                refine (hN.out _).mono ?_; rintro e w3 ⟨rfl, rfl⟩
                go_wp2_with (at_builtin; go_must (refine wpList_push rfl _ _ 33 rfl 9 _ 16 strE_length (by decide) strE_one Tryd.underlying33 info_str rfl _ ol out rfl (by have := hm5.own; rwa [← hole.out] at this) _ nm _ rfl (B5 _) (by unfold maxLen; omega) (by omega) ?_); intro vv w6 h6 g6 a6)
                rw [hole.out] at h6 g6 a6
                have hm6 := Mine.pushed (by rw [hole.out] at hm5; exact hm5) h6 g6 a6
                go_wp2_with fail
                go_roundw
                case rel => exact ⟨k, out ++ [nm], rfl, hkl, by have := HO.out; simp; omega, hgo2.out, hm6⟩
                case measure => simp [intOf]; omega
          · have hkI : ¬ (k : Int) < (sb.size : Int) := by rw [HZ.out]; omega
            have hkd : decide ((k : Int) < (sb.size : Int)) = false := decide_eq_false hkI
            have hend' := Lib.hid (hend.out (fun q => absurd q hkk))
            have hgo' := Lib.hid (hgo.out (fun q => absurd q hkk))
            clear hend hgo hgood
            have hN := fun W => rname_any W ((s.drop (i + 1)).take (k - (i + 1)))
            generalize (s.drop (i + 1)).take (k - (i + 1)) = nm at *
            generalize nmB nm = nb at *
            replace hN := Lib.hid hN
            cases nb with
            | false =>
              have hn := hend'.out rfl
              subst hn
              have honly := hm.only
              clear hm
              generalize strOf nm = nmb at *
              go_wp2_with fail
              refine (hN.out _).mono ?_; rintro e w3 ⟨rfl, rfl⟩
              go_wp2
              go_ret2
              exact NmsAns.no honly
            | true =>
              have hgo2 := hgo'.out rfl
              replace hgo2 := Lib.hid hgo2
              obtain ⟨A, cc, rfl, _, hcl, _, _⟩ := hm.shape strE_length
              have B5 : ∀ W : World, Blk (W.alloc (.cells #[.string (strOf nm)] 9)) W.heap.size 9 (strE nm).toArray := fun W => Blk.new _ _ _
              have hm5 := hm.keep ((Only.refl [] _).alloc (.cells #[.string (strOf nm)] 9))
              have hole := HO.out
              rw [← hole] at hcl
              rw [← hole] at hm5
              rw [← hole]
              replace hole := Lib.hid hole
              go_wp2_with fail
              refine (hN.out _).mono ?_; rintro e w3 ⟨rfl, rfl⟩
              go_wp2_with (at_builtin; go_must (refine wpList_push rfl _ _ 33 rfl 9 _ 16 strE_length (by decide) strE_one Tryd.underlying33 info_str rfl _ ol out rfl (by have := hm5.own; rwa [← hole.out] at this) _ nm _ rfl (B5 _) (by unfold maxLen; omega) (by omega) ?_); intro vv w6 h6 g6 a6)
              rw [hole.out] at h6 g6 a6
              have hm6 := Mine.pushed (by rw [hole.out] at hm5; exact hm5) h6 g6 a6
              go_wp2_with fail
              go_roundw
              case rel => exact ⟨k, out ++ [nm], rfl, hkl, by have := HO.out; simp; omega, hgo2.out, hm6⟩
              case measure => simp [intOf]; omega
    · have hltI : ¬ (i : Int) < (sb.size : Int) := by rw [HZ.out]; omega
      have hfin := hI.out.done H1.out (by omega)
      have hole := HO.out
      have hl16 : out.length ≤ 1048576 := by omega
      by_cases h01 : out.length < 1
      · have hn : r = none := by rw [HR.out, hfin, if_neg (fun q => by omega)]
        have hd1 : decide ((ol : Int) < 1) = true := decide_eq_true (by omega)
        subst hn
        have honly := hm.only
        obtain ⟨A, cc, rfl, _, _, _, _⟩ := hm.shape strE_length
        rw [← hole]
        clear hm hfin
        replace hole := Lib.hid hole
        go_wp2
        go_ret2
        exact NmsAns.no honly
      have hd1 : decide ((ol : Int) < 1) = false := decide_eq_false (by omega)
      by_cases h06 : 6 < out.length
      · have hn : r = none := by rw [HR.out, hfin, if_neg (fun q => by omega)]
        have hd6 : decide ((6 : Int) < (ol : Int)) = true := decide_eq_true (by omega)
        subst hn
        have honly := hm.only
        obtain ⟨A, cc, rfl, _, _, _, _⟩ := hm.shape strE_length
        rw [← hole]
        clear hm hfin
        replace hole := Lib.hid hole
        go_wp2
        go_ret2
        exact NmsAns.no honly
      have hd6 : decide ((6 : Int) < (ol : Int)) = false := decide_eq_false (by omega)
      have hn : r = some out := by rw [HR.out, hfin, if_pos ⟨by omega, by omega⟩]
      subst hn
      have hans := hm.nms (.bool true)
      obtain ⟨A, cc, rfl, _, _, _, _⟩ := hm.shape strE_length
      rw [← hole] at hans ⊢
      clear hm hfin
      replace hole := Lib.hid hole
      replace hans := Lib.hid hans
      go_wp2
      go_ret2
      exact hans.out
end Go.Proofs.YteiekfccfddmjaaDoor
