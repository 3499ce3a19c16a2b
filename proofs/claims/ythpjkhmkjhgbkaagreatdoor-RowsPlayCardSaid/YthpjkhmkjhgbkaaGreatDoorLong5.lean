/- Lists of changes that come in; long; same. -/
import Derived.Test.YthpjkhmkjhgbkaaGreatDoorGh
namespace Go.Proofs.YthpjkhmkjhgbkaaGreatDoor
open Go.RowKit Go.Maps Go.ChangeShapes Go.WideShapes Go.ChangeAt Go.Deep

section
variable {H : Type} {enc : TypeId × Value → H} {w : World}
set_option maxRecDepth 100000 in
theorem open_chs' {v : Value} {fuel : Nat} {x : DataW H × List MemPlace} (h : DataW.trod enc Tryz.prog w 0 (fun _ => true) true fuel 37 [v] = some x) : ∃ (A : Option Addr) (c : Nat) (l : List Ch), v = .slice A (List.length l) c ∧ Els chE 3 w A l ∧ okayC l ∧ l.length ≤ 9223372036854775807 ∧ l.length ≤ c := by
  rcases open_structs Tryz.underlying37 Tryz.underlying59 (by kernel_rfl) (by kernel_rfl) (by decide) h with h0 | ⟨A, len, cap, hcs, ⟨hm, hcap⟩, hz⟩
  · injection h0 with h0 _
    exact ⟨none, 0, [], h0, .inl rfl, by simp [okayC], by simp, by simp⟩
  · injection hcs with hcs _
    subst hcs
    have hm' : len ≤ 9223372036854775807 := by simp only [maxLen] at hm; omega
    rcases hz with rfl | ⟨g, o, rfl, hg, hall⟩
    · exact ⟨A, cap, [], rfl, .inl rfl, by simp [okayC], by simp, by simp⟩
    have each : ∀ i, i < len → ∃ x : Ch, (w.cell? ⟨g, o + i * 3, none⟩ = some (.string (strOf x.key)) ∧ w.cell? ⟨g, o + i * 3 + 1, none⟩ = some (.string (strOf x.val)) ∧ w.cell? ⟨g, o + i * 3 + 2, none⟩ = some (.bool x.gone)) ∧ x.key.length ≤ 9223372036854775807 ∧ x.val.length ≤ 9223372036854775807 := by
      intro i hi
      obtain ⟨n0, v0, y0, k0, t0⟩ := hall i hi 0 _ rfl
      obtain ⟨n1, v1, y1, k1, t1⟩ := hall i hi 1 _ rfl
      obtain ⟨n2, v2, y2, k2, t2⟩ := hall i hi 2 _ rfl
      obtain ⟨s0, e0, _, w0⟩ := DataW.trod_string Tryz.underlying9 t0
      obtain ⟨s1, e1, _, w1⟩ := DataW.trod_string Tryz.underlying9 t1
      obtain ⟨b, e2, _⟩ := DataW.trod_bool Tryz.underlying4 t2
      injection e0 with e0 _; injection e1 with e1 _; injection e2 with e2 _
      subst e0; subst e1; subst e2
      have hlen : ∀ s : ByteArray, s.data.toList.length = s.size := fun s => by rw [Array.length_toList]; rfl
      refine ⟨⟨s0.data.toList, s1.data.toList, b⟩, ⟨?_, ?_, k2⟩, ?_, ?_⟩
      · simp only [strOf_toList]
        simpa using k0
      · simp only [strOf_toList]
        simpa using k1
      · simp only [maxLen] at w0
        simp only [hlen]
        omega
      · simp only [maxLen] at w1
        simp only [hlen]
        omega
    obtain ⟨f, hf'⟩ := choose_lt each
    refine ⟨_, cap, (List.range len).map f, by simp, .inr ⟨g, o, rfl, hg, fun j hj i v hv => ?_⟩, ?_, by rw [List.length_map, List.length_range]; exact hm', by rw [List.length_map, List.length_range]; exact hcap⟩
    · have e : ((List.range len).map f)[j] = f j := by simp
      rw [e] at hv
      obtain ⟨⟨q0, q1, q2⟩, _⟩ := hf' j (by simpa using hj)
      match i, hv with
      | 0, hv => simp [chE] at hv; subst hv; exact q0
      | 1, hv => simp [chE] at hv; subst hv; exact q1
      | 2, hv => simp [chE] at hv; subst hv; exact q2
      | i + 3, hv => simp [chE] at hv
    · intro x hx
      simp only [List.mem_map, List.mem_range] at hx
      obtain ⟨i, hi, rfl⟩ := hx
      exact (hf' i hi).2
set_option maxRecDepth 100000 in
/-- A list of changes that comes in. -/
theorem open_chs {v : Value} {d : DataW H} {ps : List MemPlace} {r : Reach} {b0 : Nat} (hv : Value.okWide Tryz.prog w r b0 37 v) (h : DataW.Trod enc Tryz.prog w 0 (fun _ => true) true 37 v d ps) :
    ∃ A c l, v = .slice A (List.length l) c ∧ Els chE 3 w A l ∧ okayC l ∧ l.length ≤ 9223372036854775807 ∧ l.length ≤ c := by
  obtain ⟨A, len, cap, rfl⟩ := okWide_slice Tryz.underlying37 hv
  obtain ⟨fuel, hf⟩ := h
  exact open_chs' (by simpa [Value.cells] using hf)
end

def ShortL (l : List Ch) : Prop := l.length ≤ 80 ∧ ∀ (i : Nat) x, l[i]? = some x → x.key.length ≤ 200 ∧ x.val.length ≤ 400
/-- Behind long. -/
def LongE (l : List Ch) (e : Ending) : Prop := ∃ r : Bool, e = .returned (.bool r) ∧ (r = false → ShortL l)
theorem longE_yes (l : List Ch) : LongE l (.returned (.bool true)) := ⟨true, rfl, by simp⟩
theorem longE_no {l : List Ch} (h : ShortL l) : LongE l (.returned (.bool false)) := ⟨false, rfl, fun _ => h⟩
set_option maxRecDepth 100000 in
set_option maxHeartbeats 1000000 in
theorem long_any (w : World) (A : Option Addr) (c : Nat) (l : List Ch) (hb : Els chE 3 w A l) (hl : l.length ≤ 9223372036854775807) :
    Calls Tryz.prog 13 #[.slice A l.length c] w fun e w' => LongE l e ∧ Only [] w w' := by
  have hlI : (l.length : Int) ≤ 9223372036854775807 := by omega
  by_cases h80 : 80 < l.length
  · have h80' : (80 : Int) < (l.length : Int) := by omega
    go_enter Tryz.func13, Tryz.ntmps13
    go_wp2
    go_ret
    exact ⟨longE_yes l, Only.refl _ _⟩
  have h80' : ¬ (80 : Int) < (l.length : Int) := by omega
  go_enter Tryz.func13, Tryz.ntmps13
  go_wp2_with fail
  go_loopw [3] (fun i wr => ∃ n : Nat, n ≤ l.length ∧ i = .int .i64 n ∧ Hid (∀ (j : Nat) x, j < n → l[j]? = some x → x.key.length ≤ 200 ∧ x.val.length ≤ 400) ∧ Only [] w wr) (fun i _ => l.length - (intOf i).toNat)
  case atStart => exact ⟨0, Nat.zero_le _, rfl, fun j x hj => by omega, Only.refl _ _⟩
  case round =>
    obtain ⟨n, hn, rfl, hgood, hk⟩ := hrel
    by_cases hlt : n < l.length
    · obtain ⟨g, o, rfl, hg, hat⟩ := hb.get hlt
      obtain ⟨c0, c1, c2⟩ := chs_at (hat.kept hk (by simp)) hlt
      have hx : l[n]? = some l[n] := List.getElem?_eq_getElem hlt
      generalize l[n] = x at *
      obtain ⟨key, val, gone⟩ := x
      simp only at c0 c1 c2
      have hs0 : (strOf key).size = key.length := strOf_size _
      have hs1 : (strOf val).size = val.length := strOf_size _
      generalize strOf key = ks at *
      generalize strOf val = vs at *
      have hnext : ks.size ≤ 200 → vs.size ≤ 400 → Hid (∀ (j : Nat) x, j < n + 1 → l[j]? = some x → x.key.length ≤ 200 ∧ x.val.length ≤ 400) := fun p q j y hj hy => by
        by_cases hjn : j = n
        · subst hjn
          rw [hx] at hy
          injection hy with hy
          subst hy
          exact ⟨by simp only; omega, by simp only; omega⟩
        · exact hgood.out j y (by omega) hy
      replace hnext := Lib.hid hnext
      replace hx := Lib.hid hx
      replace hs0 := Lib.hid hs0
      replace hs1 := Lib.hid hs1
      clear hgood
      by_cases b0 : (200 : Int) < (ks.size : Int)
      · go_wp2
        go_ret
        exact ⟨longE_yes l, hk⟩
      · by_cases b1 : (400 : Int) < (vs.size : Int)
        · go_wp2
          go_ret
          exact ⟨longE_yes l, hk⟩
        · go_wp2
          go_roundw
          case rel => exact ⟨n + 1, by omega, by go_num, hnext.out (by omega) (by omega), hk⟩
          case measure => simp [intOf]; omega
    · have hge : (l.length : Int) ≤ n := by omega
      have hfin : ShortL l := ⟨by omega, fun i x hx => hgood.out i x (by have := (List.getElem?_eq_some_iff.1 hx).1; omega) hx⟩
      replace hfin := Lib.hid hfin
      clear hgood
      go_wp2
      go_ret
      exact ⟨longE_no hfin.out, hk⟩
end Go.Proofs.YthpjkhmkjhgbkaaGreatDoor
