/- The walk of PlaneApart: turned there and back a place is where it was; units behind one another are on unlike servers. -/
import Derived.Test.YthmicabihpfeiaaRounds
import Derived.Deep.LoopGhost
import Derived.Deep.QuietTactic
import Derived.BigQuiet
namespace Go.Proofs.Ythmicabihpfeiaa
open Go.RowKit Go.Proofs.Ythmicabihpfeiaa.Fl

/-- What the loop has seen: a cell that is set bears the server of an earlier unit. -/
def Seen (k t n : Int) (j B : Nat) (w : World) : Prop := ∃ f : Nat → Bool, (∀ m, m < 17 → w.cell? ⟨B, m, none⟩ = some (.bool (f m)) ∧ w.frozen? ⟨B, m, none⟩ = false) ∧ ∀ m, f m = true → ∃ i : Nat, i < j ∧ (1 + (k + i + t) % n).toNat = m

def Aparting (k t n : Int) (B : Nat) (w0 : World) (i : Value) (w : World) : Prop := ∃ j : Nat, (j : Int) ≤ n ∧ i = .int .i64 j ∧ Seen k t n j B w ∧ Grown w0 w ∧ B < w.heap.size

theorem seen_start (k t n : Int) (w : World) : Seen k t n 0 w.heap.size (w.alloc (.cells #[.bool false, .bool false, .bool false, .bool false, .bool false, .bool false, .bool false, .bool false, .bool false, .bool false, .bool false, .bool false, .bool false, .bool false, .bool false, .bool false, .bool false] 41)) := by
  refine ⟨fun _ => false, fun m hm => ?_, fun m h => by cases h⟩
  have h : m = 0 ∨ m = 1 ∨ m = 2 ∨ m = 3 ∨ m = 4 ∨ m = 5 ∨ m = 6 ∨ m = 7 ∨ m = 8 ∨ m = 9 ∨ m = 10 ∨ m = 11 ∨ m = 12 ∨ m = 13 ∨ m = 14 ∨ m = 15 ∨ m = 16 := by omega
  rcases h with h | h | h | h | h | h | h | h | h | h | h | h | h | h | h | h | h <;> (subst h; simp [go_sem])

theorem seen_apart {k t n : Int} {i j : Nat} (hi : i < j) (hj : (j : Int) < n) (h : (k + i + t) % n = (k + j + t) % n) : False := by
  have h1 : ((k + j + t) - (k + i + t)) % n = 0 := by rw [Int.sub_emod, h, Int.sub_self]; rfl
  rw [show (k + j + t) - (k + i + t) = (j : Int) - i by omega, Int.emod_eq_of_lt (by omega) (by omega)] at h1
  omega

theorem seen_next {k t n : Int} {j B m0 : Nat} {w w' : World} {f : Nat → Bool} (hb : B < w.heap.size) (hg : Grown w w')
    (h1 : ∀ m, m < 17 → w.cell? ⟨B, m, none⟩ = some (.bool (f m)) ∧ w.frozen? ⟨B, m, none⟩ = false) (h2 : ∀ m, f m = true → ∃ i : Nat, i < j ∧ (1 + (k + i + t) % n).toNat = m)
    (_h3 : m0 < 17) (h4 : (1 + (k + j + t) % n).toNat = m0) {v : Value} (h5 : w'.cell? ⟨B, m0, none⟩ = some v) :
    Seen k t n (j + 1) B (w'.setCell ⟨B, m0, none⟩ (.bool true)) := by
  refine ⟨fun m => if m = m0 then true else f m, fun m hm => ⟨?_, ?_⟩, fun m hm => ?_⟩
  · by_cases e : m = m0
    · subst e
      rw [World.cell?_setCell_same' _ _ _ (by rw [h5]; rfl)]
      simp
    · rw [World.cell?_setCell_other _ _ _ _ (by intro he; apply e; cases he; rfl), hg.1.cell hb (fun h => h), (h1 m hm).1]
      simp [e]
  · rw [World.frozen?_setCell, hg.2.1, (h1 m hm).2]
  · by_cases e : m = m0
    · exact ⟨j, by omega, by rw [e, ← h4]⟩
    · have hm : f m = true := by simpa [e] using hm
      obtain ⟨i, hi, he⟩ := h2 m hm
      exact ⟨i, by omega, he⟩

set_option maxHeartbeats 1000000 in
theorem apart_loop (k t n : Int) (x y : Nat) (c r : Int) (hk : 0 ≤ k ∧ k ≤ 4294967295) (t0 : -9223372036854775807 ≤ t) (t1 : t ≤ 9223372036854775807) (hn : 1 ≤ n ∧ n ≤ 16) (e : Int)
    (hat : At x y c r n) (w : World) (hp : ∀ w, Calls Try.prog 9 #[.int .i64 k, .int .i64 n] w fun e' w' => e' = .returned (.tuple #[.complex .f64 x y, .int .i64 e]) ∧ Grown w w') :
    Calls Try.prog 6 #[.int .u32 k, .int .i64 t, .int .i64 n] w fun e w' => e = .returned (.bool true) ∧ Grown w w' := by
  obtain ⟨k0, k9⟩ := hk
  obtain ⟨n1, n2⟩ := hn
  have HP := Lib.hid hp
  clear hp
  have q1 : (t == -9223372036854775808) = false := by simp; omega
  go_enter Try.func6, Try.ntmps6
  go_wp2_with fail
  refine (alive_any _).mono ?_; rintro e w1 ⟨rfl, hg1⟩
  go_wp2_with fail
  refine (HP.out _).mono ?_; rintro e w2 ⟨rfl, hg2⟩
  go_wp2_with fail
  obtain ⟨u, v, hu, hs⟩ := turn_yes x y c r t n w2 (by omega) t1 hat
  refine hs.mono ?_; rintro e w' ⟨rfl, rfl⟩
  clear hs
  go_wp2_with fail
  obtain ⟨u', v', hu', hs⟩ := turn_yes u v _ r (-t) n w2 (by omega) (by omega) hu
  refine hs.mono ?_; rintro e w' ⟨rfl, rfl⟩
  clear hs
  have hc : ((c + t) % n + -t) % n = c := by
    rw [Int.emod_add_emod, Int.add_assoc, Int.add_right_neg, Int.add_zero, Int.emod_eq_of_lt hat.2.2.1 hat.2.2.2.1]
  have g1 : (FloatKind.f64.format.order u' x == some .eq) = true := by rw [eq_bool hu'.1 hat.1, hc]; simp
  have g2 : (FloatKind.f64.format.order v' y == some .eq) = true := by rw [eq_bool hu'.2.1 hat.2.1]; simp
  clear hc
  go_wp2_with fail
  have hz : w.heap.size ≤ w2.heap.size := (Grown.trans hg1 hg2).2.2
  go_loopw [14] (fun i wr => Aparting k t n w2.heap.size w i wr) (fun i _ => (n - intOf i).toNat)
  case atStart => exact ⟨0, by omega, rfl, seen_start _ _ _ _, Grown.alloc (Grown.trans hg1 hg2) _ _, by simp⟩
  case round =>
    obtain ⟨j, hj, rfl, hseen, hgr, hbl⟩ := hrel
    by_cases hlt : (j : Int) < n
    · rcases fit_or_bad (k + j) n with hm | hm
      · obtain ⟨s, hs⟩ : ∃ s : Nat, (s : Int) = 1 + (k + j + t) % n := ⟨(1 + (k + j + t) % n).toNat, by have := Int.emod_nonneg (k + j + t) (by omega : n ≠ 0); omega⟩
        have hs1 : 1 ≤ s := by have := Int.emod_nonneg (k + j + t) (by omega : n ≠ 0); omega
        have hs2 : (s : Int) ≤ n := by have := Int.emod_lt_of_pos (k + j + t) (by omega : 0 < n); omega
        have HS := Lib.hid hs
        clear hs
        have hmod : s % 17 = s := Nat.mod_eq_of_lt (by omega)
        obtain ⟨f, hf1, hf2⟩ := hseen
        have hnew : f (s % 17) = false := by
          cases hfs : f (s % 17)
          · rfl
          · exfalso
            obtain ⟨i, hi, he⟩ := hf2 _ hfs
            exact seen_apart (k := k) (t := t) hi hlt (by rw [hmod] at he; have := HS.out; have := Int.emod_nonneg (k + i + t) (by omega : n ≠ 0); omega)
        have HF := Lib.hid hf1
        have HF2 := Lib.hid hf2
        have HG := Lib.hid hgr
        have HN := Lib.hid hnew
        have HM := Lib.hid hmod
        clear hf1 hf2 hgr hnew hmod
        go_wp2_with fail
        refine (server_yes (k + j) t n _ (by omega) t1 n1 n2 hm.2.2.1 hm.2.2.2).mono ?_; rintro e w3 ⟨rfl, hg3⟩
        rw [← HS.out]
        have hcell : w3.cell? { block := w2.heap.size, off := s % 17 } = some (.bool false) := by
          rw [hg3.1.cell hbl (fun h => h), (HF.out _ (Nat.mod_lt _ (by decide))).1, HN.out]
        have hfroz : w3.frozen? { block := w2.heap.size, off := s % 17 } = false := by
          rw [hg3.2.1, (HF.out _ (Nat.mod_lt _ (by decide))).2]
        go_wp2_with fail
        go_roundw
        case rel => exact ⟨j + 1, by omega, by go_num, seen_next hbl hg3 HF.out HF2.out (Nat.mod_lt _ (by decide)) (by have := HS.out; have := HM.out; omega) hcell, Grown.setCell (Grown.trans HG.out hg3) hz _, by have := hg3.2.2; simp; omega⟩
        case measure => simp [intOf]; omega
      · have hb : 2147483647 < k := by unfold Bad at hm; omega
        have hd : decide (2147483647 < k) = true := by simp; omega
        have HSeen := Lib.hid hseen
        clear hseen
        go_wp2_with fail
        refine (server_no (k + j) t n _ hm).mono ?_; rintro e w' ⟨rfl, rfl⟩
        go_wp2_with fail
        refine (alive_any _).mono ?_; rintro e w3 ⟨rfl, hg3⟩
        go_wp2_with fail
        go_ret; exact ⟨rfl, Grown.trans hgr hg3⟩
    · have HSeen := Lib.hid hseen
      clear hseen
      go_wp2_with fail
      refine (alive_any _).mono ?_; rintro e w3 ⟨rfl, hg3⟩
      go_wp2_with fail
      go_ret; exact ⟨rfl, Grown.trans hgr hg3⟩

set_option maxHeartbeats 400000 in
theorem planeApart_walk (k t n : Int) (hk : 0 ≤ k ∧ k ≤ 4294967295) (ht : -9223372036854775808 ≤ t ∧ t ≤ 9223372036854775807) (w : World) :
    Calls Try.prog 6 #[.int .u32 k, .int .i64 t, .int .i64 n] w fun e w' => e = .returned (.bool true) ∧ Grown w w' := by
  by_cases h1 : n < 1
  · go_enter Try.func6, Try.ntmps6
    go_wp2_with fail
    refine (alive_any _).mono ?_; rintro e w1 ⟨rfl, hg1⟩
    go_wp2_with fail
    refine (alive_any _).mono ?_; rintro e w2 ⟨rfl, hg2⟩
    go_wp2_with fail
    go_ret; exact ⟨rfl, Grown.trans hg1 hg2⟩
  by_cases h2 : 16 < n
  · have q1 : decide (n < 1) = false := by simp; omega
    have q2 : decide (16 < n) = true := by simp; omega
    go_enter Try.func6, Try.ntmps6
    go_wp2_with fail
    refine (alive_any _).mono ?_; rintro e w1 ⟨rfl, hg1⟩
    go_wp2_with fail
    refine (alive_any _).mono ?_; rintro e w2 ⟨rfl, hg2⟩
    go_wp2_with fail
    go_ret; exact ⟨rfl, Grown.trans hg1 hg2⟩
  by_cases h3 : t = -9223372036854775808
  · subst h3
    have q1 : decide (n < 1) = false := by simp; omega
    have q2 : decide (16 < n) = false := by simp; omega
    go_enter Try.func6, Try.ntmps6
    go_wp2_with fail
    refine (alive_any _).mono ?_; rintro e w1 ⟨rfl, hg1⟩
    go_wp2_with fail
    refine (alive_any _).mono ?_; rintro e w2 ⟨rfl, hg2⟩
    go_wp2_with fail
    go_ret; exact ⟨rfl, Grown.trans hg1 hg2⟩
  have hn : 1 ≤ n ∧ n ≤ 16 := by omega
  rcases fit_or_bad k n with hf | hf
  · exact apart_loop k t n _ _ _ _ hk (by omega) ht.2 hn 0 (at_place hf.1 hf.2.1 hf.2.2.1 hf.2.2.2) w fun w => place_yes k n w hf.1 hf.2.1 hf.2.2.1 hf.2.2.2
  · refine apart_loop k t n 0 0 0 0 hk (by omega) ht.2 hn 1 ⟨whole_nought, whole_nought, by omega, by omega, by omega, by omega, hn.1, hn.2⟩ w fun w => (place_no k n w hf).mono fun e w' h => ⟨h.1, Grown.of_eq h.2⟩

end Go.Proofs.Ythmicabihpfeiaa
