/- within, Bytes, Put, Cut, Length. -/
import Derived.Test.YtchlcmgdfbabdaaGreatDoorPages7
namespace Go.Proofs.YtchlcmgdfbabdaaGreatDoor.Pgs
open Go.RowKit

def inB (off len : Int) : Bool := decide (0 ≤ off ∧ 0 ≤ len ∧ off ≤ 1024 - len)
theorem inB_yes {off len : Int} (h : inB off len = true) : 0 ≤ off ∧ 0 ≤ len ∧ off ≤ 1024 - len := of_decide_eq_true h
theorem inB_of {off len : Int} (h0 : 0 ≤ off) (h1 : 0 ≤ len) (h2 : off ≤ 1024 - len) : inB off len = true := decide_eq_true ⟨h0, h1, h2⟩
theorem inB_no {off len : Int} (h : ¬ (0 ≤ off ∧ 0 ≤ len ∧ off ≤ 1024 - len)) : inB off len = false := decide_eq_false h

theorem within_any (w : World) (off len : Int) (l9 : len ≤ 9223372036854775807) :
    Calls Tryz.prog 39 #[.int .i64 off, .int .i64 len] w fun e w' => e = .returned (.bool (inB off len)) ∧ w' = w := by
  by_cases h0 : 0 ≤ off
  · by_cases h1 : 0 ≤ len
    · by_cases h2 : off ≤ 1024 - len
      · rw [inB_of h0 h1 h2]
        go_enter Tryz.func39, Tryz.ntmps39
        go_wp2
        go_ret
        exact ⟨rfl, rfl⟩
      · rw [inB_no (fun h => h2 h.2.2)]
        have d2 : decide (off ≤ 1024 - len) = false := by simpa using h2
        go_enter Tryz.func39, Tryz.ntmps39
        go_wp2
        go_ret
        exact ⟨rfl, rfl⟩
    · rw [inB_no (fun h => h1 h.2.1)]
      have d1 : decide (0 ≤ len) = false := by simpa using h1
      go_enter Tryz.func39, Tryz.ntmps39
      go_wp2
      go_ret
      exact ⟨rfl, rfl⟩
  · rw [inB_no (fun h => h0 h.1)]
    have d1 : decide (0 ≤ off) = false := by simpa using h0
    go_enter Tryz.func39, Tryz.ntmps39
    go_wp2
    go_ret
    exact ⟨rfl, rfl⟩

/-- 'b[k:h]' of a body. -/
theorem body_part (q k h : Nat) (x y : Int) (hx : x = k) (hy : y = h) (hk : k ≤ h) (hh : h ≤ 1024) :
    ∃ off : Nat, (k < 1024 → off = k) ∧ ∀ W : World, (Instr.sliceAt 71 (.pointer (some ⟨q, 0, none⟩)) (some (.int .i64 x)) (some (.int .i64 y)) none).run Tryz.prog W = .ok (.slice (some ⟨q, off, none⟩) (h - k) (1024 - k)) W := by
  subst hx
  subst hy
  have ht : Tryz.prog.underlying 71 = some (.array (Tryz.prog.arrayLen 71) (Tryz.prog.elem 71)) := by kernel_rfl
  have hl : Tryz.prog.arrayLen 71 = 1024 := by kernel_rfl
  have he : Tryz.prog.elem 71 = 5 := by kernel_rfl
  refine ⟨if 1024 = k then 0 else k, fun h => by rw [if_neg (by omega)], fun W => ?_⟩
  rw [run_sliceAt_array_lh W _ _ ht .i64 .i64 (k : Int) (h : Int) (by omega) (by omega) (by rw [hl]; omega), hl, he, Tryz.sizeOf5]
  by_cases h : 1024 = k
  · simp [Result.andThen, slicedAt, ← h]
  · simp [Result.andThen, slicedAt, h, addr_add]
theorem part_bytes {w : World} {g off : Nat} {t : TypeId} {b : List UInt8} {k m c : Nat} (hb : Blk w g t (byteVs b).toArray) (h : k + m ≤ b.length) (ho : 0 < m → off = k) : SrcV w (.slice (some ⟨g, off, none⟩) m c) m (byteVs ((b.drop k).take m)) := by
  have hl : ((b.drop k).take m).length = m := by rw [List.length_take, List.length_drop]; omega
  by_cases h0 : m = 0
  · subst h0
    exact ⟨_, _, rfl, by simp [byteVs], .inl rfl⟩
  · have ho' := ho (by omega)
    subst ho'
    have h1 : BytesAt w g (0 + off) (b.drop off) := (bytes_of_blk hb).drop off
    rw [Nat.zero_add] at h1
    have h2 := SrcV.of_bytes c (h1.take m)
    rw [hl] at h2
    exact h2

section
variable (w : World) (A : Option Addr) (c n : Nat) (o : List Pg) (hn : n = o.length) (hA : Els pgE 2 w A o) (hl : n ≤ 9223372036854775807)
include hn hA hl

theorem bytes_no (off len : Int) (l9 : len ≤ 9223372036854775807) (h : ¬ (right o = true ∧ inB off len = true)) :
    Calls Tryz.prog 18 #[.slice A n c, .int .i64 off, .int .i64 len] w fun e w' => e = .returned (.tuple #[.string ⟨#[]⟩, .int .i64 1]) ∧ Only [] w w' := by
  have h1 := fun W (h : Els pgE 2 W A o) => right_any W A c n o hn h hl
  have h2 := fun W => within_any W off len l9
  cases hr : right o with
  | false =>
    rw [hr] at h1
    clear h hn
    go_enter Tryz.func18, Tryz.ntmps18
    go_wp2_with fail
    refine (h1 _ hA).mono ?_; rintro e w1 ⟨rfl, k1⟩
    go_wp2
    go_ret2
    exact ⟨rfl, k1⟩
  | true =>
    have hi : inB off len = false := by
      cases hb : inB off len with
      | false => rfl
      | true => exact (h ⟨hr, hb⟩).elim
    rw [hr] at h1
    rw [hi] at h2
    clear h hn
    go_enter Tryz.func18, Tryz.ntmps18
    go_wp2_with fail
    refine (h1 _ hA).mono ?_; rintro e w1 ⟨rfl, k1⟩
    go_wp2_with fail
    refine (h2 _).mono ?_; rintro e w2 ⟨rfl, rfl⟩
    go_wp2
    go_ret2
    exact ⟨rfl, k1⟩

set_option maxRecDepth 100000 in
theorem bytes_ok (p m : Nat) (off len : Int) (ho : off = p) (hm : len = m) (hr : right o = true) (hb : p + m ≤ 1024) :
    Calls Tryz.prog 18 #[.slice A n c, .int .i64 off, .int .i64 len] w fun e w' => e = .returned (.tuple #[.string (strOf (((body o).drop p).take m)), .int .i64 0]) ∧ Only [] w w' := by
  have h1 := fun W (h : Els pgE 2 W A o) => right_any W A c n o hn h hl
  have h2 := fun W => within_any W off len (by omega)
  have h3 := fun W (h : Els pgE 2 W A o) => spread_any W A c n o hn h hr
  have hbl := body_len hr
  rw [hr] at h1
  rw [inB_of (by omega) (by omega) (by omega)] at h2
  have hz0 := (zero_of_info zero_body).1
  obtain ⟨Z, hZ⟩ : ∃ Z, Z = (byteVs (zs 1024)).toArray := ⟨_, rfl⟩
  rw [← hZ] at hz0
  have hZ3 : Z.size = 1024 := by rw [hZ]; simp [byteVs, zs]
  clear hZ hn hr
  generalize body o = b at *
  obtain ⟨C, hC⟩ : ∃ C, C = (byteVs b).toArray := ⟨_, rfl⟩
  have hone : C.all (·.oneCell') = true := by rw [hC]; exact one_bytes b
  have hC3 : C.size = 1024 := by rw [hC]; simp [byteVs, hbl]
  rw [← hC] at h3
  have hs1 : (Tryz.prog.info? 71).map (·.size) = some C.size := by rw [hC3]; exact size_body
  have hs2 : Z.size = C.size := hZ3.trans hC3.symm
  have hwr : IntKind.i64.wrap (off + len) = off + len := by rw [IntKind.wrap_i64]; omega
  have o0 : 0 ≤ off := by omega
  have m0 : 0 ≤ len := by omega
  have om : off + len ≤ 1024 := by omega
  replace hs1 := Lib.hid hs1
  replace hs2 := Lib.hid hs2
  replace hone := Lib.hid hone
  replace hC3 := Lib.hid hC3
  replace hC := Lib.hid hC
  replace hbl := Lib.hid hbl
  replace ho := Lib.hid ho
  replace hm := Lib.hid hm
  have H3 := Lib.hid h3
  clear h3
  go_enter Tryz.func18, Tryz.ntmps18
  go_wp2_with fail
  refine (h1 _ hA).mono ?_; rintro e w1 ⟨rfl, k1⟩
  go_wp2_with fail
  refine (h2 _).mono ?_; rintro e w2 ⟨rfl, rfl⟩
  go_wp2_with fail
  refine (H3.out _ (hA.kept k1 (by simp))).mono ?_; rintro e w3 ⟨rfl, k3⟩
  have k4 := k1.trans k3
  obtain ⟨off', ho1, hsl⟩ := body_part w3.heap.size p (p + m) off (off + len) ho.out (by have := ho.out; have := hm.out; omega) (by omega) hb
  rw [show p + m - p = m by omega] at hsl
  replace ho1 := Lib.hid ho1
  clear k1 k3
  go_wp2_with (first
    | (refine wpList_store_whole rfl 71 (.tmp 8) (.tmp 19) rfl w3.heap.size Z C rfl rfl (Blk.new w3 _ _) hs1.out hs2.out hone.out ?_; intro w4 h4 k5)
    | (refine wpList_to_string _ rfl 88 9 5 (.tmp 24) rfl Tryz.underlying88 Tryz.underlying5 Tryz.underlying9 (some ⟨w3.heap.size, off', none⟩) m (1024 - p) ((b.drop p).take m) rfl (part_bytes (w := w4) (t := 71) (by rw [hC.out] at h4; exact h4) (by rw [hbl.out]; exact hb) (fun h => ho1.out (by omega))) ?_))
  have k6 : Only [] w w4 := (k4.alloc (.cells Z 71)).then k5 (by
    intro i hi
    simp at hi
    subst hi
    exact .inr k4.size)
  replace k6 := Lib.hid k6
  clear h4 k5
  go_wp2
  go_ret2
  exact ⟨rfl, k6.out⟩
end

end Go.Proofs.YtchlcmgdfbabdaaGreatDoor.Pgs
