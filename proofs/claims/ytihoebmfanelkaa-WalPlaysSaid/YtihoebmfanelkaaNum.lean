/- Numbers of four bytes and texts with noughts behind: the given functions of stage 4 (Number, at, fill, whole). -/
import Derived.Test.YtihoebmfanelkaaLike
namespace Go.Proofs.Ytihoebmfanelkaa
open Go.RowKit

/-- A number's four bytes. -/
def be4 (n : Nat) : List UInt8 := [UInt8.ofNat (n / 16777216), UInt8.ofNat (n / 65536), UInt8.ofNat (n / 256), UInt8.ofNat n]
theorem be4_length (n : Nat) : (be4 n).length = 4 := rfl
theorem byteV_ofNat (n : Nat) : byteV (UInt8.ofNat n) = .int .u8 ((n % 256 : Nat) : Int) := by
  unfold byteV
  simp
/-- The number of the four bytes from place i on. -/
def num4 (l : List UInt8) (i : Nat) : Nat := (l.getD i 0).toNat * 16777216 + (l.getD (i + 1) 0).toNat * 65536 + (l.getD (i + 2) 0).toNat * 256 + (l.getD (i + 3) 0).toNat
theorem num4_lt (l : List UInt8) (i : Nat) : num4 l i < 4294967296 := by
  have h0 := (l.getD i 0).toNat_lt
  have h1 := (l.getD (i + 1) 0).toNat_lt
  have h2 := (l.getD (i + 2) 0).toNat_lt
  have h3 := (l.getD (i + 3) 0).toNat_lt
  unfold num4
  omega
theorem num4_be4 (n : Nat) (hn : n < 4294967296) (a r : List UInt8) : num4 (a ++ (be4 n ++ r)) a.length = n := by
  have e : ∀ j, j < 4 → (a ++ (be4 n ++ r)).getD (a.length + j) 0 = (be4 n).getD j 0 := by
    intro j hj
    rw [List.getD_eq_getElem?_getD, List.getD_eq_getElem?_getD, List.getElem?_append_right (by omega), Nat.add_sub_cancel_left, List.getElem?_append_left (by rw [be4_length]; exact hj)]
  have e0 := e 0 (by decide)
  have e1 := e 1 (by decide)
  have e2 := e 2 (by decide)
  have e3 := e 3 (by decide)
  rw [Nat.add_zero] at e0
  unfold num4
  rw [e0, e1, e2, e3]
  simp [be4]
  omega

/-- A text with noughts behind, of 256 bytes at least. -/
def fillL (l : List UInt8) : List UInt8 := l ++ rep (256 - l.length) 0
theorem fillL_length (l : List UInt8) (h : l.length ≤ 256) : (fillL l).length = 256 := by
  unfold fillL
  rw [List.length_append, rep_length]
  omega

theorem index_strOf {P : Program} (t : TypeId) (ht : P.underlying t = some .string) (bs : List UInt8) (i : Nat) (x : Int) (k : IntKind) (hx : x = i) (h : i < bs.length) :
    ∀ W : World, (Instr.index t (.string (strOf bs)) (.int k x)).run P W = .ok (.int .u8 (((bs.getD i 0).toNat : Nat) : Int)) W := by
  intro W
  subst hx
  have hs := strOf_size bs
  rw [run_index_string W t _ k _ ht, dif_pos ⟨by omega, by omega⟩]
  rw [List.getD_eq_getElem?_getD, List.getElem?_eq_getElem h]
  rfl
theorem from_strOf {P : Program} (t : TypeId) (ht : P.underlying t = some .string) (bs : List UInt8) (i : Nat) (x : Int) (k : IntKind) (hx : x = i) (h : i ≤ bs.length) :
    ∀ W : World, (Instr.slice t (.string (strOf bs)) (some (.int k x)) none none).run P W = .ok (.string (strOf (bs.drop i))) W := by
  intro W
  subst hx
  have hs := strOf_size bs
  rw [run_slice_string_from_if W t _ k _ ht, if_pos ⟨by omega, by omega⟩, hs]
  congr 2
  show (ByteArray.mk bs.toArray).extract _ _ = _
  rw [ByteArray.extract_mk, Int.toNat_natCast, List.take_of_length_le (by simp)]
  rfl

/-- Four bytes laid as a slice's literal. -/
theorem src_be4 (w : World) (n : Nat) (x : Int) (hx : x = n) (hn : n < 4294967296) : SrcV (w.alloc (.cells #[.int .u8 (x / 16777216), .int .u8 (x / 65536 % 256), .int .u8 (x / 256 % 256), .int .u8 (x % 256)] 5)) (.slice (some ⟨w.heap.size, 0, none⟩) 4 4) 4 (byteVs (be4 n)) := by
  subst hx
  have e : byteVs (be4 n) = [.int .u8 ((n : Int) / 16777216), .int .u8 ((n : Int) / 65536 % 256), .int .u8 ((n : Int) / 256 % 256), .int .u8 ((n : Int) % 256)] := by
    unfold byteVs be4
    simp only [List.map_cons, List.map_nil, byteV_ofNat]
    congr 2
    omega
  rw [e]
  refine ⟨_, _, rfl, rfl, .inr ⟨_, rfl, fun j u hu => ?_⟩⟩
  rw [addr_add, Nat.zero_add, (Blk.new w 5 _).cell j]
  simpa using hu

theorem fnumber_any (w : World) (x : Int) (n : Nat) (hx : x = n) (hn : n < 4294967296) :
    Calls Try.prog 64 #[.int .u32 x] w fun e w' => e = .returned (.string (strOf (be4 n))) ∧ Only [] w w' := by
  have h0 : 0 ≤ x := by omega
  have h1 : x < 4294967296 := by omega
  have hs := Lib.hid (src_be4 w n x hx hn)
  clear hx
  go_enter Try.func64, Try.ntmps64
  go_wp2_with (refine wpList_to_string _ rfl 85 9 5 (.tmp 17) rfl Try.underlying85 Try.underlying5 Try.underlying9 _ 4 4 (be4 n) rfl hs.out ?_)
  go_ret
  exact ⟨rfl, (Only.refl [] w).alloc _⟩

theorem at_any (w : World) (l : List UInt8) (i : Nat) (h : i + 4 ≤ l.length) (hl : l.length ≤ 1048576) :
    Calls Try.prog 49 #[.string (strOf l), .int .i64 (i : Int)] w fun e w' => e = .returned (.int .u32 (num4 l i : Int)) ∧ Only [] w w' := by
  have i0 := index_strOf (P := Try.prog) 9 Try.underlying9 l i (i : Int) .i64 rfl (by omega)
  have i1 := index_strOf (P := Try.prog) 9 Try.underlying9 l (i + 1) ((i : Int) + 1) .i64 (by omega) (by omega)
  have i2 := index_strOf (P := Try.prog) 9 Try.underlying9 l (i + 2) ((i : Int) + 2) .i64 (by omega) (by omega)
  have i3 := index_strOf (P := Try.prog) 9 Try.underlying9 l (i + 3) ((i : Int) + 3) .i64 (by omega) (by omega)
  have b0 := (l.getD i 0).toNat_lt
  have b1 := (l.getD (i + 1) 0).toNat_lt
  have b2 := (l.getD (i + 2) 0).toNat_lt
  have b3 := (l.getD (i + 3) 0).toNat_lt
  unfold num4
  generalize (l.getD i 0).toNat = n0 at *
  generalize (l.getD (i + 1) 0).toNat = n1 at *
  generalize (l.getD (i + 2) 0).toNat = n2 at *
  generalize (l.getD (i + 3) 0).toNat = n3 at *
  generalize strOf l = s at *
  have hi : (i : Int) ≤ 1048576 := by omega
  have k1 : IntKind.i64.wrap ((i : Int) + 1) = (i : Int) + 1 := by rw [IntKind.wrap_i64]; omega
  have k2 : IntKind.i64.wrap ((i : Int) + 2) = (i : Int) + 2 := by rw [IntKind.wrap_i64]; omega
  have k3 : IntKind.i64.wrap ((i : Int) + 3) = (i : Int) + 3 := by rw [IntKind.wrap_i64]; omega
  go_enter Try.func49, Try.ntmps49
  go_wp2
  go_quiet (fail)
  go_wp2
  go_ret
  exact ⟨by simp, (Only.refl [] w).drewN _⟩

/-- A text on its way: k noughts behind. -/
def partL (l : List UInt8) (k : Nat) : List UInt8 := l ++ rep k 0
theorem partL_length (l : List UInt8) (k : Nat) : (partL l k).length = l.length + k := by unfold partL; rw [List.length_append, rep_length]
theorem partL_snoc (l : List UInt8) (k : Nat) : partL l k ++ [0] = partL l (k + 1) := by unfold partL; rw [rep_succ, List.append_assoc]
theorem partL_zero (l : List UInt8) : partL l 0 = l := by simp [partL, rep]
theorem partL_end (l : List UInt8) (k : Nat) (h : k ≤ 256 - l.length) (h2 : 256 ≤ l.length + k) : partL l k = fillL l := by
  have : k = 256 - l.length := by omega
  unfold partL fillL
  rw [this]

set_option maxRecDepth 100000 in
theorem fill_any (w : World) (l : List UInt8) (hl : l.length ≤ 1048576) :
    Calls Try.prog 63 #[.string (strOf l)] w fun e w' => e = .returned (.string (strOf (fillL l))) ∧ w' = w := by
  go_enter Try.func63, Try.ntmps63
  go_wp2_with fail
  go_loopw [0] (fun s wr => ∃ k : Nat, k ≤ 256 - l.length ∧ s = .string (strOf (partL l k)) ∧ wr = w) (fun s _ => 256 - strLen s)
  case atStart => exact ⟨0, Nat.zero_le _, by rw [partL_zero], rfl⟩
  case round =>
    obtain ⟨k, hk, rfl, hwr⟩ := hrel
    subst hwr
    have hsz : (strOf (partL l k)).size = l.length + k := by rw [strOf_size, partL_length]
    have hlen := partL_length l k
    by_cases hlt : l.length + k < 256
    · have hcat := Lib.hid (partL_snoc l k)
      have hmk := partL_length l (k + 1)
      generalize hy : partL l k = y at *
      replace hy := Lib.hid hy
      have hlt' : (y.length : Int) < 256 := by omega
      have hsz' : ((strOf y).size : Int) < 256 := by omega
      replace hlen := Lib.hid hlen
      replace hsz := Lib.hid hsz
      replace hmk := Lib.hid hmk
      replace hk := Lib.hid hk
      replace hlt := Lib.hid hlt
      replace hl := Lib.hid hl
      go_wp2_with (refine wpList_concat _ rfl 9 9 (.tmp 6) (.const (.string ⟨#[0]⟩)) rfl y [0] rfl rfl (by have := hlen.out; have := hlt.out; simp; omega) ?_)
      go_roundw
      case rel => exact ⟨k + 1, by have := hk.out; have := hlt.out; omega, by rw [hcat.out], by trivial⟩
      case measure => have := hlen.out; have := hlt.out; simp only [strLen, strOf_size, List.length_append, List.length_cons, List.length_nil]; omega
    · have hge : (256 : Int) ≤ (strOf (partL l k)).size := by omega
      rw [partL_end l k hk (by omega)] at hge ⊢
      obtain ⟨y, hy⟩ : ∃ y, y = strOf (fillL l) := ⟨_, rfl⟩
      rw [← hy] at hge ⊢
      replace hy := Lib.hid hy
      clear hsz hlen hlt
      go_wp2
      go_ret
      exact ⟨by rw [← hy.out]; rfl, by trivial⟩

theorem upto_strOf {P : Program} (t : TypeId) (ht : P.underlying t = some .string) (bs : List UInt8) (j : Nat) (y : Int) (k : IntKind) (hy : y = j) (h : j ≤ bs.length) :
    ∀ W : World, (Instr.slice t (.string (strOf bs)) none (some (.int k y)) none).run P W = .ok (.string (strOf (bs.take j))) W := by
  intro W
  subst hy
  have hs := strOf_size bs
  rw [run_slice_string_to_if W t _ k _ ht, if_pos ⟨by omega, by omega⟩]
  congr 2
  show (ByteArray.mk bs.toArray).extract _ _ = _
  rw [ByteArray.extract_mk, Int.toNat_natCast]
  simp [strOf]

set_option maxRecDepth 100000 in
theorem whole_any (w : World) (l : List UInt8) (hl : l.length ≤ 1048576) :
    Calls Try.prog 26 #[.string (strOf l)] w fun e w' => e = .returned (.string (strOf ((fillL l).take 256))) ∧ w' = w := by
  go_enter Try.func26, Try.ntmps26
  go_wp2_with fail
  go_loopw [0] (fun s wr => ∃ k : Nat, k ≤ 256 - l.length ∧ s = .string (strOf (partL l k)) ∧ wr = w) (fun s _ => 256 - strLen s)
  case atStart => exact ⟨0, Nat.zero_le _, by rw [partL_zero], rfl⟩
  case round =>
    obtain ⟨k, hk, rfl, hwr⟩ := hrel
    subst hwr
    have hsz : (strOf (partL l k)).size = l.length + k := by rw [strOf_size, partL_length]
    have hlen := partL_length l k
    by_cases hlt : l.length + k < 256
    · have hcat := Lib.hid (partL_snoc l k)
      have hmk := partL_length l (k + 1)
      generalize hy : partL l k = y at *
      replace hy := Lib.hid hy
      have hlt' : (y.length : Int) < 256 := by omega
      have hsz' : ((strOf y).size : Int) < 256 := by omega
      replace hlen := Lib.hid hlen
      replace hsz := Lib.hid hsz
      replace hmk := Lib.hid hmk
      replace hk := Lib.hid hk
      replace hlt := Lib.hid hlt
      replace hl := Lib.hid hl
      go_wp2_with (refine wpList_concat _ rfl 9 9 (.tmp 6) (.const (.string ⟨#[0]⟩)) rfl y [0] rfl rfl (by have := hlen.out; have := hlt.out; simp; omega) ?_)
      go_roundw
      case rel => exact ⟨k + 1, by have := hk.out; have := hlt.out; omega, by rw [hcat.out], by trivial⟩
      case measure => have := hlen.out; have := hlt.out; simp only [strLen, strOf_size, List.length_append, List.length_cons, List.length_nil]; omega
    · have hge : (256 : Int) ≤ (strOf (partL l k)).size := by omega
      rw [partL_end l k hk (by omega)] at hge ⊢
      have hge2 : 256 ≤ (fillL l).length := by rw [strOf_size] at hge; omega
      have hcut := upto_strOf (P := Try.prog) 9 Try.underlying9 (fillL l) 256 256 .i64 rfl hge2
      obtain ⟨z, hz⟩ : ∃ z, z = strOf ((fillL l).take 256) := ⟨_, rfl⟩
      rw [← hz] at hcut
      replace hz := Lib.hid hz
      obtain ⟨y, hy⟩ : ∃ y, y = strOf (fillL l) := ⟨_, rfl⟩
      rw [← hy] at hcut
      rw [← hy] at hge ⊢
      replace hy := Lib.hid hy
      clear hsz hlen hlt hge2
      go_wp2
      go_ret
      exact ⟨by rw [← hz.out]; rfl, by trivial⟩

end Go.Proofs.Ytihoebmfanelkaa
