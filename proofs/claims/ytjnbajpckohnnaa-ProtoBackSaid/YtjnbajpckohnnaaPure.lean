/- Bytes by the document's definitions, and what a reader makes of them: of no program. -/
import Derived.Test.YtjnbajpckohnnaaApp
namespace Go.Proofs.Ytjnbajpckohnnaa
open Go.RowKit

/-- A number's four bytes. -/
def be4 (n : Nat) : List UInt8 := [UInt8.ofNat (n / 16777216), UInt8.ofNat (n / 65536), UInt8.ofNat (n / 256), UInt8.ofNat n]
theorem be4_length (n : Nat) : (be4 n).length = 4 := rfl
/-- A long number's eight bytes. -/
def be8 (n : Nat) : List UInt8 := be4 (n / 4294967296) ++ be4 (n % 4294967296)
theorem be8_length (n : Nat) : (be8 n).length = 8 := rfl
/-- How many zero bytes follow n bytes of a text. -/
def padN (n : Nat) : Nat := (4 - n % 4) % 4
def zeros (n : Nat) : List UInt8 := List.replicate n 0
/-- A text's bytes. -/
def encT (s : List UInt8) : List UInt8 := be4 s.length ++ (s ++ zeros (padN s.length))
/-- Numbers, one behind the other. -/
def encNs : List Nat → List UInt8
  | [] => []
  | n :: l => be4 n ++ encNs l
def encL (l : List Nat) : List UInt8 := be4 l.length ++ encNs l

theorem byteV_ofNat (n : Nat) : byteV (UInt8.ofNat n) = .int .u8 ((n % 256 : Nat) : Int) := by
  unfold byteV
  simp

theorem encNs_snoc (l : List Nat) (n : Nat) : encNs (l ++ [n]) = encNs l ++ be4 n := by
  induction l with
  | nil => simp [encNs]
  | cons a l ih => simp [encNs, ih]
theorem encNs_length (l : List Nat) : (encNs l).length = 4 * l.length := by
  induction l with
  | nil => rfl
  | cons a l ih => simp [encNs, be4_length, ih]; omega
theorem encNs_take (l : List Nat) (k : Nat) (h : k < l.length) : encNs (l.take (k + 1)) = encNs (l.take k) ++ be4 l[k] := by
  rw [List.take_succ_eq_append_getElem h, encNs_snoc]
theorem encL_length (l : List Nat) : (encL l).length = 4 + 4 * l.length := by simp [encL, be4_length, encNs_length]
theorem encT_length (l : List UInt8) : (encT l).length = 4 + l.length + padN l.length := by simp [encT, be4_length, zeros]; omega

/-- From place o of block g on lie the numbers l. -/
def NumsAt (w : World) (g o : Nat) (l : List Nat) : Prop := ∀ j (h : j < l.length), w.cell? ⟨g, o + j, none⟩ = some (.int .u32 (l[j] : Int))
theorem NumsAt.kept {S : List Nat} {w w' : World} {g o : Nat} {l : List Nat} (h : NumsAt w g o l) (k : Only S w w') (hg : g ∉ S) : NumsAt w' g o l := fun j hj => k.cell (h j hj) hg

/-- The slice at A reads as the numbers l; its block is none of S. -/
def Nums (w : World) (S : List Nat) (A : Option Addr) (l : List Nat) : Prop := l = [] ∨ ∃ g o, A = some ⟨g, o, none⟩ ∧ g ∉ S ∧ NumsAt w g o l

/-- The number that four bytes are. -/
def decB (a b c d : UInt8) : Nat := a.toNat * 16777216 + b.toNat * 65536 + c.toNat * 256 + d.toNat
theorem decB_lt (a b c d : UInt8) : decB a b c d < 4294967296 := by
  have := a.toNat_lt; have := b.toNat_lt; have := c.toNat_lt; have := d.toNat_lt
  unfold decB; omega
/-- The number that the first four bytes are. -/
def hd4 : List UInt8 → Nat
  | a :: b :: c :: d :: _ => decB a b c d
  | _ => 0
theorem hd4_lt (l : List UInt8) : hd4 l < 4294967296 := by
  unfold hd4
  split
  · exact decB_lt _ _ _ _
  · omega
theorem four (l : List UInt8) (h : 4 ≤ l.length) : ∃ a b c d r, l = a :: b :: c :: d :: r := by
  match l, h with
  | a :: b :: c :: d :: r, _ => exact ⟨a, b, c, d, r, rfl⟩

/-- The numbers that 4n bytes are. -/
def decNs : Nat → List UInt8 → List Nat
  | 0, _ => []
  | n + 1, l => hd4 l :: decNs n (l.drop 4)

theorem decNs_length (n : Nat) (l : List UInt8) : (decNs n l).length = n := by
  induction n generalizing l with
  | zero => rfl
  | succ n ih => simp [decNs, ih]
theorem decNs_get (n : Nat) (l : List UInt8) (j : Nat) (h : j < (decNs n l).length) : (decNs n l)[j] = hd4 (l.drop (4 * j)) := by
  induction n generalizing l j with
  | zero => simp [decNs] at h
  | succ n ih =>
    cases j with
    | zero => simp [decNs]
    | succ j =>
      simp only [decNs, List.getElem_cons_succ]
      rw [ih, List.drop_drop]
      congr 2
      omega
theorem hd4_take (n : Nat) (l : List UInt8) : hd4 (l.take (n + 4)) = hd4 l := by
  match l with
  | [] => rfl
  | [a] => rfl
  | [a, b] => rfl
  | [a, b, c] => rfl
  | a :: b :: c :: d :: r => rfl
theorem decNs_take (n : Nat) (l : List UInt8) : decNs n (l.take (4 * n)) = decNs n l := by
  induction n generalizing l with
  | zero => rfl
  | succ n ih =>
    simp only [decNs]
    rw [show 4 * (n + 1) = 4 * n + 4 by omega, hd4_take, List.drop_take, show 4 * n + 4 - 4 = 4 * n by omega, ih]
theorem decNs_of (n : Nat) (l : List UInt8) (cur : List Nat) (hl : cur.length = n) (h : ∀ j (hj : j < cur.length), cur[j] = hd4 (l.drop (4 * j))) : cur = decNs n l := by
  apply List.ext_getElem
  · rw [decNs_length, hl]
  · intro j h1 h2
    rw [h j h1, decNs_get]

/-- What a reader's calls answer, and what is left: by the bytes that are left and the error's number. -/
def rNumber (bs : List UInt8) (err : Nat) : Nat × List UInt8 × Nat :=
  if err ≠ 0 then (0, bs, err) else if bs.length < 4 then (0, bs, 2) else (hd4 bs, bs.drop 4, 0)
def rLong (bs : List UInt8) (err : Nat) : Nat × List UInt8 × Nat :=
  if err ≠ 0 then (0, bs, err) else if bs.length < 8 then (0, bs, 2) else (hd4 bs * 4294967296 + hd4 (bs.drop 4), bs.drop 8, 0)
def rFlag (bs : List UInt8) (err : Nat) : Bool × List UInt8 × Nat :=
  if err ≠ 0 then (false, bs, err) else if bs.length < 4 then (false, bs, 2) else if 1 < hd4 bs then (false, bs, 3) else (decide (hd4 bs = 1), bs.drop 4, 0)
def rText (most : Int) (bs : List UInt8) (err : Nat) : List UInt8 × List UInt8 × Nat :=
  if err ≠ 0 then ([], bs, err) else if bs.length < 4 then ([], bs, 2) else if most < (hd4 bs : Int) then ([], bs, 4)
  else if bs.length < 4 + hd4 bs + padN (hd4 bs) then ([], bs, 2) else if ((bs.drop (4 + hd4 bs)).take (padN (hd4 bs))).any (· != 0) then ([], bs, 3)
  else ((bs.drop 4).take (hd4 bs), bs.drop (4 + hd4 bs + padN (hd4 bs)), 0)
def rList (most : Int) (bs : List UInt8) (err : Nat) : List Nat × List UInt8 × Nat :=
  if err ≠ 0 then ([], bs, err) else if bs.length < 4 then ([], bs, 2) else if most < (hd4 bs : Int) then ([], bs, 4)
  else if bs.length < 4 + 4 * hd4 bs then ([], bs, 2) else (decNs (hd4 bs) (bs.drop 4), bs.drop (4 + 4 * hd4 bs), 0)
def rEnd (bs : List UInt8) (err : Nat) : Nat := if err ≠ 0 then err else if bs.length = 0 then 0 else 4

end Go.Proofs.Ytjnbajpckohnnaa
