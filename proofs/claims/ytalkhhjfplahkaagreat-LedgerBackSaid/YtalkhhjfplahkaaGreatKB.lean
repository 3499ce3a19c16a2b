/- Joined: Pk9, Open9, Tab9, Mem9, Whole9, Eql9. -/
import Derived.Test.YtalkhhjfplahkaaGreatKA
import Derived.Deep.Slices
import Derived.Deep.Fields
import Derived.ProofKit
import Derived.OpenShut
import Derived.Test.YtalkhhjfplahkaaGreatChecked
import Derived.KernelRfl
import Derived.Tactics
import Derived.Tactics2
import Derived.StillTactics
import Derived.StillTailTactics
import Derived.RegionTactic
import Derived.WalkKit
import Derived.WalkLawsBesides
import Derived.WalkSpells
import Derived.Outline
import Derived.Laws.Pointers
import Derived.Laws.Small
import Derived.Laws.Build
import Derived.Laws.Cover3
import Derived.Laws.StructEq
import Derived.Lib.Hide
import Derived.BigQuiet
import Derived.BigRegion
import Derived.OwnWalk
import Derived.LoopTactic
import Derived.Laws.ResultCell
import Derived.Deep.MidRow
import Derived.Deep.WholeRow
namespace Go.Proofs.YtalkhhjfplahkaaGreat
set_option maxRecDepth 100000
open Go.RowKit

/-- A number of 32 bits; of 64 bits. -/
def U (x : Int) : Prop := 0 ≤ x ∧ x ≤ 4294967295
def I (x : Int) : Prop := -9223372036854775808 ≤ x ∧ x ≤ 9223372036854775807

structure Pk where
  kind : Int
  frm : Int
  to : Int
  life : Int
  seq : Int
  asked : Int
  boot : Int
  code : Int
  err : Int
  file : Int
  epoch : Int
  off : Int
  len : Int
  size : Int
  mode : Int
  deny : Int
  handle : Int
  path : ByteArray
  other : ByteArray
  data : ByteArray

structure Pk.Ok (p : Pk) : Prop where
  kind : I p.kind
  frm : I p.frm
  to : I p.to
  life : U p.life
  seq : U p.seq
  asked : U p.asked
  boot : U p.boot
  code : I p.code
  err : I p.err
  file : U p.file
  epoch : U p.epoch
  off : U p.off
  len : U p.len
  size : U p.size
  mode : U p.mode
  deny : U p.deny
  handle : U p.handle

/-- Its cells, in their order. -/
abbrev pkA (p : Pk) : Array Value := #[.int .i64 p.kind, .int .i64 p.frm, .int .i64 p.to, .int .u32 p.life, .int .u32 p.seq, .int .u32 p.asked, .int .u32 p.boot, .int .i64 p.code, .int .i64 p.err, .int .u32 p.file, .int .u32 p.epoch, .int .u32 p.off, .int .u32 p.len, .int .u32 p.size, .int .u32 p.mode, .int .u32 p.deny, .int .u32 p.handle, .string p.path, .string p.other, .string p.data]
abbrev pkV (p : Pk) : Value := .agg (pkA p)
def zPk : Pk := ⟨0, 0, 0, 0, 0, 0, 0, 0, 0, 0, 0, 0, 0, 0, 0, 0, 0, ⟨#[]⟩, ⟨#[]⟩, ⟨#[]⟩⟩

/-- A code that is one of those that there are. -/
def knownP (c : Int) : Prop := (1 ≤ c ∧ c ≤ 5) ∨ (11 ≤ c ∧ c ≤ 24) ∨ c = 30
instance (c : Int) : Decidable (knownP c) := by unfold knownP; infer_instance
/-- It may be. -/
def Pk.Right (p : Pk) : Prop :=
  ((p.path.size ≤ 64 ∧ p.other.size ≤ 64) ∧ p.data.size ≤ 128) ∧ (1 ≤ p.kind ∧ p.kind ≤ 3) ∧ (0 ≤ p.frm ∧ p.frm ≤ 255) ∧ (0 ≤ p.to ∧ p.to ≤ 255) ∧ knownP p.code ∧ (p.code = 30 ↔ p.kind = 3) ∧ (0 ≤ p.err ∧ p.err ≤ 25) ∧ (p.err = 0 ∨ p.kind = 2)
instance (p : Pk) : Decidable p.Right := by unfold Pk.Right; infer_instance

/-- Its numbers, its texts' bytes. -/
def numZ (p : Pk) : List Int := [p.kind, p.frm, p.to, p.life, p.seq, p.asked, p.boot, p.code, p.err, p.file, p.epoch, p.off, p.len, p.size, p.mode, p.deny, p.handle]
theorem numZ_length (p : Pk) : (numZ p).length = 17 := rfl
def numN (p : Pk) : List Nat := (numZ p).map Int.toNat
def bytesP (p : Pk) : List UInt8 := encNs (numN p) ++ (encT p.path.data.toList ++ (encT p.other.data.toList ++ encT p.data.data.toList))
def writeS (p : Pk) : ByteArray := if p.Right then strOf (bytesP p) else ⟨#[]⟩
def writeE (p : Pk) : Int := if p.Right then 0 else 1

/-- What is left, and the error, behind k numbers. -/
def rds (bs : List UInt8) : Nat → List UInt8 × Nat
  | 0 => (bs, 0)
  | k + 1 => (rNumber (rds bs k).1 (rds bs k).2).2
def numAt (bs : List UInt8) (k : Nat) : Nat := (rNumber (rds bs k).1 (rds bs k).2).1
def mostK : Nat → Nat
  | 0 => 64
  | 1 => 64
  | _ => 128
/-- Behind the numbers and j texts. -/
def txs (bs : List UInt8) : Nat → List UInt8 × Nat
  | 0 => rds bs 17
  | j + 1 => (rText (mostK j) (txs bs j).1 (txs bs j).2).2
def txtAt (bs : List UInt8) (j : Nat) : List UInt8 := (rText (mostK j) (txs bs j).1 (txs bs j).2).1
def endE (bs : List UInt8) : Nat := rEnd (txs bs 3).1 (txs bs 3).2
def pkOf (bs : List UInt8) : Pk := ⟨(numAt bs 0 : Nat), (numAt bs 1 : Nat), (numAt bs 2 : Nat), (numAt bs 3 : Nat), (numAt bs 4 : Nat), (numAt bs 5 : Nat), (numAt bs 6 : Nat), (numAt bs 7 : Nat), (numAt bs 8 : Nat), (numAt bs 9 : Nat), (numAt bs 10 : Nat), (numAt bs 11 : Nat), (numAt bs 12 : Nat), (numAt bs 13 : Nat), (numAt bs 14 : Nat), (numAt bs 15 : Nat), (numAt bs 16 : Nat), strOf (txtAt bs 0), strOf (txtAt bs 1), strOf (txtAt bs 2)⟩
def readE (bs : List UInt8) : Nat := if endE bs ≠ 0 then endE bs else if (pkOf bs).Right then 0 else 3
def readP (bs : List UInt8) : Pk := if endE bs ≠ 0 then zPk else if (pkOf bs).Right then pkOf bs else zPk

theorem numAt_lt (bs : List UInt8) (k : Nat) : numAt bs k < 4294967296 := rNumber_lt _ _
theorem u_nat {n : Nat} (h : n < 4294967296) : U (n : Int) := ⟨by omega, by omega⟩
theorem i_nat {n : Nat} (h : n < 4294967296) : I (n : Int) := ⟨by omega, by omega⟩
theorem pkOf_ok (bs : List UInt8) : (pkOf bs).Ok := by
  refine ⟨i_nat (numAt_lt bs 0), i_nat (numAt_lt bs 1), i_nat (numAt_lt bs 2), u_nat (numAt_lt bs 3), u_nat (numAt_lt bs 4), u_nat (numAt_lt bs 5), u_nat (numAt_lt bs 6), i_nat (numAt_lt bs 7), i_nat (numAt_lt bs 8), u_nat (numAt_lt bs 9), u_nat (numAt_lt bs 10), u_nat (numAt_lt bs 11), u_nat (numAt_lt bs 12), u_nat (numAt_lt bs 13), u_nat (numAt_lt bs 14), u_nat (numAt_lt bs 15), u_nat (numAt_lt bs 16)⟩
theorem zPk_ok : zPk.Ok := by
  constructor <;> (constructor <;> decide)
theorem readP_ok (bs : List UInt8) : (readP bs).Ok := by
  unfold readP
  split
  · exact zPk_ok
  · split
    · exact pkOf_ok bs
    · exact zPk_ok

/-- Numbers that were written are read. -/
theorem rds_enc (l : List Nat) (h : ∀ n ∈ l, n < 4294967296) (r : List UInt8) (k : Nat) (hk : k ≤ l.length) : rds (encNs l ++ r) k = (encNs (l.drop k) ++ r, 0) := by
  induction k with
  | zero => simp [rds]
  | succ k ih =>
    rw [show rds (encNs l ++ r) (k + 1) = (rNumber (rds (encNs l ++ r) k).1 (rds (encNs l ++ r) k).2).2 from rfl, ih (by omega)]
    have hd : l.drop k = l[k]'(by omega) :: l.drop (k + 1) := List.drop_eq_getElem_cons (by omega)
    rw [hd]
    simp only [encNs, List.append_assoc]
    rw [rNumber_be4 _ _ (h _ (List.getElem_mem (by omega)))]
theorem numAt_enc (l : List Nat) (h : ∀ n ∈ l, n < 4294967296) (r : List UInt8) (k : Nat) (hk : k < l.length) : numAt (encNs l ++ r) k = l[k] := by
  unfold numAt
  rw [rds_enc l h r k (by omega)]
  have hd : l.drop k = l[k] :: l.drop (k + 1) := List.drop_eq_getElem_cons hk
  rw [hd]
  simp only [encNs, List.append_assoc]
  rw [rNumber_be4 _ _ (h _ (List.getElem_mem hk))]

theorem numN_lt (p : Pk) (ho : p.Ok) (hr : p.Right) : ∀ n ∈ numN p, n < 4294967296 := by
  obtain ⟨_, ⟨_, _⟩, ⟨_, _⟩, ⟨_, _⟩, hc, _, ⟨_, _⟩, _⟩ := hr
  have hc' : p.code ≤ 30 := by unfold knownP at hc; omega
  intro n hn
  simp only [numN, numZ, List.map_cons, List.map_nil, List.mem_cons, List.not_mem_nil, or_false] at hn
  rcases hn with h | h | h | h | h | h | h | h | h | h | h | h | h | h | h | h | h
  all_goals subst h
  · omega
  · omega
  · omega
  · have := ho.life; unfold U at this; omega
  · have := ho.seq; unfold U at this; omega
  · have := ho.asked; unfold U at this; omega
  · have := ho.boot; unfold U at this; omega
  · omega
  · omega
  · have := ho.file; unfold U at this; omega
  · have := ho.epoch; unfold U at this; omega
  · have := ho.off; unfold U at this; omega
  · have := ho.len; unfold U at this; omega
  · have := ho.size; unfold U at this; omega
  · have := ho.mode; unfold U at this; omega
  · have := ho.deny; unfold U at this; omega
  · have := ho.handle; unfold U at this; omega

theorem size_list (s : ByteArray) : s.data.toList.length = s.size := by simp
theorem numN_length (p : Pk) : (numN p).length = 17 := rfl

theorem txs_zero (bs : List UInt8) : txs bs 0 = rds bs 17 := rfl
theorem txs_succ (bs : List UInt8) (j : Nat) : txs bs (j + 1) = (rText (mostK j : Nat) (txs bs j).1 (txs bs j).2).2 := rfl
theorem txtAt_eq (bs : List UInt8) (j : Nat) : txtAt bs j = (rText (mostK j : Nat) (txs bs j).1 (txs bs j).2).1 := rfl
theorem rds_succ (bs : List UInt8) (k : Nat) : rds bs (k + 1) = (rNumber (rds bs k).1 (rds bs k).2).2 := rfl
theorem text_back (bs : List UInt8) (j : Nat) (s r : List UInt8) (h : txs bs j = (encT s ++ r, 0)) (hm : s.length ≤ mostK j) : txs bs (j + 1) = (r, 0) ∧ txtAt bs j = s := by
  have hk : mostK j ≤ 128 := by unfold mostK; split <;> decide
  have e := rText_encT (mostK j : Nat) s r (by omega) (by omega)
  rw [txs_succ, txtAt_eq, h]
  show (rText (mostK j : Nat) (encT s ++ r) 0).2 = _ ∧ (rText (mostK j : Nat) (encT s ++ r) 0).1 = _
  rw [e]
  exact ⟨rfl, rfl⟩
theorem txs_back (p : Pk) (ho : p.Ok) (hr : p.Right) : txtAt (bytesP p) 0 = p.path.data.toList ∧ txtAt (bytesP p) 1 = p.other.data.toList ∧ txs (bytesP p) 3 = ([], 0) ∧ txtAt (bytesP p) 2 = p.data.data.toList := by
  have h0 : txs (bytesP p) 0 = (encT p.path.data.toList ++ (encT p.other.data.toList ++ encT p.data.data.toList), 0) := by
    rw [txs_zero]
    unfold bytesP
    rw [rds_enc _ (numN_lt p ho hr) _ 17 (by rw [numN_length]; exact Nat.le_refl _), List.drop_of_length_le (by rw [numN_length]; exact Nat.le_refl _)]
    simp only [encNs, List.nil_append]
  obtain ⟨⟨⟨s0, s1⟩, s2⟩, _⟩ := hr
  obtain ⟨t1, a0⟩ := text_back _ 0 _ _ h0 (by rw [size_list]; exact s0)
  obtain ⟨t2, a1⟩ := text_back _ 1 _ _ t1 (by rw [size_list]; exact s1)
  obtain ⟨t3, a2⟩ := text_back _ 2 p.data.data.toList [] (by rw [List.append_nil]; exact t2) (by rw [size_list]; exact s2)
  exact ⟨a0, a1, t3, a2⟩

theorem toNat_eq {x : Int} (h : 0 ≤ x) : ((x.toNat : Nat) : Int) = x := Int.toNat_of_nonneg h

theorem pkOf_back (p : Pk) (ho : p.Ok) (hr : p.Right) : pkOf (bytesP p) = p := by
  obtain ⟨a0, a1, _, a2⟩ := txs_back p ho hr
  have hn := fun k hk => numAt_enc (numN p) (numN_lt p ho hr) (encT p.path.data.toList ++ (encT p.other.data.toList ++ encT p.data.data.toList)) k hk
  change ∀ (k : Nat) (hk : k < (numN p).length), numAt (bytesP p) k = (numN p)[k] at hn
  have n0 : numAt (bytesP p) 0 = p.kind.toNat := hn 0 (by rw [numN_length]; decide)
  have n1 : numAt (bytesP p) 1 = p.frm.toNat := hn 1 (by rw [numN_length]; decide)
  have n2 : numAt (bytesP p) 2 = p.to.toNat := hn 2 (by rw [numN_length]; decide)
  have n3 : numAt (bytesP p) 3 = p.life.toNat := hn 3 (by rw [numN_length]; decide)
  have n4 : numAt (bytesP p) 4 = p.seq.toNat := hn 4 (by rw [numN_length]; decide)
  have n5 : numAt (bytesP p) 5 = p.asked.toNat := hn 5 (by rw [numN_length]; decide)
  have n6 : numAt (bytesP p) 6 = p.boot.toNat := hn 6 (by rw [numN_length]; decide)
  have n7 : numAt (bytesP p) 7 = p.code.toNat := hn 7 (by rw [numN_length]; decide)
  have n8 : numAt (bytesP p) 8 = p.err.toNat := hn 8 (by rw [numN_length]; decide)
  have n9 : numAt (bytesP p) 9 = p.file.toNat := hn 9 (by rw [numN_length]; decide)
  have n10 : numAt (bytesP p) 10 = p.epoch.toNat := hn 10 (by rw [numN_length]; decide)
  have n11 : numAt (bytesP p) 11 = p.off.toNat := hn 11 (by rw [numN_length]; decide)
  have n12 : numAt (bytesP p) 12 = p.len.toNat := hn 12 (by rw [numN_length]; decide)
  have n13 : numAt (bytesP p) 13 = p.size.toNat := hn 13 (by rw [numN_length]; decide)
  have n14 : numAt (bytesP p) 14 = p.mode.toNat := hn 14 (by rw [numN_length]; decide)
  have n15 : numAt (bytesP p) 15 = p.deny.toNat := hn 15 (by rw [numN_length]; decide)
  have n16 : numAt (bytesP p) 16 = p.handle.toNat := hn 16 (by rw [numN_length]; decide)
  unfold pkOf
  rw [n0, n1, n2, n3, n4, n5, n6, n7, n8, n9, n10, n11, n12, n13, n14, n15, n16, a0, a1, a2, strOf_toList, strOf_toList, strOf_toList]
  obtain ⟨_, ⟨_, _⟩, ⟨_, _⟩, ⟨_, _⟩, hc, _, ⟨_, _⟩, _⟩ := hr
  have hc' : 0 ≤ p.code := by unfold knownP at hc; omega
  rw [toNat_eq (show 0 ≤ p.kind by omega), toNat_eq (show 0 ≤ p.frm by omega), toNat_eq (show 0 ≤ p.to by omega), toNat_eq (show 0 ≤ p.life by exact ho.life.1), toNat_eq (show 0 ≤ p.seq by exact ho.seq.1), toNat_eq (show 0 ≤ p.asked by exact ho.asked.1), toNat_eq (show 0 ≤ p.boot by exact ho.boot.1), toNat_eq (show 0 ≤ p.code by omega), toNat_eq (show 0 ≤ p.err by omega), toNat_eq (show 0 ≤ p.file by exact ho.file.1), toNat_eq (show 0 ≤ p.epoch by exact ho.epoch.1), toNat_eq (show 0 ≤ p.off by exact ho.off.1), toNat_eq (show 0 ≤ p.len by exact ho.len.1), toNat_eq (show 0 ≤ p.size by exact ho.size.1), toNat_eq (show 0 ≤ p.mode by exact ho.mode.1), toNat_eq (show 0 ≤ p.deny by exact ho.deny.1), toNat_eq (show 0 ≤ p.handle by exact ho.handle.1)]
theorem read_back (p : Pk) (ho : p.Ok) (hr : p.Right) : readE (bytesP p) = 0 ∧ readP (bytesP p) = p := by
  obtain ⟨_, _, h3, _⟩ := txs_back p ho hr
  have he : endE (bytesP p) = 0 := by unfold endE; rw [h3]; rfl
  have hp := pkOf_back p ho hr
  unfold readE readP
  rw [if_neg (show ¬ endE (bytesP p) ≠ 0 by omega), if_neg (show ¬ endE (bytesP p) ≠ 0 by omega), hp, if_pos hr, if_pos hr]
  exact ⟨rfl, rfl⟩

theorem bytesP_inj (p q : Pk) (h1 : p.Ok) (h2 : p.Right) (k1 : q.Ok) (k2 : q.Right) (h : bytesP p = bytesP q) : p = q := by
  have a := (read_back p h1 h2).2
  rw [h, (read_back q k1 k2).2] at a
  exact a.symm
theorem encT_four (l : List UInt8) : (encT l).length % 4 = 0 := by rw [encT_length]; unfold padN; omega
theorem bytesP_length (p : Pk) : (bytesP p).length % 4 = 0 ∧ 80 ≤ (bytesP p).length := by
  have a := encT_four p.path.data.toList
  have b := encT_four p.other.data.toList
  have c := encT_four p.data.data.toList
  have a' : 4 ≤ (encT p.path.data.toList).length := by rw [encT_length]; omega
  have b' : 4 ≤ (encT p.other.data.toList).length := by rw [encT_length]; omega
  have c' : 4 ≤ (encT p.data.data.toList).length := by rw [encT_length]; omega
  unfold bytesP
  simp only [List.length_append]
  rw [encNs_length, numN_length]
  omega
theorem padN_lt' (n : Nat) : padN n < 4 := by unfold padN; omega
theorem encT_most (l : List UInt8) (n : Nat) (h : l.length ≤ n) : (encT l).length ≤ n + 8 := by rw [encT_length]; have := padN_lt' l.length; omega
theorem bytesP_most (p : Pk) (h : p.Right) : (bytesP p).length ≤ 400 := by
  obtain ⟨⟨⟨s0, s1⟩, s2⟩, _⟩ := h
  have a := encT_most p.path.data.toList 64 (by rw [size_list]; exact s0)
  have b := encT_most p.other.data.toList 64 (by rw [size_list]; exact s1)
  have c := encT_most p.data.data.toList 128 (by rw [size_list]; exact s2)
  unfold bytesP
  simp only [List.length_append]
  rw [encNs_length, numN_length]
  omega

/-- What was read to its end without an error has just these bytes. -/
theorem txs_err (bs : List UInt8) (j : Nat) (h : (txs bs (j + 1)).2 = 0) : (txs bs j).2 = 0 ∧ encT (txtAt bs j) ++ (txs bs (j + 1)).1 = (txs bs j).1 := by
  have e : (txs bs j).2 = 0 := by
    refine Classical.byContradiction fun hn => hn ?_
    have := h
    rw [txs_succ, rText_err _ _ _ hn] at this
    exact this
  refine ⟨e, ?_⟩
  rw [txs_succ] at h ⊢
  unfold txtAt
  rw [e] at h ⊢
  exact (rText_one _ _ h).1
theorem rds_err (bs : List UInt8) (k : Nat) (h : (rds bs (k + 1)).2 = 0) : (rds bs k).2 = 0 ∧ be4 (numAt bs k) ++ (rds bs (k + 1)).1 = (rds bs k).1 := by
  have e : (rds bs k).2 = 0 := by
    refine Classical.byContradiction fun hn => hn ?_
    have := h
    rw [rds_succ, rNumber_err _ _ hn] at this
    exact this
  refine ⟨e, ?_⟩
  rw [rds_succ] at h ⊢
  unfold numAt
  rw [e] at h ⊢
  exact rNumber_one _ h
theorem rds_one (bs : List UInt8) (k : Nat) (h : (rds bs k).2 = 0) : encNs ((List.range k).map (numAt bs)) ++ (rds bs k).1 = bs := by
  induction k with
  | zero => simp [rds, encNs]
  | succ k ih =>
    obtain ⟨h0, h1⟩ := rds_err bs k h
    rw [List.range_succ, List.map_append, List.map_cons, List.map_nil, encNs_snoc, List.append_assoc, h1]
    exact ih h0
theorem bytesP_pkOf (bs : List UInt8) : bytesP (pkOf bs) = encNs ((List.range 17).map (numAt bs)) ++ (encT (txtAt bs 0) ++ (encT (txtAt bs 1) ++ encT (txtAt bs 2))) := by
  unfold bytesP numN numZ pkOf
  simp only [List.map_cons, List.map_nil, Int.toNat_natCast, strOf_list]
  rfl
theorem pkOf_one (bs : List UInt8) (h : endE bs = 0) : bytesP (pkOf bs) = bs := by
  unfold endE rEnd at h
  have h3 : (txs bs 3).2 = 0 := by
    refine Classical.byContradiction fun hn => ?_
    rw [if_pos hn] at h
    exact hn h
  rw [if_neg (by omega)] at h
  have hnil : (txs bs 3).1 = [] := by
    refine Classical.byContradiction fun hn => ?_
    rw [if_neg (by rw [List.length_eq_zero_iff]; exact hn)] at h
    cases h
  obtain ⟨h2, e2⟩ := txs_err bs 2 h3
  obtain ⟨h1, e1⟩ := txs_err bs 1 h2
  obtain ⟨h0, e0⟩ := txs_err bs 0 h1
  have en := rds_one bs 17 h0
  rw [hnil, List.append_nil] at e2
  rw [bytesP_pkOf, e2, e1, e0]
  exact en
theorem read_one (bs : List UInt8) (h : readE bs = 0) : (readP bs).Right ∧ bytesP (readP bs) = bs := by
  unfold readE at h
  by_cases he : endE bs = 0
  · rw [if_neg (by omega)] at h
    by_cases hr : (pkOf bs).Right
    · have : readP bs = pkOf bs := by unfold readP; rw [if_neg (by omega), if_pos hr]
      rw [this]
      exact ⟨hr, pkOf_one bs he⟩
    · rw [if_neg hr] at h; cases h
  · rw [if_pos he] at h; exact absurd h he
theorem read_no (bs : List UInt8) (h : readE bs ≠ 0) : readP bs = zPk := by
  unfold readE at h
  unfold readP
  by_cases he : endE bs ≠ 0
  · rw [if_pos he]
  · rw [if_neg he] at h ⊢
    by_cases hr : (pkOf bs).Right
    · rw [if_pos hr] at h; exact absurd rfl h
    · rw [if_neg hr]

end Go.Proofs.YtalkhhjfplahkaaGreat
namespace Go.Proofs.YtalkhhjfplahkaaGreat
set_option maxRecDepth 100000
open Go.RowKit Go.WideShapes Go.ChangeShapes Go.Deep

theorem i_range {n : Int} (h : (Lit.int .i64 n).wf = true) : I n := by
  have e1 : IntKind.i64.min = -9223372036854775808 := by decide +kernel
  have e2 : IntKind.i64.max = 9223372036854775807 := by decide +kernel
  simp only [Lit.wf, Bool.and_eq_true, decide_eq_true_eq] at h
  unfold I
  omega
theorem u_range {n : Int} (h : (Lit.int .u32 n).wf = true) : U n := by
  have e1 : IntKind.u32.min = 0 := by decide +kernel
  have e2 : IntKind.u32.max = 4294967295 := by decide +kernel
  simp only [Lit.wf, Bool.and_eq_true, decide_eq_true_eq] at h
  unfold U
  omega

/-- A struct by value: each field's cells, read. -/
theorem open_field {H : Type} {enc : TypeId × Value → H} {P : Program} {w : World} {base : Nat} {spare : Nat → Bool} {held : Bool} {t : TypeId} {fs : Array Field} {fuel : Nat} {cs : List Value} {x : DataW H × List MemPlace}
    (he : P.underlying t = some (.struct fs)) (h : DataW.trod enc P w base spare held fuel t cs = some x) (j : Nat) (f : Field) (hj : fs[j]? = some f) (o k : Nat) (ty : TypeId) (hty : f.type = ty) (ho : f.offset = o) (hk : P.cellsOf ty = k) :
    ∃ (n : Nat) (y : DataW H × List MemPlace), DataW.trod enc P w base spare held n ty ((cs.drop o).take k) = some y := by
  subst hty
  obtain ⟨ys, n', _, _, hlen', hyl, hf⟩ := DataW.trod_struct he h
  have h1 := hf j f hj
  rw [ho, hk] at h1
  have hjl : j < ys.length := by
    rw [hyl]
    exact (Array.getElem?_eq_some_iff.1 hj).1
  rw [List.getElem?_eq_getElem hjl] at h1
  exact ⟨n', ys[j], h1⟩

section
variable {H : Type} {enc : TypeId × Value → H} {w : World}
set_option maxHeartbeats 1000000 in
/-- A packet that comes in. -/
theorem open_packet {v : Value} {d : DataW H} {ps : List MemPlace} {r : Reach} {b0 : Nat} (hv : Value.okWide Tryz.prog w r b0 54 v) (h : DataW.Trod enc Tryz.prog w 0 (fun _ => true) true 54 v d ps) : ∃ p : Pk, v = pkV p ∧ p.Ok := by
  obtain ⟨cs, rfl, hsz⟩ := okWide_struct Tryz.underlying54 hv
  rw [show Tryz.prog.cellsOf 54 = 20 by kernel_rfl] at hsz
  obtain ⟨fuel, hf⟩ := h
  obtain ⟨c0, c1, c2, c3, c4, c5, c6, c7, c8, c9, c10, c11, c12, c13, c14, c15, c16, c17, c18, c19, rfl⟩ : ∃ c0 c1 c2 c3 c4 c5 c6 c7 c8 c9 c10 c11 c12 c13 c14 c15 c16 c17 c18 c19, cs = #[c0, c1, c2, c3, c4, c5, c6, c7, c8, c9, c10, c11, c12, c13, c14, c15, c16, c17, c18, c19] := by
    rcases cs with ⟨l⟩
    match l, hsz with
    | [c0, c1, c2, c3, c4, c5, c6, c7, c8, c9, c10, c11, c12, c13, c14, c15, c16, c17, c18, c19], _ => exact ⟨c0, c1, c2, c3, c4, c5, c6, c7, c8, c9, c10, c11, c12, c13, c14, c15, c16, c17, c18, c19, rfl⟩
  obtain ⟨n0, y0, t0⟩ := open_field Tryz.underlying54 hf 0 _ rfl 0 1 3 rfl rfl (by kernel_rfl)
  obtain ⟨n1, y1, t1⟩ := open_field Tryz.underlying54 hf 1 _ rfl 1 1 3 rfl rfl (by kernel_rfl)
  obtain ⟨n2, y2, t2⟩ := open_field Tryz.underlying54 hf 2 _ rfl 2 1 3 rfl rfl (by kernel_rfl)
  obtain ⟨n3, y3, t3⟩ := open_field Tryz.underlying54 hf 3 _ rfl 3 1 22 rfl rfl (by kernel_rfl)
  obtain ⟨n4, y4, t4⟩ := open_field Tryz.underlying54 hf 4 _ rfl 4 1 22 rfl rfl (by kernel_rfl)
  obtain ⟨n5, y5, t5⟩ := open_field Tryz.underlying54 hf 5 _ rfl 5 1 22 rfl rfl (by kernel_rfl)
  obtain ⟨n6, y6, t6⟩ := open_field Tryz.underlying54 hf 6 _ rfl 6 1 22 rfl rfl (by kernel_rfl)
  obtain ⟨nO, yO, tO⟩ := open_field Tryz.underlying54 hf 7 _ rfl 7 13 52 rfl rfl (by kernel_rfl)
  obtain ⟨n7, y7, t7⟩ := open_field Tryz.underlying52 tO 0 _ rfl 0 1 3 rfl rfl (by kernel_rfl)
  obtain ⟨n8, y8, t8⟩ := open_field Tryz.underlying52 tO 1 _ rfl 1 1 33 rfl rfl (by kernel_rfl)
  obtain ⟨n9, y9, t9⟩ := open_field Tryz.underlying52 tO 2 _ rfl 2 1 22 rfl rfl (by kernel_rfl)
  obtain ⟨n10, y10, t10⟩ := open_field Tryz.underlying52 tO 3 _ rfl 3 1 22 rfl rfl (by kernel_rfl)
  obtain ⟨n11, y11, t11⟩ := open_field Tryz.underlying52 tO 4 _ rfl 4 1 22 rfl rfl (by kernel_rfl)
  obtain ⟨n12, y12, t12⟩ := open_field Tryz.underlying52 tO 5 _ rfl 5 1 22 rfl rfl (by kernel_rfl)
  obtain ⟨n13, y13, t13⟩ := open_field Tryz.underlying52 tO 6 _ rfl 6 1 22 rfl rfl (by kernel_rfl)
  obtain ⟨n14, y14, t14⟩ := open_field Tryz.underlying52 tO 7 _ rfl 7 1 22 rfl rfl (by kernel_rfl)
  obtain ⟨n15, y15, t15⟩ := open_field Tryz.underlying52 tO 8 _ rfl 8 1 22 rfl rfl (by kernel_rfl)
  obtain ⟨n16, y16, t16⟩ := open_field Tryz.underlying52 tO 9 _ rfl 9 1 22 rfl rfl (by kernel_rfl)
  obtain ⟨n17, y17, t17⟩ := open_field Tryz.underlying52 tO 10 _ rfl 10 1 9 rfl rfl (by kernel_rfl)
  obtain ⟨n18, y18, t18⟩ := open_field Tryz.underlying52 tO 11 _ rfl 11 1 9 rfl rfl (by kernel_rfl)
  obtain ⟨n19, y19, t19⟩ := open_field Tryz.underlying52 tO 12 _ rfl 12 1 9 rfl rfl (by kernel_rfl)
  replace t0 : DataW.trod enc Tryz.prog w 0 (fun _ => true) true n0 3 [c0] = some y0 := t0
  replace t1 : DataW.trod enc Tryz.prog w 0 (fun _ => true) true n1 3 [c1] = some y1 := t1
  replace t2 : DataW.trod enc Tryz.prog w 0 (fun _ => true) true n2 3 [c2] = some y2 := t2
  replace t3 : DataW.trod enc Tryz.prog w 0 (fun _ => true) true n3 22 [c3] = some y3 := t3
  replace t4 : DataW.trod enc Tryz.prog w 0 (fun _ => true) true n4 22 [c4] = some y4 := t4
  replace t5 : DataW.trod enc Tryz.prog w 0 (fun _ => true) true n5 22 [c5] = some y5 := t5
  replace t6 : DataW.trod enc Tryz.prog w 0 (fun _ => true) true n6 22 [c6] = some y6 := t6
  replace t7 : DataW.trod enc Tryz.prog w 0 (fun _ => true) true n7 3 [c7] = some y7 := t7
  replace t8 : DataW.trod enc Tryz.prog w 0 (fun _ => true) true n8 33 [c8] = some y8 := t8
  replace t9 : DataW.trod enc Tryz.prog w 0 (fun _ => true) true n9 22 [c9] = some y9 := t9
  replace t10 : DataW.trod enc Tryz.prog w 0 (fun _ => true) true n10 22 [c10] = some y10 := t10
  replace t11 : DataW.trod enc Tryz.prog w 0 (fun _ => true) true n11 22 [c11] = some y11 := t11
  replace t12 : DataW.trod enc Tryz.prog w 0 (fun _ => true) true n12 22 [c12] = some y12 := t12
  replace t13 : DataW.trod enc Tryz.prog w 0 (fun _ => true) true n13 22 [c13] = some y13 := t13
  replace t14 : DataW.trod enc Tryz.prog w 0 (fun _ => true) true n14 22 [c14] = some y14 := t14
  replace t15 : DataW.trod enc Tryz.prog w 0 (fun _ => true) true n15 22 [c15] = some y15 := t15
  replace t16 : DataW.trod enc Tryz.prog w 0 (fun _ => true) true n16 22 [c16] = some y16 := t16
  replace t17 : DataW.trod enc Tryz.prog w 0 (fun _ => true) true n17 9 [c17] = some y17 := t17
  replace t18 : DataW.trod enc Tryz.prog w 0 (fun _ => true) true n18 9 [c18] = some y18 := t18
  replace t19 : DataW.trod enc Tryz.prog w 0 (fun _ => true) true n19 9 [c19] = some y19 := t19
  obtain ⟨z0, e0, _, w0⟩ := DataW.trod_int Tryz.underlying3 t0
  obtain ⟨z1, e1, _, w1⟩ := DataW.trod_int Tryz.underlying3 t1
  obtain ⟨z2, e2, _, w2⟩ := DataW.trod_int Tryz.underlying3 t2
  obtain ⟨z3, e3, _, w3⟩ := DataW.trod_int Tryz.underlying22 t3
  obtain ⟨z4, e4, _, w4⟩ := DataW.trod_int Tryz.underlying22 t4
  obtain ⟨z5, e5, _, w5⟩ := DataW.trod_int Tryz.underlying22 t5
  obtain ⟨z6, e6, _, w6⟩ := DataW.trod_int Tryz.underlying22 t6
  obtain ⟨z7, e7, _, w7⟩ := DataW.trod_int Tryz.underlying3 t7
  obtain ⟨z8, e8, _, w8⟩ := DataW.trod_int Tryz.underlying33 t8
  obtain ⟨z9, e9, _, w9⟩ := DataW.trod_int Tryz.underlying22 t9
  obtain ⟨z10, e10, _, w10⟩ := DataW.trod_int Tryz.underlying22 t10
  obtain ⟨z11, e11, _, w11⟩ := DataW.trod_int Tryz.underlying22 t11
  obtain ⟨z12, e12, _, w12⟩ := DataW.trod_int Tryz.underlying22 t12
  obtain ⟨z13, e13, _, w13⟩ := DataW.trod_int Tryz.underlying22 t13
  obtain ⟨z14, e14, _, w14⟩ := DataW.trod_int Tryz.underlying22 t14
  obtain ⟨z15, e15, _, w15⟩ := DataW.trod_int Tryz.underlying22 t15
  obtain ⟨z16, e16, _, w16⟩ := DataW.trod_int Tryz.underlying22 t16
  obtain ⟨z17, e17, _, w17⟩ := DataW.trod_string Tryz.underlying9 t17
  obtain ⟨z18, e18, _, w18⟩ := DataW.trod_string Tryz.underlying9 t18
  obtain ⟨z19, e19, _, w19⟩ := DataW.trod_string Tryz.underlying9 t19
  injection e0 with e0 _; injection e1 with e1 _; injection e2 with e2 _; injection e3 with e3 _; injection e4 with e4 _; injection e5 with e5 _; injection e6 with e6 _; injection e7 with e7 _; injection e8 with e8 _; injection e9 with e9 _; injection e10 with e10 _; injection e11 with e11 _; injection e12 with e12 _; injection e13 with e13 _; injection e14 with e14 _; injection e15 with e15 _; injection e16 with e16 _; injection e17 with e17 _; injection e18 with e18 _; injection e19 with e19 _
  subst e0; subst e1; subst e2; subst e3; subst e4; subst e5; subst e6; subst e7; subst e8; subst e9; subst e10; subst e11; subst e12; subst e13; subst e14; subst e15; subst e16; subst e17; subst e18; subst e19
  exact ⟨⟨z0, z1, z2, z3, z4, z5, z6, z7, z8, z9, z10, z11, z12, z13, z14, z15, z16, z17, z18, z19⟩, rfl, i_range w0, i_range w1, i_range w2, u_range w3, u_range w4, u_range w5, u_range w6, i_range w7, i_range w8, u_range w9, u_range w10, u_range w11, u_range w12, u_range w13, u_range w14, u_range w15, u_range w16⟩
end
end Go.Proofs.YtalkhhjfplahkaaGreat
namespace Go.Proofs.YtalkhhjfplahkaaGreat
set_option maxRecDepth 100000
open Go.RowKit

theorem Only.undrew {S : List Nat} {w w' : World} (h : Only S w.drew w') : Only S w w' := ⟨h.os, h.tape, h.output, h.size, h.block⟩
theorem Only.boxed {w w1 : World} {o : Obj} (k : Only [] (w.alloc o) w1) : Only [] w w1 := ((Only.refl [] w).alloc o).trans k
theorem results_cell {fn : Func} {p : Tmp} {ty : TypeId} (h : fn.results = #[.cell p ty]) (tmps : Array Value) (P : Program) (w : World) :
    (results fn tmps).run P w = ((asAddr (tmps.getD p undef)).run P w).andThen fun a w₁ => (loadVar ty a).run P w₁ := by
  simp only [results, h]
  simp [Sem.run_bind, Result.andThen]

/-- Where number k lies: its block, its place. -/
def locB (g h : Nat) : Nat → Nat
  | 0 => h
  | 1 => h
  | 2 => h
  | 7 => h
  | 8 => h
  | _ => g
def locO : Nat → Nat
  | 0 => 0
  | 1 => 1
  | 2 => 2
  | 7 => 3
  | 8 => 4
  | k => k
def numsV (g h : Nat) : Value := .agg #[.pointer (some ⟨h, 0, none⟩), .pointer (some ⟨h, 1, none⟩), .pointer (some ⟨h, 2, none⟩), .pointer (some ⟨g, 3, none⟩), .pointer (some ⟨g, 4, none⟩), .pointer (some ⟨g, 5, none⟩), .pointer (some ⟨g, 6, none⟩), .pointer (some ⟨h, 3, none⟩), .pointer (some ⟨h, 4, none⟩), .pointer (some ⟨g, 9, none⟩), .pointer (some ⟨g, 10, none⟩), .pointer (some ⟨g, 11, none⟩), .pointer (some ⟨g, 12, none⟩), .pointer (some ⟨g, 13, none⟩), .pointer (some ⟨g, 14, none⟩), .pointer (some ⟨g, 15, none⟩), .pointer (some ⟨g, 16, none⟩)]
def textsV (g : Nat) : Value := .agg #[.pointer (some ⟨g, 17, none⟩), .int .i64 64, .pointer (some ⟨g, 18, none⟩), .int .i64 64, .pointer (some ⟨g, 19, none⟩), .int .i64 128]
def textV (g j : Nat) : Value := .agg #[.pointer (some ⟨g, 17 + j, none⟩), .int .i64 (mostK j : Nat)]

theorem index_nums (g h k : Nat) (hk : k < 17) : ∀ w : World, (Instr.index 118 (numsV g h) (.int .i64 (k : Int))).run Tryz.prog w = .ok (.pointer (some ⟨locB g h k, locO k, none⟩)) w := by
  match k, hk with
  | 0, _ => exact fun _ => by kernel_rfl
  | 1, _ => exact fun _ => by kernel_rfl
  | 2, _ => exact fun _ => by kernel_rfl
  | 3, _ => exact fun _ => by kernel_rfl
  | 4, _ => exact fun _ => by kernel_rfl
  | 5, _ => exact fun _ => by kernel_rfl
  | 6, _ => exact fun _ => by kernel_rfl
  | 7, _ => exact fun _ => by kernel_rfl
  | 8, _ => exact fun _ => by kernel_rfl
  | 9, _ => exact fun _ => by kernel_rfl
  | 10, _ => exact fun _ => by kernel_rfl
  | 11, _ => exact fun _ => by kernel_rfl
  | 12, _ => exact fun _ => by kernel_rfl
  | 13, _ => exact fun _ => by kernel_rfl
  | 14, _ => exact fun _ => by kernel_rfl
  | 15, _ => exact fun _ => by kernel_rfl
  | 16, _ => exact fun _ => by kernel_rfl
  | k + 17, hk => exact absurd hk (by omega)
theorem index_texts (g j : Nat) (hj : j < 3) : ∀ w : World, (Instr.index 125 (textsV g) (.int .i64 (j : Int))).run Tryz.prog w = .ok (.agg #[.pointer (some ⟨g, 17 + j, none⟩), .int .i64 (mostK j : Nat)]) w := by
  match j, hj with
  | 0, _ => exact fun _ => by kernel_rfl
  | 1, _ => exact fun _ => by kernel_rfl
  | 2, _ => exact fun _ => by kernel_rfl

def pC (a z : Nat → Int) (s : Nat → ByteArray) : Array Value := #[.int .i64 (a 0), .int .i64 (a 1), .int .i64 (a 2), .int .u32 (z 3), .int .u32 (z 4), .int .u32 (z 5), .int .u32 (z 6), .int .i64 (a 3), .int .i64 (a 4), .int .u32 (z 9), .int .u32 (z 10), .int .u32 (z 11), .int .u32 (z 12), .int .u32 (z 13), .int .u32 (z 14), .int .u32 (z 15), .int .u32 (z 16), .string (s 0), .string (s 1), .string (s 2)]
def cC (z : Nat → Int) : Array Value := #[.int .u32 (z 0), .int .u32 (z 1), .int .u32 (z 2), .int .u32 (z 7), .int .u32 (z 8)]
def upd (z : Nat → Int) (k : Nat) (v : Int) : Nat → Int := fun i => if i = k then v else z i
def updS (s : Nat → ByteArray) (k : Nat) (v : ByteArray) : Nat → ByteArray := fun i => if i = k then v else s i
structure Lies (w : World) (g h : Nat) (a z : Nat → Int) (s : Nat → ByteArray) : Prop where
  p : Blk w g 54 (pC a z s)
  c : Blk w h 115 (cC z)
  ne : g ≠ h

section
variable {w w' : World} {g h : Nat} {a z : Nat → Int} {s : Nat → ByteArray} {S : List Nat}
theorem Lies.kept (l : Lies w g h a z s) (k : Only S w w') (hg : g ∉ S) (hh : h ∉ S) : Lies w' g h a z s := ⟨l.p.kept k hg, l.c.kept k hh, l.ne⟩
theorem Lies.num (l : Lies w g h a z s) (k : Nat) (hk : k < 17) : w.cell? ⟨locB g h k, locO k, none⟩ = some (.int .u32 (z k)) := by
  match k, hk with
  | 0, _ => exact (l.c.cell 0).trans rfl
  | 1, _ => exact (l.c.cell 1).trans rfl
  | 2, _ => exact (l.c.cell 2).trans rfl
  | 3, _ => exact (l.p.cell 3).trans rfl
  | 4, _ => exact (l.p.cell 4).trans rfl
  | 5, _ => exact (l.p.cell 5).trans rfl
  | 6, _ => exact (l.p.cell 6).trans rfl
  | 7, _ => exact (l.c.cell 3).trans rfl
  | 8, _ => exact (l.c.cell 4).trans rfl
  | 9, _ => exact (l.p.cell 9).trans rfl
  | 10, _ => exact (l.p.cell 10).trans rfl
  | 11, _ => exact (l.p.cell 11).trans rfl
  | 12, _ => exact (l.p.cell 12).trans rfl
  | 13, _ => exact (l.p.cell 13).trans rfl
  | 14, _ => exact (l.p.cell 14).trans rfl
  | 15, _ => exact (l.p.cell 15).trans rfl
  | 16, _ => exact (l.p.cell 16).trans rfl
  | k + 17, hk => exact absurd hk (by omega)
theorem Lies.text (l : Lies w g h a z s) (j : Nat) (hj : j < 3) : w.cell? ⟨g, 17 + j, none⟩ = some (.string (s j)) := by
  match j, hj with
  | 0, _ => exact (l.p.cell 17).trans rfl
  | 1, _ => exact (l.p.cell 18).trans rfl
  | 2, _ => exact (l.p.cell 19).trans rfl
theorem Lies.freeNum (l : Lies w g h a z s) (k : Nat) (hk : k < 17) : w.frozen? ⟨locB g h k, locO k, none⟩ = false := by
  match k, hk with
  | 0, _ => exact l.c.free 0
  | 1, _ => exact l.c.free 1
  | 2, _ => exact l.c.free 2
  | 3, _ => exact l.p.free 3
  | 4, _ => exact l.p.free 4
  | 5, _ => exact l.p.free 5
  | 6, _ => exact l.p.free 6
  | 7, _ => exact l.c.free 3
  | 8, _ => exact l.c.free 4
  | 9, _ => exact l.p.free 9
  | 10, _ => exact l.p.free 10
  | 11, _ => exact l.p.free 11
  | 12, _ => exact l.p.free 12
  | 13, _ => exact l.p.free 13
  | 14, _ => exact l.p.free 14
  | 15, _ => exact l.p.free 15
  | 16, _ => exact l.p.free 16
  | k + 17, hk => exact absurd hk (by omega)
theorem Lies.freeText (l : Lies w g h a z s) (j : Nat) : w.frozen? ⟨g, 17 + j, none⟩ = false := l.p.free _
theorem Lies.setNum (l : Lies w g h a z s) (k : Nat) (hk : k < 17) (v : Int) : Lies (w.setCell ⟨locB g h k, locO k, none⟩ (.int .u32 v)) g h a (upd z k v) s := by
  have hp : ∀ i u, Blk (w.setCell ⟨h, i, none⟩ u) g 54 (pC a z s) := fun i u => l.p.kept ((Only.refl [h] w).setCell (.inl (by simp)) u) (by simpa using l.ne)
  have hc : ∀ i u, Blk (w.setCell ⟨g, i, none⟩ u) h 115 (cC z) := fun i u => l.c.kept ((Only.refl [g] w).setCell (.inl (by simp)) u) (by simpa using fun e => l.ne e.symm)
  match k, hk with
  | 0, _ => exact ⟨hp 0 _, l.c.set 0 _, l.ne⟩
  | 1, _ => exact ⟨hp 1 _, l.c.set 1 _, l.ne⟩
  | 2, _ => exact ⟨hp 2 _, l.c.set 2 _, l.ne⟩
  | 3, _ => exact ⟨l.p.set 3 _, hc 3 _, l.ne⟩
  | 4, _ => exact ⟨l.p.set 4 _, hc 4 _, l.ne⟩
  | 5, _ => exact ⟨l.p.set 5 _, hc 5 _, l.ne⟩
  | 6, _ => exact ⟨l.p.set 6 _, hc 6 _, l.ne⟩
  | 7, _ => exact ⟨hp 3 _, l.c.set 3 _, l.ne⟩
  | 8, _ => exact ⟨hp 4 _, l.c.set 4 _, l.ne⟩
  | 9, _ => exact ⟨l.p.set 9 _, hc 9 _, l.ne⟩
  | 10, _ => exact ⟨l.p.set 10 _, hc 10 _, l.ne⟩
  | 11, _ => exact ⟨l.p.set 11 _, hc 11 _, l.ne⟩
  | 12, _ => exact ⟨l.p.set 12 _, hc 12 _, l.ne⟩
  | 13, _ => exact ⟨l.p.set 13 _, hc 13 _, l.ne⟩
  | 14, _ => exact ⟨l.p.set 14 _, hc 14 _, l.ne⟩
  | 15, _ => exact ⟨l.p.set 15 _, hc 15 _, l.ne⟩
  | 16, _ => exact ⟨l.p.set 16 _, hc 16 _, l.ne⟩
  | k + 17, hk => exact absurd hk (by omega)
theorem Lies.setText (l : Lies w g h a z s) (j : Nat) (hj : j < 3) (v : ByteArray) : Lies (w.setCell ⟨g, 17 + j, none⟩ (.string v)) g h a z (updS s j v) := by
  have hc : ∀ i u, Blk (w.setCell ⟨g, i, none⟩ u) h 115 (cC z) := fun i u => l.c.kept ((Only.refl [g] w).setCell (.inl (by simp)) u) (by simpa using fun e => l.ne e.symm)
  match j, hj with
  | 0, _ => exact ⟨l.p.set 17 _, hc 17 _, l.ne⟩
  | 1, _ => exact ⟨l.p.set 18 _, hc 18 _, l.ne⟩
  | 2, _ => exact ⟨l.p.set 19 _, hc 19 _, l.ne⟩
end

/-- A packet's numbers and texts by their places. -/
def zOf (p : Pk) : Nat → Int := fun k => (numZ p).getD k 0
def sOf (p : Pk) : Nat → ByteArray
  | 0 => p.path
  | 1 => p.other
  | _ => p.data
def aOf (p : Pk) : Nat → Int
  | 0 => p.kind
  | 1 => p.frm
  | 2 => p.to
  | 3 => p.code
  | _ => p.err
theorem pkA_pC (p : Pk) : pkA p = pC (aOf p) (zOf p) (sOf p) := rfl
abbrev cV (p : Pk) : Value := .agg #[.int .u32 p.kind, .int .u32 p.frm, .int .u32 p.to, .int .u32 p.code, .int .u32 p.err]
theorem cV_cC (p : Pk) : cV p = .agg (cC (zOf p)) := rfl
theorem zOf_at (p : Pk) (k : Nat) (hk : k < (numZ p).length) : zOf p k = (numZ p)[k] := by
  unfold zOf
  simp [List.getD, List.getElem?_eq_getElem hk]

end Go.Proofs.YtalkhhjfplahkaaGreat
namespace Go.Proofs.YtalkhhjfplahkaaGreat
set_option maxRecDepth 100000
open Go.RowKit

theorem pk_text {w : World} {g : Nat} {p : Pk} (b : Blk w g 54 (pkA p)) (j : Nat) (hj : j < 3) : w.cell? ⟨g, 17 + j, none⟩ = some (.string (sOf p j)) := by
  match j, hj with
  | 0, _ => exact b.cell 17
  | 1, _ => exact b.cell 18
  | 2, _ => exact b.cell 19
theorem pk_cells {w : World} {g : Nat} {p : Pk} (b : Blk w g 54 (pkA p)) :
    w.cell? ⟨g, 0, none⟩ = some (.int .i64 p.kind) ∧ w.cell? ⟨g, 1, none⟩ = some (.int .i64 p.frm) ∧ w.cell? ⟨g, 2, none⟩ = some (.int .i64 p.to) ∧ w.cell? ⟨g, 3, none⟩ = some (.int .u32 p.life) ∧ w.cell? ⟨g, 4, none⟩ = some (.int .u32 p.seq) ∧ w.cell? ⟨g, 5, none⟩ = some (.int .u32 p.asked) ∧ w.cell? ⟨g, 6, none⟩ = some (.int .u32 p.boot) ∧ w.cell? ⟨g, 7, none⟩ = some (.int .i64 p.code) ∧ w.cell? ⟨g, 8, none⟩ = some (.int .i64 p.err) ∧ w.cell? ⟨g, 9, none⟩ = some (.int .u32 p.file) ∧ w.cell? ⟨g, 10, none⟩ = some (.int .u32 p.epoch) ∧ w.cell? ⟨g, 11, none⟩ = some (.int .u32 p.off) ∧ w.cell? ⟨g, 12, none⟩ = some (.int .u32 p.len) ∧ w.cell? ⟨g, 13, none⟩ = some (.int .u32 p.size) ∧ w.cell? ⟨g, 14, none⟩ = some (.int .u32 p.mode) ∧ w.cell? ⟨g, 15, none⟩ = some (.int .u32 p.deny) ∧ w.cell? ⟨g, 16, none⟩ = some (.int .u32 p.handle) ∧ w.cell? ⟨g, 17, none⟩ = some (.string p.path) ∧ w.cell? ⟨g, 18, none⟩ = some (.string p.other) ∧ w.cell? ⟨g, 19, none⟩ = some (.string p.data) :=
  ⟨b.cell 0, b.cell 1, b.cell 2, b.cell 3, b.cell 4, b.cell 5, b.cell 6, b.cell 7, b.cell 8, b.cell 9, b.cell 10, b.cell 11, b.cell 12, b.cell 13, b.cell 14, b.cell 15, b.cell 16, b.cell 17, b.cell 18, b.cell 19⟩
theorem Blk.two {w : World} {g : Nat} {ty : TypeId} {c0 c1 a b : Value} (h : Blk w g ty #[c0, c1]) : Blk ((w.setCell ⟨g, 0, none⟩ a).setCell ⟨g, 1, none⟩ b) g ty #[a, b] := by
  have := (h.set 0 a).set 1 b
  simpa using this
theorem size_le {s : ByteArray} {m : Nat} (h : ¬ m < s.size) : s.size ≤ m := by omega

end Go.Proofs.YtalkhhjfplahkaaGreat
namespace Go.Proofs.YtalkhhjfplahkaaGreat
set_option maxRecDepth 100000
open Go.RowKit

theorem Blk.range9 {w : World} {g : Nat} {t : TypeId} {cs : List Value} (h : Blk w g t cs.toArray) : w.rangeAt g 0 cs := fun j v hj => by
  rw [Nat.zero_add, h.cell]
  simpa using hj
theorem Only.setRow {S : List Nat} {a w : World} (h : Only S a w) {g : Nat} (hg : g ∈ S ∨ a.heap.size ≤ g) (cs : Array Value) : Only S a (w.setRow g cs) :=
  ⟨h.os, h.tape, h.output, by simpa [World.setRow] using h.size, fun i hi hn => (setRow_other w g i cs (by
    rintro rfl
    rcases hg with hg | hg
    · exact hn hg
    · omega)).trans (h.block i hi hn)⟩
section
variable {P : Program} {ops : Array Oper} {rest : List Oper} {o : Oper} {a : Act} {w : World} {Q : Exit → Act → World → Prop}
theorem wpList_want (hw : Region.wanted o (yielded ops a.tmps) = true) (h : ∀ K : Act → World → Prop, (∀ a w, wpList P ops Q rest a w → K a w) → o.wp P a w K Q) : wpList P ops Q (o :: rest) a w :=
  wpList_step fun _ hK => by rw [if_pos hw]; exact h _ hK
/-- A whole value is loaded. -/
theorem wpList_load_blk (hw : Region.wanted o (yielded ops a.tmps) = true) (ty : TypeId) (x : Operand) (ho : o.op = .load ty x) (g : Nat) (hx : a.eval x = .pointer (some ⟨g, 0, none⟩)) (cs : List Value) (d : TypeDesc) (hb : Blk w g ty cs.toArray)
    (hu : P.underlying ty = some d) (hd : d.isRow = true) (hi : (P.info? ty).map (·.size) = some cs.length) (h : wpList P ops Q rest (a.put o.dst (.agg cs.toArray)) w) : wpList P ops Q (o :: rest) a w :=
  wpList_want hw fun _ hK => wp_load_mid ty x ho g 0 hx cs d (Blk.range9 hb) hu hd hi (hK _ _ h)
/-- A whole value goes into its own block. -/
theorem wpList_store_blk (hw : Region.wanted o (yielded ops a.tmps) = true) (ty : TypeId) (x y : Operand) (ho : o.op = .store ty x y)
    (g : Nat) (c c' : Array Value) (hx : a.eval x = .pointer (some ⟨g, 0, none⟩)) (hy : a.eval y = .agg c') (hb : Blk w g ty c) (hi : (P.info? ty).map (·.size) = some c'.size) (hs : c.size = c'.size) (h1 : c'.all (·.oneCell') = true)
    (h : ∀ w', Blk w' g ty c' → Only [g] w w' → wpList P ops Q rest (a.put o.dst undef) w') : wpList P ops Q (o :: rest) a w := by
  refine wpList_want hw fun _ hK => ?_
  have hrun := run_storeVar_row (P := P) w g ty ty c c' hb hi hs h1
  unfold Oper.wp execOp
  simp only [ho, hx, hy, Instr.storeAt, Instr.sureAddr, Sem.run_bind, Sem.run_pure, Result.andThen_ok, hrun]
  exact hK _ _ (h _ (setRow_heap w g c c' ty _ hb) ((Only.refl [g] w).setRow (.inl (by simp)) _))
end

def zA : Array Value := #[.int .i64 0, .int .i64 0, .int .i64 0, .int .u32 0, .int .u32 0, .int .u32 0, .int .u32 0, .int .i64 0, .int .i64 0, .int .u32 0, .int .u32 0, .int .u32 0, .int .u32 0, .int .u32 0, .int .u32 0, .int .u32 0, .int .u32 0, .string ⟨#[]⟩, .string ⟨#[]⟩, .string ⟨#[]⟩]
theorem size_pk : (Tryz.prog.info? 54).map (·.size) = some 20 := by kernel_rfl
section
variable {ops : Array Oper} {rest : List Oper} {o : Oper} {a : Act} {w : World} {Q : Exit → Act → World → Prop}
theorem wpList_load_pk (p : Pk) (hw : Region.wanted o (yielded ops a.tmps) = true) (x : Operand) (ho : o.op = .load 54 x) (g : Nat) (hx : a.eval x = .pointer (some ⟨g, 0, none⟩)) (hb : Blk w g 54 (pkA p))
    (h : wpList Tryz.prog ops Q rest (a.put o.dst (pkV p)) w) : wpList Tryz.prog ops Q (o :: rest) a w :=
  wpList_load_blk hw 54 x ho g hx (pkA p).toList _ hb Tryz.underlying54 rfl size_pk h
theorem wpList_store_pk (p q : Pk) (hw : Region.wanted o (yielded ops a.tmps) = true) (x y : Operand) (ho : o.op = .store 54 x y) (g : Nat) (hx : a.eval x = .pointer (some ⟨g, 0, none⟩)) (hy : a.eval y = pkV p) (hb : Blk w g 54 (pkA q))
    (h : ∀ w', Blk w' g 54 (pkA p) → Only [g] w w' → wpList Tryz.prog ops Q rest (a.put o.dst undef) w') : wpList Tryz.prog ops Q (o :: rest) a w :=
  wpList_store_blk hw 54 x y ho g _ _ hx hy hb size_pk rfl (by simp [Value.oneCell']) h
end
theorem results_pk {fn : Func} {p u : Tmp} (h : fn.results = #[.cell p 54, .tmp u]) (tmps : Array Value) (w : World) (g : Nat) (hp : tmps.getD p undef = .pointer (some ⟨g, 0, none⟩)) (q : Pk) (hb : Blk w g 54 (pkA q)) (v : Value) (hv : tmps.getD u undef = v) :
    (results fn tmps).run Tryz.prog w = .ok (.tuple #[pkV q, v]) w := by
  subst hv
  have hl := run_loadVar_mid (P := Tryz.prog) w g 0 54 (pkA q).toList _ (Blk.range9 hb) Tryz.underlying54 rfl size_pk
  rw [results_cell_tmp h, hp]
  simp only [asAddr, Sem.run_pure, Result.andThen_ok, hl]

theorem pk_ext (p q : Pk) : p = q ↔ (p.kind = q.kind ∧ p.frm = q.frm ∧ p.to = q.to ∧ p.life = q.life ∧ p.seq = q.seq ∧ p.asked = q.asked ∧ p.boot = q.boot ∧ p.code = q.code ∧ p.err = q.err ∧ p.file = q.file ∧ p.epoch = q.epoch ∧ p.off = q.off ∧ p.len = q.len ∧ p.size = q.size ∧ p.mode = q.mode ∧ p.deny = q.deny ∧ p.handle = q.handle ∧ p.path = q.path ∧ p.other = q.other ∧ p.data = q.data) := by
  obtain ⟨x0, x1, x2, x3, x4, x5, x6, x7, x8, x9, x10, x11, x12, x13, x14, x15, x16, x17, x18, x19⟩ := p
  obtain ⟨y0, y1, y2, y3, y4, y5, y6, y7, y8, y9, y10, y11, y12, y13, y14, y15, y16, y17, y18, y19⟩ := q
  simp only [Pk.mk.injEq]
instance : DecidableEq Pk := fun p q => decidable_of_iff _ (pk_ext p q).symm

end Go.Proofs.YtalkhhjfplahkaaGreat
namespace Go.Proofs.YtalkhhjfplahkaaGreat
set_option maxRecDepth 100000
open Go.RowKit


theorem list_same (a b : ByteArray) : (a.toList = b.toList) = (a = b) := by
  refine propext ⟨fun h => ?_, fun h => by rw [h]⟩
  rw [ByteArray.toList_eq, ByteArray.toList_eq] at h
  obtain ⟨⟨x⟩⟩ := a
  obtain ⟨⟨y⟩⟩ := b
  simp only at h
  rw [h]
set_option maxRecDepth 100000 in
set_option maxHeartbeats 2000000 in
theorem run_eql_pk (p q : Pk) (w : World) : (binOp .eql 54 (pkV p) (pkV q)).run Tryz.prog w = .ok (.bool (decide (p = q))) w := by
  have hb := pk_ext p q
  generalize hB : decide (p = q) = B
  obtain ⟨x0, x1, x2, x3, x4, x5, x6, x7, x8, x9, x10, x11, x12, x13, x14, x15, x16, x17, x18, x19⟩ := p
  obtain ⟨y0, y1, y2, y3, y4, y5, y6, y7, y8, y9, y10, y11, y12, y13, y14, y15, y16, y17, y18, y19⟩ := q
  simp only at hb
  rw [run_eql_struct]
  have hb := Lib.hid hb
  have hB := Lib.hid hB
  go_simp
  simp only [list_same]
  by_cases h0 : x0 = y0
  rotate_left
  · rw [if_neg h0, ← hB.out, decide_eq_false (fun h => by have := hb.out.1 h; exact h0 (by simp only [this]))]
  rw [if_pos h0]
  by_cases h1 : x1 = y1
  rotate_left
  · rw [if_neg h1, ← hB.out, decide_eq_false (fun h => by have := hb.out.1 h; exact h1 (by simp only [this]))]
  rw [if_pos h1]
  by_cases h2 : x2 = y2
  rotate_left
  · rw [if_neg h2, ← hB.out, decide_eq_false (fun h => by have := hb.out.1 h; exact h2 (by simp only [this]))]
  rw [if_pos h2]
  by_cases h3 : x3 = y3
  rotate_left
  · rw [if_neg h3, ← hB.out, decide_eq_false (fun h => by have := hb.out.1 h; exact h3 (by simp only [this]))]
  rw [if_pos h3]
  by_cases h4 : x4 = y4
  rotate_left
  · rw [if_neg h4, ← hB.out, decide_eq_false (fun h => by have := hb.out.1 h; exact h4 (by simp only [this]))]
  rw [if_pos h4]
  by_cases h5 : x5 = y5
  rotate_left
  · rw [if_neg h5, ← hB.out, decide_eq_false (fun h => by have := hb.out.1 h; exact h5 (by simp only [this]))]
  rw [if_pos h5]
  by_cases h6 : x6 = y6
  rotate_left
  · rw [if_neg h6, ← hB.out, decide_eq_false (fun h => by have := hb.out.1 h; exact h6 (by simp only [this]))]
  rw [if_pos h6]
  by_cases h7 : x7 = y7
  rotate_left
  · rw [if_neg h7, ← hB.out, decide_eq_false (fun h => by have := hb.out.1 h; exact h7 (by simp only [this]))]
  rw [if_pos h7]
  by_cases h8 : x8 = y8
  rotate_left
  · rw [if_neg h8, ← hB.out, decide_eq_false (fun h => by have := hb.out.1 h; exact h8 (by simp only [this]))]
  rw [if_pos h8]
  by_cases h9 : x9 = y9
  rotate_left
  · rw [if_neg h9, ← hB.out, decide_eq_false (fun h => by have := hb.out.1 h; exact h9 (by simp only [this]))]
  rw [if_pos h9]
  by_cases h10 : x10 = y10
  rotate_left
  · rw [if_neg h10, ← hB.out, decide_eq_false (fun h => by have := hb.out.1 h; exact h10 (by simp only [this]))]
  rw [if_pos h10]
  by_cases h11 : x11 = y11
  rotate_left
  · rw [if_neg h11, ← hB.out, decide_eq_false (fun h => by have := hb.out.1 h; exact h11 (by simp only [this]))]
  rw [if_pos h11]
  by_cases h12 : x12 = y12
  rotate_left
  · rw [if_neg h12, ← hB.out, decide_eq_false (fun h => by have := hb.out.1 h; exact h12 (by simp only [this]))]
  rw [if_pos h12]
  by_cases h13 : x13 = y13
  rotate_left
  · rw [if_neg h13, ← hB.out, decide_eq_false (fun h => by have := hb.out.1 h; exact h13 (by simp only [this]))]
  rw [if_pos h13]
  by_cases h14 : x14 = y14
  rotate_left
  · rw [if_neg h14, ← hB.out, decide_eq_false (fun h => by have := hb.out.1 h; exact h14 (by simp only [this]))]
  rw [if_pos h14]
  by_cases h15 : x15 = y15
  rotate_left
  · rw [if_neg h15, ← hB.out, decide_eq_false (fun h => by have := hb.out.1 h; exact h15 (by simp only [this]))]
  rw [if_pos h15]
  by_cases h16 : x16 = y16
  rotate_left
  · rw [if_neg h16, ← hB.out, decide_eq_false (fun h => by have := hb.out.1 h; exact h16 (by simp only [this]))]
  rw [if_pos h16]
  by_cases h17 : x17 = y17
  rotate_left
  · rw [if_neg h17, ← hB.out, decide_eq_false (fun h => by have := hb.out.1 h; exact h17 (by simp only [this]))]
  rw [if_pos h17]
  by_cases h18 : x18 = y18
  rotate_left
  · rw [if_neg h18, ← hB.out, decide_eq_false (fun h => by have := hb.out.1 h; exact h18 (by simp only [this]))]
  rw [if_pos h18]
  by_cases h19 : x19 = y19
  rotate_left
  · rw [if_neg h19, ← hB.out, decide_eq_false (fun h => by have := hb.out.1 h; exact h19 (by simp only [this]))]
  rw [if_pos h19]
  rw [← hB.out, decide_eq_true (hb.out.2 ⟨h0, h1, h2, h3, h4, h5, h6, h7, h8, h9, h10, h11, h12, h13, h14, h15, h16, h17, h18, h19⟩)]

section
variable {ops : Array Oper} {rest : List Oper} {o : Oper} {a : Act} {w : World} {Q : Exit → Act → World → Prop}
theorem wpList_eql_pk (p q : Pk) (hw : Region.wanted o (yielded ops a.tmps) = true) (x y : Operand) (u : TypeId) (ho : o.op = .binOp .eql 54 x y u) (hx : a.eval x = pkV p) (hy : a.eval y = pkV q) (b : Bool) (hb : decide (p = q) = b)
    (h : wpList Tryz.prog ops Q rest (a.put o.dst (.bool b)) w) : wpList Tryz.prog ops Q (o :: rest) a w := by
  subst hb
  refine wpList_want hw fun _ hK => ?_
  have hg := run_eqGuard_agg (P := Tryz.prog) w .eql 54 x y (pkA p) (pkA q) (by kernel_rfl)
  have hr := run_eql_pk p q w
  unfold Oper.wp execOp
  simp only [ho, hx, hy, Sem.run_bind, Sem.run_pure, Result.andThen_ok, hg, hr]
  exact hK _ _ h
theorem wpList_neq_pk (p q : Pk) (hw : Region.wanted o (yielded ops a.tmps) = true) (x y : Operand) (u : TypeId) (ho : o.op = .binOp .neq 54 x y u) (hx : a.eval x = pkV p) (hy : a.eval y = pkV q) (b : Bool) (hb : (!decide (p = q)) = b)
    (h : wpList Tryz.prog ops Q rest (a.put o.dst (.bool b)) w) : wpList Tryz.prog ops Q (o :: rest) a w := by
  subst hb
  refine wpList_want hw fun _ hK => ?_
  have hg := run_eqGuard_agg (P := Tryz.prog) w .neq 54 x y (pkA p) (pkA q) (by kernel_rfl)
  have hr := run_eql_pk p q w
  have hn : (binOp .neq 54 (pkV p) (pkV q)).run Tryz.prog w = .ok (.bool (!decide (p = q))) w := by
    rw [run_eql_struct] at hr
    rw [run_neq_struct]
    generalize (Op.equalIn 10000 54 (pkV p) (pkV q)).run Tryz.prog w = R at hr ⊢
    cases R with
    | ok v w1 =>
      simp only [Result.andThen_ok, Result.ok.injEq, Value.bool.injEq] at hr ⊢
      exact ⟨by rw [hr.1], hr.2⟩
    | halt x w1 => simp [Result.andThen] at hr
  unfold Oper.wp execOp
  simp only [ho, hx, hy, Sem.run_bind, Sem.run_pure, Result.andThen_ok, hg, hn]
  exact hK _ _ h
end

end Go.Proofs.YtalkhhjfplahkaaGreat
