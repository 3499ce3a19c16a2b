/- Packets as plain things: which may be, their bytes, and the packet of any bytes. -/
import Derived.Test.YtjnbajpckohnnaaPure2
namespace Go.Proofs.Ytjnbajpckohnnaa
open Go.RowKit

/-- A number of 32 bits; of 64 bits. -/
def U (x : Int) : Prop := 0 ≤ x ∧ x ≤ 4294967295
def I (x : Int) : Prop := -9223372036854775808 ≤ x ∧ x ≤ 9223372036854775807

structure Pk where
  kind : Int
  frm : Int
  to : Int
  life : Int
  seq : Int
  asked : Int
  boot : Int
  code : Int
  err : Int
  file : Int
  epoch : Int
  off : Int
  len : Int
  size : Int
  mode : Int
  deny : Int
  handle : Int
  path : ByteArray
  other : ByteArray
  data : ByteArray

structure Pk.Ok (p : Pk) : Prop where
  kind : I p.kind
  frm : I p.frm
  to : I p.to
  life : U p.life
  seq : U p.seq
  asked : U p.asked
  boot : U p.boot
  code : I p.code
  err : I p.err
  file : U p.file
  epoch : U p.epoch
  off : U p.off
  len : U p.len
  size : U p.size
  mode : U p.mode
  deny : U p.deny
  handle : U p.handle

/-- Its cells, in their order. -/
abbrev pkA (p : Pk) : Array Value := #[.int .i64 p.kind, .int .i64 p.frm, .int .i64 p.to, .int .u32 p.life, .int .u32 p.seq, .int .u32 p.asked, .int .u32 p.boot, .int .i64 p.code, .int .i64 p.err, .int .u32 p.file, .int .u32 p.epoch, .int .u32 p.off, .int .u32 p.len, .int .u32 p.size, .int .u32 p.mode, .int .u32 p.deny, .int .u32 p.handle, .string p.path, .string p.other, .string p.data]
abbrev pkV (p : Pk) : Value := .agg (pkA p)
def zPk : Pk := ⟨0, 0, 0, 0, 0, 0, 0, 0, 0, 0, 0, 0, 0, 0, 0, 0, 0, ⟨#[]⟩, ⟨#[]⟩, ⟨#[]⟩⟩

/-- A code that is one of those that there are. -/
def knownP (c : Int) : Prop := (1 ≤ c ∧ c ≤ 5) ∨ (11 ≤ c ∧ c ≤ 24) ∨ c = 30
instance (c : Int) : Decidable (knownP c) := by unfold knownP; infer_instance
/-- It may be. -/
def Pk.Right (p : Pk) : Prop :=
  ((p.path.size ≤ 64 ∧ p.other.size ≤ 64) ∧ p.data.size ≤ 128) ∧ (1 ≤ p.kind ∧ p.kind ≤ 3) ∧ (0 ≤ p.frm ∧ p.frm ≤ 255) ∧ (0 ≤ p.to ∧ p.to ≤ 255) ∧ knownP p.code ∧ (p.code = 30 ↔ p.kind = 3) ∧ (0 ≤ p.err ∧ p.err ≤ 25) ∧ (p.err = 0 ∨ p.kind = 2)
instance (p : Pk) : Decidable p.Right := by unfold Pk.Right; infer_instance

/-- Its numbers, its texts' bytes. -/
def numZ (p : Pk) : List Int := [p.kind, p.frm, p.to, p.life, p.seq, p.asked, p.boot, p.code, p.err, p.file, p.epoch, p.off, p.len, p.size, p.mode, p.deny, p.handle]
theorem numZ_length (p : Pk) : (numZ p).length = 17 := rfl
def numN (p : Pk) : List Nat := (numZ p).map Int.toNat
def bytesP (p : Pk) : List UInt8 := encNs (numN p) ++ (encT p.path.data.toList ++ (encT p.other.data.toList ++ encT p.data.data.toList))
def writeS (p : Pk) : ByteArray := if p.Right then strOf (bytesP p) else ⟨#[]⟩
def writeE (p : Pk) : Int := if p.Right then 0 else 1

/-- What is left, and the error, behind k numbers. -/
def rds (bs : List UInt8) : Nat → List UInt8 × Nat
  | 0 => (bs, 0)
  | k + 1 => (rNumber (rds bs k).1 (rds bs k).2).2
def numAt (bs : List UInt8) (k : Nat) : Nat := (rNumber (rds bs k).1 (rds bs k).2).1
def mostK : Nat → Nat
  | 0 => 64
  | 1 => 64
  | _ => 128
/-- Behind the numbers and j texts. -/
def txs (bs : List UInt8) : Nat → List UInt8 × Nat
  | 0 => rds bs 17
  | j + 1 => (rText (mostK j) (txs bs j).1 (txs bs j).2).2
def txtAt (bs : List UInt8) (j : Nat) : List UInt8 := (rText (mostK j) (txs bs j).1 (txs bs j).2).1
def endE (bs : List UInt8) : Nat := rEnd (txs bs 3).1 (txs bs 3).2
def pkOf (bs : List UInt8) : Pk := ⟨(numAt bs 0 : Nat), (numAt bs 1 : Nat), (numAt bs 2 : Nat), (numAt bs 3 : Nat), (numAt bs 4 : Nat), (numAt bs 5 : Nat), (numAt bs 6 : Nat), (numAt bs 7 : Nat), (numAt bs 8 : Nat), (numAt bs 9 : Nat), (numAt bs 10 : Nat), (numAt bs 11 : Nat), (numAt bs 12 : Nat), (numAt bs 13 : Nat), (numAt bs 14 : Nat), (numAt bs 15 : Nat), (numAt bs 16 : Nat), strOf (txtAt bs 0), strOf (txtAt bs 1), strOf (txtAt bs 2)⟩
def readE (bs : List UInt8) : Nat := if endE bs ≠ 0 then endE bs else if (pkOf bs).Right then 0 else 3
def readP (bs : List UInt8) : Pk := if endE bs ≠ 0 then zPk else if (pkOf bs).Right then pkOf bs else zPk

theorem numAt_lt (bs : List UInt8) (k : Nat) : numAt bs k < 4294967296 := rNumber_lt _ _
theorem u_nat {n : Nat} (h : n < 4294967296) : U (n : Int) := ⟨by omega, by omega⟩
theorem i_nat {n : Nat} (h : n < 4294967296) : I (n : Int) := ⟨by omega, by omega⟩
theorem pkOf_ok (bs : List UInt8) : (pkOf bs).Ok := by
  refine ⟨i_nat (numAt_lt bs 0), i_nat (numAt_lt bs 1), i_nat (numAt_lt bs 2), u_nat (numAt_lt bs 3), u_nat (numAt_lt bs 4), u_nat (numAt_lt bs 5), u_nat (numAt_lt bs 6), i_nat (numAt_lt bs 7), i_nat (numAt_lt bs 8), u_nat (numAt_lt bs 9), u_nat (numAt_lt bs 10), u_nat (numAt_lt bs 11), u_nat (numAt_lt bs 12), u_nat (numAt_lt bs 13), u_nat (numAt_lt bs 14), u_nat (numAt_lt bs 15), u_nat (numAt_lt bs 16)⟩
theorem zPk_ok : zPk.Ok := by
  constructor <;> (constructor <;> decide)
theorem readP_ok (bs : List UInt8) : (readP bs).Ok := by
  unfold readP
  split
  · exact zPk_ok
  · split
    · exact pkOf_ok bs
    · exact zPk_ok

/-- Numbers that were written are read. -/
theorem rds_enc (l : List Nat) (h : ∀ n ∈ l, n < 4294967296) (r : List UInt8) (k : Nat) (hk : k ≤ l.length) : rds (encNs l ++ r) k = (encNs (l.drop k) ++ r, 0) := by
  induction k with
  | zero => simp [rds]
  | succ k ih =>
    rw [show rds (encNs l ++ r) (k + 1) = (rNumber (rds (encNs l ++ r) k).1 (rds (encNs l ++ r) k).2).2 from rfl, ih (by omega)]
    have hd : l.drop k = l[k]'(by omega) :: l.drop (k + 1) := List.drop_eq_getElem_cons (by omega)
    rw [hd]
    simp only [encNs, List.append_assoc]
    rw [rNumber_be4 _ _ (h _ (List.getElem_mem (by omega)))]
theorem numAt_enc (l : List Nat) (h : ∀ n ∈ l, n < 4294967296) (r : List UInt8) (k : Nat) (hk : k < l.length) : numAt (encNs l ++ r) k = l[k] := by
  unfold numAt
  rw [rds_enc l h r k (by omega)]
  have hd : l.drop k = l[k] :: l.drop (k + 1) := List.drop_eq_getElem_cons hk
  rw [hd]
  simp only [encNs, List.append_assoc]
  rw [rNumber_be4 _ _ (h _ (List.getElem_mem hk))]

theorem numN_lt (p : Pk) (ho : p.Ok) (hr : p.Right) : ∀ n ∈ numN p, n < 4294967296 := by
  obtain ⟨_, ⟨_, _⟩, ⟨_, _⟩, ⟨_, _⟩, hc, _, ⟨_, _⟩, _⟩ := hr
  have hc' : p.code ≤ 30 := by unfold knownP at hc; omega
  intro n hn
  simp only [numN, numZ, List.map_cons, List.map_nil, List.mem_cons, List.not_mem_nil, or_false] at hn
  rcases hn with h | h | h | h | h | h | h | h | h | h | h | h | h | h | h | h | h
  all_goals subst h
  · omega
  · omega
  · omega
  · have := ho.life; unfold U at this; omega
  · have := ho.seq; unfold U at this; omega
  · have := ho.asked; unfold U at this; omega
  · have := ho.boot; unfold U at this; omega
  · omega
  · omega
  · have := ho.file; unfold U at this; omega
  · have := ho.epoch; unfold U at this; omega
  · have := ho.off; unfold U at this; omega
  · have := ho.len; unfold U at this; omega
  · have := ho.size; unfold U at this; omega
  · have := ho.mode; unfold U at this; omega
  · have := ho.deny; unfold U at this; omega
  · have := ho.handle; unfold U at this; omega

theorem size_list (s : ByteArray) : s.data.toList.length = s.size := by simp
theorem numN_length (p : Pk) : (numN p).length = 17 := rfl

theorem txs_zero (bs : List UInt8) : txs bs 0 = rds bs 17 := rfl
theorem txs_succ (bs : List UInt8) (j : Nat) : txs bs (j + 1) = (rText (mostK j : Nat) (txs bs j).1 (txs bs j).2).2 := rfl
theorem txtAt_eq (bs : List UInt8) (j : Nat) : txtAt bs j = (rText (mostK j : Nat) (txs bs j).1 (txs bs j).2).1 := rfl
theorem rds_succ (bs : List UInt8) (k : Nat) : rds bs (k + 1) = (rNumber (rds bs k).1 (rds bs k).2).2 := rfl
theorem text_back (bs : List UInt8) (j : Nat) (s r : List UInt8) (h : txs bs j = (encT s ++ r, 0)) (hm : s.length ≤ mostK j) : txs bs (j + 1) = (r, 0) ∧ txtAt bs j = s := by
  have hk : mostK j ≤ 128 := by unfold mostK; split <;> decide
  have e := rText_encT (mostK j : Nat) s r (by omega) (by omega)
  rw [txs_succ, txtAt_eq, h]
  show (rText (mostK j : Nat) (encT s ++ r) 0).2 = _ ∧ (rText (mostK j : Nat) (encT s ++ r) 0).1 = _
  rw [e]
  exact ⟨rfl, rfl⟩
theorem txs_back (p : Pk) (ho : p.Ok) (hr : p.Right) : txtAt (bytesP p) 0 = p.path.data.toList ∧ txtAt (bytesP p) 1 = p.other.data.toList ∧ txs (bytesP p) 3 = ([], 0) ∧ txtAt (bytesP p) 2 = p.data.data.toList := by
  have h0 : txs (bytesP p) 0 = (encT p.path.data.toList ++ (encT p.other.data.toList ++ encT p.data.data.toList), 0) := by
    rw [txs_zero]
    unfold bytesP
    rw [rds_enc _ (numN_lt p ho hr) _ 17 (by rw [numN_length]; exact Nat.le_refl _), List.drop_of_length_le (by rw [numN_length]; exact Nat.le_refl _)]
    simp only [encNs, List.nil_append]
  obtain ⟨⟨⟨s0, s1⟩, s2⟩, _⟩ := hr
  obtain ⟨t1, a0⟩ := text_back _ 0 _ _ h0 (by rw [size_list]; exact s0)
  obtain ⟨t2, a1⟩ := text_back _ 1 _ _ t1 (by rw [size_list]; exact s1)
  obtain ⟨t3, a2⟩ := text_back _ 2 p.data.data.toList [] (by rw [List.append_nil]; exact t2) (by rw [size_list]; exact s2)
  exact ⟨a0, a1, t3, a2⟩

theorem toNat_eq {x : Int} (h : 0 ≤ x) : ((x.toNat : Nat) : Int) = x := Int.toNat_of_nonneg h

theorem pkOf_back (p : Pk) (ho : p.Ok) (hr : p.Right) : pkOf (bytesP p) = p := by
  obtain ⟨a0, a1, _, a2⟩ := txs_back p ho hr
  have hn := fun k hk => numAt_enc (numN p) (numN_lt p ho hr) (encT p.path.data.toList ++ (encT p.other.data.toList ++ encT p.data.data.toList)) k hk
  change ∀ (k : Nat) (hk : k < (numN p).length), numAt (bytesP p) k = (numN p)[k] at hn
  have n0 : numAt (bytesP p) 0 = p.kind.toNat := hn 0 (by rw [numN_length]; decide)
  have n1 : numAt (bytesP p) 1 = p.frm.toNat := hn 1 (by rw [numN_length]; decide)
  have n2 : numAt (bytesP p) 2 = p.to.toNat := hn 2 (by rw [numN_length]; decide)
  have n3 : numAt (bytesP p) 3 = p.life.toNat := hn 3 (by rw [numN_length]; decide)
  have n4 : numAt (bytesP p) 4 = p.seq.toNat := hn 4 (by rw [numN_length]; decide)
  have n5 : numAt (bytesP p) 5 = p.asked.toNat := hn 5 (by rw [numN_length]; decide)
  have n6 : numAt (bytesP p) 6 = p.boot.toNat := hn 6 (by rw [numN_length]; decide)
  have n7 : numAt (bytesP p) 7 = p.code.toNat := hn 7 (by rw [numN_length]; decide)
  have n8 : numAt (bytesP p) 8 = p.err.toNat := hn 8 (by rw [numN_length]; decide)
  have n9 : numAt (bytesP p) 9 = p.file.toNat := hn 9 (by rw [numN_length]; decide)
  have n10 : numAt (bytesP p) 10 = p.epoch.toNat := hn 10 (by rw [numN_length]; decide)
  have n11 : numAt (bytesP p) 11 = p.off.toNat := hn 11 (by rw [numN_length]; decide)
  have n12 : numAt (bytesP p) 12 = p.len.toNat := hn 12 (by rw [numN_length]; decide)
  have n13 : numAt (bytesP p) 13 = p.size.toNat := hn 13 (by rw [numN_length]; decide)
  have n14 : numAt (bytesP p) 14 = p.mode.toNat := hn 14 (by rw [numN_length]; decide)
  have n15 : numAt (bytesP p) 15 = p.deny.toNat := hn 15 (by rw [numN_length]; decide)
  have n16 : numAt (bytesP p) 16 = p.handle.toNat := hn 16 (by rw [numN_length]; decide)
  unfold pkOf
  rw [n0, n1, n2, n3, n4, n5, n6, n7, n8, n9, n10, n11, n12, n13, n14, n15, n16, a0, a1, a2, strOf_toList, strOf_toList, strOf_toList]
  obtain ⟨_, ⟨_, _⟩, ⟨_, _⟩, ⟨_, _⟩, hc, _, ⟨_, _⟩, _⟩ := hr
  have hc' : 0 ≤ p.code := by unfold knownP at hc; omega
  rw [toNat_eq (show 0 ≤ p.kind by omega), toNat_eq (show 0 ≤ p.frm by omega), toNat_eq (show 0 ≤ p.to by omega), toNat_eq (show 0 ≤ p.life by exact ho.life.1), toNat_eq (show 0 ≤ p.seq by exact ho.seq.1), toNat_eq (show 0 ≤ p.asked by exact ho.asked.1), toNat_eq (show 0 ≤ p.boot by exact ho.boot.1), toNat_eq (show 0 ≤ p.code by omega), toNat_eq (show 0 ≤ p.err by omega), toNat_eq (show 0 ≤ p.file by exact ho.file.1), toNat_eq (show 0 ≤ p.epoch by exact ho.epoch.1), toNat_eq (show 0 ≤ p.off by exact ho.off.1), toNat_eq (show 0 ≤ p.len by exact ho.len.1), toNat_eq (show 0 ≤ p.size by exact ho.size.1), toNat_eq (show 0 ≤ p.mode by exact ho.mode.1), toNat_eq (show 0 ≤ p.deny by exact ho.deny.1), toNat_eq (show 0 ≤ p.handle by exact ho.handle.1)]
theorem read_back (p : Pk) (ho : p.Ok) (hr : p.Right) : readE (bytesP p) = 0 ∧ readP (bytesP p) = p := by
  obtain ⟨_, _, h3, _⟩ := txs_back p ho hr
  have he : endE (bytesP p) = 0 := by unfold endE; rw [h3]; rfl
  have hp := pkOf_back p ho hr
  unfold readE readP
  rw [if_neg (show ¬ endE (bytesP p) ≠ 0 by omega), if_neg (show ¬ endE (bytesP p) ≠ 0 by omega), hp, if_pos hr, if_pos hr]
  exact ⟨rfl, rfl⟩

theorem bytesP_inj (p q : Pk) (h1 : p.Ok) (h2 : p.Right) (k1 : q.Ok) (k2 : q.Right) (h : bytesP p = bytesP q) : p = q := by
  have a := (read_back p h1 h2).2
  rw [h, (read_back q k1 k2).2] at a
  exact a.symm
theorem encT_four (l : List UInt8) : (encT l).length % 4 = 0 := by rw [encT_length]; unfold padN; omega
theorem bytesP_length (p : Pk) : (bytesP p).length % 4 = 0 ∧ 80 ≤ (bytesP p).length := by
  have a := encT_four p.path.data.toList
  have b := encT_four p.other.data.toList
  have c := encT_four p.data.data.toList
  have a' : 4 ≤ (encT p.path.data.toList).length := by rw [encT_length]; omega
  have b' : 4 ≤ (encT p.other.data.toList).length := by rw [encT_length]; omega
  have c' : 4 ≤ (encT p.data.data.toList).length := by rw [encT_length]; omega
  unfold bytesP
  simp only [List.length_append]
  rw [encNs_length, numN_length]
  omega
theorem padN_lt' (n : Nat) : padN n < 4 := by unfold padN; omega
theorem encT_most (l : List UInt8) (n : Nat) (h : l.length ≤ n) : (encT l).length ≤ n + 8 := by rw [encT_length]; have := padN_lt' l.length; omega
theorem bytesP_most (p : Pk) (h : p.Right) : (bytesP p).length ≤ 400 := by
  obtain ⟨⟨⟨s0, s1⟩, s2⟩, _⟩ := h
  have a := encT_most p.path.data.toList 64 (by rw [size_list]; exact s0)
  have b := encT_most p.other.data.toList 64 (by rw [size_list]; exact s1)
  have c := encT_most p.data.data.toList 128 (by rw [size_list]; exact s2)
  unfold bytesP
  simp only [List.length_append]
  rw [encNs_length, numN_length]
  omega

/-- What was read to its end without an error has just these bytes. -/
theorem txs_err (bs : List UInt8) (j : Nat) (h : (txs bs (j + 1)).2 = 0) : (txs bs j).2 = 0 ∧ encT (txtAt bs j) ++ (txs bs (j + 1)).1 = (txs bs j).1 := by
  have e : (txs bs j).2 = 0 := by
    refine Classical.byContradiction fun hn => hn ?_
    have := h
    rw [txs_succ, rText_err _ _ _ hn] at this
    exact this
  refine ⟨e, ?_⟩
  rw [txs_succ] at h ⊢
  unfold txtAt
  rw [e] at h ⊢
  exact (rText_one _ _ h).1
theorem rds_err (bs : List UInt8) (k : Nat) (h : (rds bs (k + 1)).2 = 0) : (rds bs k).2 = 0 ∧ be4 (numAt bs k) ++ (rds bs (k + 1)).1 = (rds bs k).1 := by
  have e : (rds bs k).2 = 0 := by
    refine Classical.byContradiction fun hn => hn ?_
    have := h
    rw [rds_succ, rNumber_err _ _ hn] at this
    exact this
  refine ⟨e, ?_⟩
  rw [rds_succ] at h ⊢
  unfold numAt
  rw [e] at h ⊢
  exact rNumber_one _ h
theorem rds_one (bs : List UInt8) (k : Nat) (h : (rds bs k).2 = 0) : encNs ((List.range k).map (numAt bs)) ++ (rds bs k).1 = bs := by
  induction k with
  | zero => simp [rds, encNs]
  | succ k ih =>
    obtain ⟨h0, h1⟩ := rds_err bs k h
    rw [List.range_succ, List.map_append, List.map_cons, List.map_nil, encNs_snoc, List.append_assoc, h1]
    exact ih h0
theorem bytesP_pkOf (bs : List UInt8) : bytesP (pkOf bs) = encNs ((List.range 17).map (numAt bs)) ++ (encT (txtAt bs 0) ++ (encT (txtAt bs 1) ++ encT (txtAt bs 2))) := by
  unfold bytesP numN numZ pkOf
  simp only [List.map_cons, List.map_nil, Int.toNat_natCast, strOf_list]
  rfl
theorem pkOf_one (bs : List UInt8) (h : endE bs = 0) : bytesP (pkOf bs) = bs := by
  unfold endE rEnd at h
  have h3 : (txs bs 3).2 = 0 := by
    refine Classical.byContradiction fun hn => ?_
    rw [if_pos hn] at h
    exact hn h
  rw [if_neg (by omega)] at h
  have hnil : (txs bs 3).1 = [] := by
    refine Classical.byContradiction fun hn => ?_
    rw [if_neg (by rw [List.length_eq_zero_iff]; exact hn)] at h
    cases h
  obtain ⟨h2, e2⟩ := txs_err bs 2 h3
  obtain ⟨h1, e1⟩ := txs_err bs 1 h2
  obtain ⟨h0, e0⟩ := txs_err bs 0 h1
  have en := rds_one bs 17 h0
  rw [hnil, List.append_nil] at e2
  rw [bytesP_pkOf, e2, e1, e0]
  exact en
theorem read_one (bs : List UInt8) (h : readE bs = 0) : (readP bs).Right ∧ bytesP (readP bs) = bs := by
  unfold readE at h
  by_cases he : endE bs = 0
  · rw [if_neg (by omega)] at h
    by_cases hr : (pkOf bs).Right
    · have : readP bs = pkOf bs := by unfold readP; rw [if_neg (by omega), if_pos hr]
      rw [this]
      exact ⟨hr, pkOf_one bs he⟩
    · rw [if_neg hr] at h; cases h
  · rw [if_pos he] at h; exact absurd h he
theorem read_no (bs : List UInt8) (h : readE bs ≠ 0) : readP bs = zPk := by
  unfold readE at h
  unfold readP
  by_cases he : endE bs ≠ 0
  · rw [if_pos he]
  · rw [if_neg he] at h ⊢
    by_cases hr : (pkOf bs).Right
    · rw [if_pos hr] at h; exact absurd rfl h
    · rw [if_neg hr]

end Go.Proofs.Ytjnbajpckohnnaa
