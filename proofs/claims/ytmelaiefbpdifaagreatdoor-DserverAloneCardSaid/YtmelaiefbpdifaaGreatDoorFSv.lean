/- A data server as plain functions of its rows, its loose objects and its seats. -/
import Derived.Test.YtmelaiefbpdifaaGreatDoorFIe
import Derived.Test.YtmelaiefbpdifaaGreatDoorFFn1
import Derived.Test.YtmelaiefbpdifaaGreatDoorFJb
namespace Go.Proofs.YtmelaiefbpdifaaGreatDoor.Srv
open Go.RowKit Go.Maps
open Pgs (Pg keyB headB find allZ chgL ldL ldOk Holds cutL bytesL okBytes okPut okCut)
def freshN (M : List Rw) (x : Nat) (o : List Pg) : Nat := (o.filter fun p => (getR M (keyB x p.n.toNat)).isNone).length
def sureL (M : List Rw) (x : Nat) : List Pg := ldL (underL M (headB x))
def epB (M : List Rw) (x : Nat) : Bool := (getR M (eK x)).isSome
def epN (M : List Rw) (x : Nat) : Nat := numOf ((getR M (eK x)).getD [])
def cur (M : List Rw) (x : Nat) (e : Int) : Bool := epB M x && ((epN M x : Int) == e)
def lookL (L : List (Nat × List Pg)) (x : Nat) : Option (List Pg) := (L.find? fun q => q.1 == x).map Prod.snd
def delLo (L : List (Nat × List Pg)) (x : Nat) : List (Nat × List Pg) := L.filter fun q => !(q.1 == x)
def putLo (L : List (Nat × List Pg)) (x : Nat) (o : List Pg) : List (Nat × List Pg) := (x, o) :: delLo L x
def Uniq (L : List (Nat × List Pg)) : Prop := L.Pairwise fun a b => a.1 ≠ b.1
theorem look_none {L : List (Nat × List Pg)} {x : Nat} : lookL L x = none ↔ ∀ q ∈ L, q.1 ≠ x := by
 unfold lookL
 rw [Option.map_eq_none_iff, List.find?_eq_none]
 simp
theorem look_some {L : List (Nat × List Pg)} {x : Nat} {o : List Pg} (h : lookL L x = some o) : (x, o) ∈ L := by
 unfold lookL at h
 rw [Option.map_eq_some_iff] at h
 obtain ⟨⟨y, p⟩, h1, h2⟩ := h
 have h3 := List.find?_some h1
 have h4 := List.mem_of_find?_eq_some h1
 simp only [beq_iff_eq] at h3
 simp only at h2
 rw [← h3, ← h2]
 exact h4
theorem look_mem {L : List (Nat × List Pg)} (hu : Uniq L) {x : Nat} {o : List Pg} (h : (x, o) ∈ L) : lookL L x = some o := by
 induction L with
 | nil => cases h
 | cons q r ih =>
  obtain ⟨h1, h2⟩ := List.pairwise_cons.1 hu
  unfold lookL
  rw [List.find?_cons]
  rcases List.mem_cons.1 h with h | h
  ·rw [← h]
   simp
  ·have := h1 _ h
   have hq : (q.1 == x) = false := by simpa using this
   rw [hq]
   exact ih h2 h
theorem look_del_same (L : List (Nat × List Pg)) (x : Nat) : lookL (delLo L x) x = none := look_none.2 fun q hq => by
 have := (List.mem_filter.1 hq).2
 simpa using this
theorem look_del_other {x y : Nat} (h : y ≠ x) : ∀ (L : List (Nat × List Pg)), lookL (delLo L x) y = lookL L y
 | [] => rfl
 | q :: r => by
  have ih := look_del_other h r
  unfold lookL delLo at ih ⊢
  rw [List.filter_cons]
  by_cases hq : q.1 = x
  ·have hy : (q.1 == y) = false := by rw [hq]; simpa using h.symm
   have hx : (!(q.1 == x)) = false := by simp [hq]
   rw [hx, List.find?_cons, hy]
   simpa using ih
  ·have hx : (!(q.1 == x)) = true := by simpa using hq
   rw [hx]
   simp only [if_true, List.find?_cons]
   cases hy : q.1 == y
   ·exact ih
   ·rfl
theorem look_put_same (L : List (Nat × List Pg)) (x : Nat) (o : List Pg) : lookL (putLo L x o) x = some o := by
 unfold lookL putLo
 rw [List.find?_cons]
 simp
theorem look_put_other {x y : Nat} (h : y ≠ x) (L : List (Nat × List Pg)) (o : List Pg) : lookL (putLo L x o) y = lookL L y := by
 have e := look_del_other h L
 unfold putLo
 unfold lookL at e ⊢
 have hx : (x == y) = false := by simpa using h.symm
 rw [List.find?_cons, hx]
 exact e
theorem uniq_nil : Uniq [] := List.Pairwise.nil
theorem Uniq.del {L : List (Nat × List Pg)} (h : Uniq L) (x : Nat) : Uniq (delLo L x) := h.filter _
theorem Uniq.put {L : List (Nat × List Pg)} (h : Uniq L) (x : Nat) (o : List Pg) : Uniq (putLo L x o) :=
 List.pairwise_cons.2 ⟨fun q hq => by
  have := (List.mem_filter.1 hq).2
  have h2 : q.1 ≠ x := by simpa using this
  exact fun e => h2 e.symm, h.del x⟩
theorem mem_del {L : List (Nat × List Pg)} {x : Nat} {q : Nat × List Pg} (h : q ∈ delLo L x) : q ∈ L := (List.mem_filter.1 h).1
theorem mem_put {L : List (Nat × List Pg)} {x : Nat} {o : List Pg} {q : Nat × List Pg} (h : q ∈ putLo L x o) : q = (x, o) ∨ q ∈ L := by
 rcases List.mem_cons.1 h with h | h
 ·exact .inl h
 ·exact .inr (mem_del h)
theorem len_del (L : List (Nat × List Pg)) (x : Nat) : (delLo L x).length ≤ L.length := List.length_filter_le _ _
theorem len_put (L : List (Nat × List Pg)) (x : Nat) (o : List Pg) : (putLo L x o).length ≤ L.length + 1 := Nat.succ_le_succ (len_del L x)
structure Sv where
 N : Nat
 me : Int
 boot : Int
 up : Bool
 M : List Rw
 L : List (Nat × List Pg)
 seat : Nat → Sat
def sumF (M : List Rw) (L : List (Nat × List Pg)) : Nat := (L.map fun q => freshN M q.1 q.2).sum
def objL (σ : Sv) (x : Nat) : List Pg := (lookL σ.L x).getD (sureL σ.M x)
def roomI (σ : Sv) : Int := (σ.N : Int) - (σ.M.length : Int) - 40 + ((underL σ.M [69]).length : Int) - (sumF σ.M σ.L : Int)
structure Sv.Ok (σ : Sv) (c : Nat) : Prop where
 good : Good σ.N σ.M
 few : σ.N ≤ 983
 uniq : Uniq σ.L
 loose : ∀ q ∈ σ.L, Pgs.right q.2 = true ∧ q.1 < 4294967296
 len : σ.L.length ≤ c
 seat : ∀ k, (σ.seat k).Ok ∧ (σ.seat k).reply.size ≤ 400
 me : 1 ≤ σ.me ∧ σ.me ≤ 255
 boot : U σ.boot
abbrev Com := List Rw → List Ch → Int → List Rw → Prop
def setCh (M : List Rw) (x : Nat) (o : List Pg) (ch : List Ch) : List Ch := chgL x (sureL M x) o ++ ch
def Settled (C : Com) (σ : Sv) (x : Nat) (o : List Pg) (ch : List Ch) (e : Int) (σ' : Sv) : Prop :=
 ∃ M', C σ.M (setCh σ.M x o ch) e M' ∧ σ' = { σ with M := M', L := if e = 0 then delLo σ.L x else σ.L }
def wasO (σ : Sv) (p : Pk) : List Pg := objL σ p.file.toNat
def nowO (σ : Sv) (p : Pk) : List Pg := Pgs.putL (wasO σ p) p.off p.data.data.toList
def moreI (σ : Sv) (p : Pk) : Int := (freshN σ.M p.file.toNat (nowO σ p) : Int) - (freshN σ.M p.file.toNat (wasO σ p) : Int)
def wrE (σ : Sv) (p : Pk) : Int :=
 if cur σ.M p.file.toNat p.epoch = false then 17 else if 1024 < p.off + (p.data.size : Int) then 15 else if 0 < moreI σ p ∧ roomI σ < moreI σ p then 6 else 0
def wrS (σ : Sv) (p : Pk) : Sv := if wrE σ p = 0 then { σ with L := putLo σ.L p.file.toNat (nowO σ p) } else σ
def rdE (σ : Sv) (p : Pk) : Int :=
 if cur σ.M p.file.toNat p.epoch = false then 17 else if 1024 < p.off + p.len ∨ 128 < p.len then 15 else 0
def rdD (σ : Sv) (p : Pk) : List UInt8 := if rdE σ p = 0 then bytesL (wasO σ p) p.off p.len else []
def feCh (p : Pk) : List Ch := [⟨eK p.file.toNat, be4 p.epoch.toNat, false⟩]
def frCh (p : Pk) : List Ch := [⟨eK p.file.toNat, [], true⟩]
def Did (C : Com) (σ : Sv) (p : Pk) (d : List UInt8) (e : Int) (σ' : Sv) : Prop :=
 if p.code = 1 then d = [] ∧ e = wrE σ p ∧ σ' = wrS σ p
 else if p.code = 2 then d = rdD σ p ∧ e = rdE σ p ∧ σ' = σ
 else if p.code = 3 then d = [] ∧ if cur σ.M p.file.toNat p.epoch = false then e = 17 ∧ σ' = σ else Settled C σ p.file.toNat (wasO σ p) [] e σ'
 else if p.code = 4 then d = [] ∧ if p.frm ≠ 0 then e = 1 ∧ σ' = σ else if p.epoch < (epN σ.M p.file.toNat : Int) ∨ p.epoch = 0 then e = 17 ∧ σ' = σ else if (epN σ.M p.file.toNat : Int) = p.epoch then e = 0 ∧ σ' = σ else Settled C σ p.file.toNat (cutL (wasO σ p) (min p.size 1024)) (feCh p) e σ'
 else d = [] ∧ if p.frm ≠ 0 then e = 1 ∧ σ' = σ else Settled C σ p.file.toNat [] (frCh p) e σ'
def takes (σ : Sv) (p : Pk) : Prop := p.Right ∧ p.kind = 1 ∧ p.dst = σ.me ∧ 1 ≤ p.code ∧ p.code ≤ 5
def replyP (σ : Sv) (p : Pk) (d : List UInt8) (e : Int) : Pk :=
 ⟨2, σ.me, p.frm, p.life, p.seq, p.asked, σ.boot, p.code, e, p.file, 0, 0, 0, 0, 0, 0, 0, ⟨#[]⟩, ⟨#[]⟩, strOf d⟩
def setSeat (σ : Sv) (k : Nat) (s : Sat) : Sv := { σ with seat := fun j => if j = k then s else σ.seat j }
def Executed (C : Com) (σ : Sv) (p : Pk) (r : Pk) (ok : Bool) (σ' : Sv) : Prop :=
 ∃ d e σ1, Did C σ p d e σ1 ∧
  ((e = 5 ∧ r = zPk ∧ ok = false ∧ σ' = { σ1 with up := false }) ∨
   (e ≠ 5 ∧ r = replyP σ p d e ∧ ok = true ∧ σ' = setSeat σ1 p.frm.toNat (doneL (σ.seat p.frm.toNat) p.life p.seq (writeS (replyP σ p d e)))))
def judgeP (σ : Sv) (p : Pk) : Int := judgeL (σ.seat p.frm.toNat) p.life p.seq
def Handled (C : Com) (σ : Sv) (p : Pk) (r : Pk) (ok : Bool) (σ' : Sv) : Prop :=
 (¬ (σ.up = true ∧ takes σ p) ∧ r = zPk ∧ ok = false ∧ σ' = σ) ∨
 ((σ.up = true ∧ takes σ p) ∧ p.asked ≠ σ.boot ∧ r = replyP σ p [] 18 ∧ ok = true ∧ σ' = σ) ∨
 ((σ.up = true ∧ takes σ p) ∧ p.asked = σ.boot ∧ judgeP σ p = 1 ∧ Executed C σ p r ok σ') ∨
 ((σ.up = true ∧ takes σ p) ∧ p.asked = σ.boot ∧ judgeP σ p = 2 ∧ r = readP (σ.seat p.frm.toNat).reply.data.toList ∧ ok = decide (readE (σ.seat p.frm.toNat).reply.data.toList = 0) ∧ σ' = σ) ∨
 ((σ.up = true ∧ takes σ p) ∧ p.asked = σ.boot ∧ (judgeP σ p = 3 ∨ judgeP σ p = 4) ∧ r = zPk ∧ ok = false ∧ σ' = σ)
end Go.Proofs.YtmelaiefbpdifaaGreatDoor.Srv
