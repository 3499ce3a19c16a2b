/- Package lane as plain functions on whole numbers: seats, lines, what each call makes of them. -/
import Derived.Test.YtjogdilkdnnhnaaMine
namespace Go.Proofs.Ytjogdilkdnnhnaa

/-- A number of 32 bits. -/
def U (x : Int) : Prop := 0 ≤ x ∧ x ≤ 4294967295
/-- A number of 64 bits. -/
def I (x : Int) : Prop := -9223372036854775808 ≤ x ∧ x ≤ 9223372036854775807

structure Sat where
  life : Int
  seq : Int
  reply : ByteArray
structure Ln where
  life : Int
  boot : Int
  seq : Int
  out : Bool
  body : ByteArray
  left : Int
  gap : Int

abbrev satV (s : Sat) : Value := .agg #[.int .u32 s.life, .int .u32 s.seq, .string s.reply]
abbrev lnV (l : Ln) : Value := .agg #[.int .u32 l.life, .int .u32 l.boot, .int .u32 l.seq, .bool l.out, .string l.body, .int .i64 l.left, .int .i64 l.gap]

structure Sat.Ok (s : Sat) : Prop where
  life : U s.life
  seq : U s.seq
structure Ln.Ok (l : Ln) : Prop where
  life : U l.life
  boot : U l.boot
  seq : U l.seq
  left : I l.left
  gap : I l.gap

/-- What a request is: 1 new, 2 again, 3 old, 4 early. -/
def judgeL (s : Sat) (life seq : Int) : Int :=
  if life < s.life ∨ life = 0 ∨ seq = 0 then 3 else if s.life < life then (if seq = 1 then 1 else 4) else
  if seq = s.seq then 2 else if seq = s.seq + 1 then 1 else if seq < s.seq then 3 else 4
def doneL (s : Sat) (life seq : Int) (reply : ByteArray) : Sat := if judgeL s life seq = 1 then ⟨life, seq, reply⟩ else s
def noLn : Ln := ⟨0, 0, 0, false, ⟨#[]⟩, 0, 0⟩
def askL (l : Ln) (body : ByteArray) : Ln := if l.out then noLn else if l.seq = 4294967295 then noLn else ⟨l.life, l.boot, l.seq + 1, true, body, 1, 1⟩
def askE (l : Ln) : Int := if l.out then 21 else if l.seq = 4294967295 then 16 else 0
def gapL (g : Int) : Int := if g < 1 then 2 else if 4 < g then 8 else 2 * g
def tickL (l : Ln) : Ln := if l.out = false then l else if 1 < l.left then { l with left := l.left - 1 } else { l with left := gapL l.gap, gap := gapL l.gap }
def tickB (l : Ln) : Bool := l.out && !decide (1 < l.left)
def hears (l : Ln) (life asked seq : Int) : Prop := l.out = true ∧ life = l.life ∧ asked = l.boot ∧ seq = l.seq
instance (l : Ln) (life asked seq : Int) : Decidable (hears l life asked seq) := by unfold hears; infer_instance
def hearL (l : Ln) (life boot asked seq : Int) : Ln :=
  if hears l life asked seq then (if boot = asked then ⟨l.life, l.boot, l.seq, false, ⟨#[]⟩, 0, 0⟩ else ⟨l.life, boot, 0, false, ⟨#[]⟩, 0, 0⟩) else l
def hearK (l : Ln) (life boot asked seq : Int) : Int := if hears l life asked seq then (if boot = asked then 1 else 2) else 0

theorem judge_ways (s : Sat) (li sq : Int) :
    (li < s.life ∧ judgeL s li sq = 3) ∨ (¬ li < s.life ∧ li = 0 ∧ judgeL s li sq = 3) ∨ (¬ li < s.life ∧ ¬ li = 0 ∧ sq = 0 ∧ judgeL s li sq = 3) ∨
    (¬ li < s.life ∧ ¬ li = 0 ∧ ¬ sq = 0 ∧ s.life < li ∧ sq = 1 ∧ judgeL s li sq = 1) ∨ (¬ li < s.life ∧ ¬ li = 0 ∧ ¬ sq = 0 ∧ s.life < li ∧ ¬ sq = 1 ∧ judgeL s li sq = 4) ∨
    (¬ li < s.life ∧ ¬ li = 0 ∧ ¬ sq = 0 ∧ ¬ s.life < li ∧ sq = s.seq ∧ judgeL s li sq = 2) ∨ (¬ li < s.life ∧ ¬ li = 0 ∧ ¬ sq = 0 ∧ ¬ s.life < li ∧ ¬ sq = s.seq ∧ sq = s.seq + 1 ∧ judgeL s li sq = 1) ∨
    (¬ li < s.life ∧ ¬ li = 0 ∧ ¬ sq = 0 ∧ ¬ s.life < li ∧ ¬ sq = s.seq ∧ ¬ sq = s.seq + 1 ∧ sq < s.seq ∧ judgeL s li sq = 3) ∨ (¬ li < s.life ∧ ¬ li = 0 ∧ ¬ sq = 0 ∧ ¬ s.life < li ∧ ¬ sq = s.seq ∧ ¬ sq = s.seq + 1 ∧ ¬ sq < s.seq ∧ judgeL s li sq = 4) := by
  unfold judgeL
  by_cases h1 : li < s.life
  · exact .inl ⟨h1, by rw [if_pos (.inl h1)]⟩
  by_cases h2 : li = 0
  · exact .inr (.inl ⟨h1, h2, by rw [if_pos (.inr (.inl h2))]⟩)
  by_cases h3 : sq = 0
  · exact .inr (.inr (.inl ⟨h1, h2, h3, by rw [if_pos (.inr (.inr h3))]⟩))
  have N : ¬ (li < s.life ∨ li = 0 ∨ sq = 0) := fun h => h.elim h1 (fun h => h.elim h2 h3)
  by_cases h4 : s.life < li
  · by_cases h5 : sq = 1
    · exact .inr (.inr (.inr (.inl ⟨h1, h2, h3, h4, h5, by rw [if_neg N, if_pos h4, if_pos h5]⟩)))
    · exact .inr (.inr (.inr (.inr (.inl ⟨h1, h2, h3, h4, h5, by rw [if_neg N, if_pos h4, if_neg h5]⟩))))
  by_cases h5 : sq = s.seq
  · exact .inr (.inr (.inr (.inr (.inr (.inl ⟨h1, h2, h3, h4, h5, by rw [if_neg N, if_neg h4, if_pos h5]⟩)))))
  by_cases h6 : sq = s.seq + 1
  · exact .inr (.inr (.inr (.inr (.inr (.inr (.inl ⟨h1, h2, h3, h4, h5, h6, by rw [if_neg N, if_neg h4, if_neg h5, if_pos h6]⟩))))))
  by_cases h7 : sq < s.seq
  · exact .inr (.inr (.inr (.inr (.inr (.inr (.inr (.inl ⟨h1, h2, h3, h4, h5, h6, h7, by rw [if_neg N, if_neg h4, if_neg h5, if_neg h6, if_pos h7]⟩)))))))
  · exact .inr (.inr (.inr (.inr (.inr (.inr (.inr (.inr (⟨h1, h2, h3, h4, h5, h6, h7, by rw [if_neg N, if_neg h4, if_neg h5, if_neg h6, if_neg h7]⟩))))))))

end Go.Proofs.Ytjogdilkdnnhnaa
