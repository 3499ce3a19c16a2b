/- LaneOnce: what holds of a run (pure), and what of it lies in memory. -/
import Derived.Test.YtjogdilkdnnhnaaOpen8
namespace Go.Proofs.Ytjogdilkdnnhnaa
open Go.RowKit

/-- A request or an answer under way. -/
structure Snt where
  seq : Int
  reply : ByteArray

/-- The reply of request q. -/
def ans (q : Int) : ByteArray := strOf [UInt8.ofNat q.toNat, 0]

structure Inv (life : Int) (i : Nat) (ln : Ln) (st : Sat) (A B : List Snt) (D : List Int) (heard : Int) : Prop where
  lif : ln.life = life
  boot : ln.boot = 3
  n0 : 0 ≤ ln.seq
  ni : ln.seq ≤ i
  left : I ln.left
  gap : I ln.gap
  fit : (ln.out = false ∧ (D.length : Int) = ln.seq ∧ heard = ln.seq) ∨ (ln.out = true ∧ 1 ≤ ln.seq ∧ (D.length : Int) ≤ ln.seq ∧ ln.seq ≤ D.length + 1 ∧ heard = ln.seq - 1)
  done : ∀ j (h : j < D.length), D[j] = (j : Int) + 1
  seat : (D.length = 0 ∧ st = ⟨0, 0, ⟨#[]⟩⟩) ∨ (0 < D.length ∧ st = ⟨life, D.length, ans D.length⟩)
  asks : ∀ x ∈ A, 1 ≤ x.seq ∧ x.seq ≤ ln.seq
  answers : ∀ x ∈ B, 1 ≤ x.seq ∧ x.seq ≤ D.length ∧ x.reply = ans x.seq
  la : A.length ≤ i
  lb : B.length ≤ i

section
variable {life : Int} {i : Nat} {ln : Ln} {st : Sat} {A B : List Snt} {D : List Int} {heard : Int}
theorem Inv.start (life : Int) : Inv life 0 ⟨life, 3, 0, false, ⟨#[]⟩, 0, 0⟩ ⟨0, 0, ⟨#[]⟩⟩ [] [] [] 0 :=
  ⟨rfl, rfl, by simp, by simp, ⟨by simp, by simp⟩, ⟨by simp, by simp⟩, .inl ⟨rfl, rfl, rfl⟩, fun j h => by simp at h, .inl ⟨rfl, rfl⟩, by simp, by simp, by simp, by simp⟩
theorem Inv.stay (h : Inv life i ln st A B D heard) : Inv life (i + 1) ln st A B D heard :=
  ⟨h.lif, h.boot, h.n0, by have := h.ni; omega, h.left, h.gap, h.fit, h.done, h.seat, h.asks, h.answers, by have := h.la; omega, by have := h.lb; omega⟩
theorem Inv.ld (h : Inv life i ln st A B D heard) : (D.length : Int) ≤ ln.seq := by rcases h.fit with ⟨_, h, _⟩ | ⟨_, _, h, _⟩ <;> omega
theorem Inv.heards (h : Inv life i ln st A B D heard) : 0 ≤ heard ∧ heard ≤ D.length := by
  have := h.n0
  rcases h.fit with ⟨_, h, _⟩ | ⟨_, _, h, _, _⟩ <;> omega
theorem Inv.okL (h : Inv life i ln st A B D heard) (hl : U life) (hi : i ≤ 200) : ln.Ok :=
  ⟨by rw [h.lif]; exact hl, by rw [h.boot]; exact ⟨by simp, by simp⟩, ⟨h.n0, by have := h.ni; omega⟩, h.left, h.gap⟩
theorem Inv.okS (h : Inv life i ln st A B D heard) (hl : U life) (hi : i ≤ 200) : st.Ok := by
  have h1 := h.ld
  have h2 := h.ni
  rcases h.seat with ⟨_, rfl⟩ | ⟨_, rfl⟩
  · exact ⟨⟨by simp, by simp⟩, ⟨by simp, by simp⟩⟩
  · exact ⟨hl, ⟨by simp only []; omega, by simp only []; omega⟩⟩

theorem Inv.ask (h : Inv life i ln st A B D heard) (ho : ln.out = false) (b : ByteArray) :
    Inv life (i + 1) ⟨life, 3, ln.seq + 1, true, b, 1, 1⟩ st (A ++ [⟨ln.seq + 1, ⟨#[]⟩⟩]) B D heard := by
  have h1 := h.n0
  have h2 := h.ni
  have h3 := h.la
  have h4 := h.lb
  refine ⟨rfl, rfl, by simp only []; omega, by simp only []; omega, ⟨by simp, by simp⟩, ⟨by simp, by simp⟩, .inr ?_, h.done, h.seat, ?_, h.answers, by simp; omega, by omega⟩
  · rcases h.fit with ⟨_, h5, h6⟩ | ⟨h5, _⟩
    · exact ⟨rfl, by simp only []; omega, by simp only []; omega, by simp only []; omega, by simp only []; omega⟩
    · rw [ho] at h5; simp at h5
  · intro x hx
    simp only [List.mem_append, List.mem_singleton] at hx
    rcases hx with hx | rfl
    · have := h.asks x hx
      simp only []; omega
    · simp only []; omega

theorem askL_new (h : Inv life i ln st A B D heard) (ho : ln.out = false) (hi : i ≤ 200) (b : ByteArray) : askL ln b = ⟨life, 3, ln.seq + 1, true, b, 1, 1⟩ ∧ askE ln = 0 := by
  have h2 := h.ni
  unfold askL askE
  rw [if_neg (by simp [ho]), if_neg (by omega), if_neg (by simp [ho]), if_neg (by omega), h.lif, h.boot]
  exact ⟨rfl, rfl⟩
theorem askL_out (ho : ln.out = true) (b : ByteArray) : askL ln b = ⟨0, 0, 0, false, ⟨#[]⟩, 0, 0⟩ ∧ askE ln = 21 := by
  unfold askL askE
  rw [if_pos ho, if_pos ho]
  exact ⟨rfl, rfl⟩

theorem Inv.tick (h : Inv life i ln st A B D heard) :
    Inv life (i + 1) (tickL ln) st (if tickB ln = true then A ++ [⟨(tickL ln).seq, ⟨#[]⟩⟩] else A) B D heard := by
  have h2 := h.ni
  have h3 := h.la
  have h4 := h.lb
  have hl := h.left
  have hg := h.gap
  unfold I at hl hg
  obtain ⟨x0, x1, x2, x3, x4, x5, x6⟩ := ln
  simp only at hl hg h2
  rcases x3 with _ | _
  · rw [show tickL ⟨x0, x1, x2, false, x4, x5, x6⟩ = ⟨x0, x1, x2, false, x4, x5, x6⟩ from rfl, show tickB ⟨x0, x1, x2, false, x4, x5, x6⟩ = false from rfl, if_neg (by simp)]
    exact h.stay
  · have hb : 1 ≤ gapL x6 ∧ gapL x6 ≤ 8 := by unfold gapL; repeat' split <;> omega
    have hf := h.fit
    simp only [Bool.true_eq_false, false_and, false_or, true_and] at hf
    by_cases h1 : 1 < x5
    · have e1 : tickL ⟨x0, x1, x2, true, x4, x5, x6⟩ = ⟨x0, x1, x2, true, x4, x5 - 1, x6⟩ := by simp [tickL, h1]
      have e2 : tickB ⟨x0, x1, x2, true, x4, x5, x6⟩ = false := by simp [tickB, h1]
      rw [e1, e2, if_neg (by simp)]
      exact ⟨h.lif, h.boot, h.n0, by simp only []; omega, ⟨by simp only []; omega, by simp only []; omega⟩, h.gap, .inr ⟨rfl, hf⟩, h.done, h.seat, h.asks, h.answers, by omega, by omega⟩
    · have e1 : tickL ⟨x0, x1, x2, true, x4, x5, x6⟩ = ⟨x0, x1, x2, true, x4, gapL x6, gapL x6⟩ := by simp [tickL, h1]
      have e2 : tickB ⟨x0, x1, x2, true, x4, x5, x6⟩ = true := by simp [tickB, h1]
      rw [e1, e2, if_pos rfl]
      refine ⟨h.lif, h.boot, h.n0, by simp only []; omega, ⟨by simp only []; omega, by simp only []; omega⟩, ⟨by simp only []; omega, by simp only []; omega⟩, .inr ⟨rfl, hf⟩, h.done, h.seat, ?_, h.answers, by simp; omega, by omega⟩
      intro x hx
      simp only [List.mem_append, List.mem_singleton] at hx
      rcases hx with hx | rfl
      · exact h.asks x hx
      · simp only []; omega

/-- A request that arrives. -/
theorem Inv.judge (h : Inv life i ln st A B D heard) (l1 : 1 ≤ life) {x : Snt} (hx : x ∈ A) :
    (x.seq = D.length + 1 ∧ judgeL st life x.seq = 1) ∨ (x.seq = D.length ∧ judgeL st life x.seq = 2 ∧ st = ⟨life, D.length, ans D.length⟩) ∨ (x.seq < D.length ∧ judgeL st life x.seq = 3) := by
  obtain ⟨x1, x2⟩ := h.asks x hx
  have hle : x.seq ≤ D.length + 1 := by rcases h.fit with ⟨_, h, _⟩ | ⟨_, _, _, h, _⟩ <;> omega
  rcases h.seat with ⟨h0, rfl⟩ | ⟨h0, rfl⟩
  · have : x.seq = 1 := by omega
    refine .inl ⟨by omega, ?_⟩
    rw [judgeL, if_neg (by simp only []; omega), if_pos (by simp only []; omega), if_pos this]
  · by_cases h1 : x.seq = D.length + 1
    · refine .inl ⟨h1, ?_⟩
      rw [judgeL, if_neg (by simp only []; omega), if_neg (by simp), if_neg (by simp only []; omega), if_pos (by simp only []; omega)]
    · by_cases h2 : x.seq = D.length
      · refine .inr (.inl ⟨h2, ?_, rfl⟩)
        rw [judgeL, if_neg (by simp only []; omega), if_neg (by simp), if_pos (by simp only []; omega)]
      · refine .inr (.inr ⟨by omega, ?_⟩)
        rw [judgeL, if_neg (by simp only []; omega), if_neg (by simp), if_neg (by simp only []; omega), if_neg (by simp only []; omega), if_pos (by simp only []; omega)]

theorem Inv.new (h : Inv life i ln st A B D heard) {x : Snt} (hx : x ∈ A) (hq : x.seq = D.length + 1) :
    Inv life (i + 1) ln ⟨life, x.seq, ans x.seq⟩ A (B ++ [⟨x.seq, ans x.seq⟩]) (D ++ [x.seq]) heard := by
  obtain ⟨x1, x2⟩ := h.asks x hx
  have h2 := h.ni
  have h3 := h.la
  have h4 := h.lb
  refine ⟨h.lif, h.boot, h.n0, by omega, h.left, h.gap, .inr ?_, ?_, .inr ?_, h.asks, ?_, by omega, by simp; omega⟩
  · rcases h.fit with ⟨_, h, _⟩ | ⟨h5, h6, h7, h8, h9⟩
    · omega
    · exact ⟨h5, h6, by simp; omega, by simp; omega, h9⟩
  · intro j hj
    by_cases h1 : j < D.length
    · rw [List.getElem_append_left h1]
      exact h.done j h1
    · have : j = D.length := by simp at hj; omega
      subst this
      simp [hq]
  · refine ⟨by simp, ?_⟩
    simp [hq]
  · intro y hy
    simp only [List.mem_append, List.mem_singleton] at hy
    rcases hy with hy | rfl
    · obtain ⟨y1, y2, y3⟩ := h.answers y hy
      exact ⟨y1, by simp; omega, y3⟩
    · exact ⟨x1, by simp; omega, rfl⟩

theorem Inv.again (h : Inv life i ln st A B D heard) {x : Snt} (hx : x ∈ A) (hq : x.seq = D.length) : Inv life (i + 1) ln st A (B ++ [⟨x.seq, ans x.seq⟩]) D heard := by
  obtain ⟨x1, x2⟩ := h.asks x hx
  have h2 := h.ni
  have h3 := h.la
  have h4 := h.lb
  refine ⟨h.lif, h.boot, h.n0, by omega, h.left, h.gap, h.fit, h.done, h.seat, h.asks, ?_, by omega, by simp; omega⟩
  intro y hy
  simp only [List.mem_append, List.mem_singleton] at hy
  rcases hy with hy | rfl
  · exact h.answers y hy
  · exact ⟨x1, by simp only []; omega, rfl⟩

/-- An answer that arrives. -/
theorem Inv.hear (h : Inv life i ln st A B D heard) {y : Snt} (hy : y ∈ B) (ho : ln.out = true) (hq : y.seq = ln.seq) :
    Inv life (i + 1) ⟨life, 3, ln.seq, false, ⟨#[]⟩, 0, 0⟩ st A B D (heard + 1) ∧ hearL ln life 3 3 y.seq = ⟨life, 3, ln.seq, false, ⟨#[]⟩, 0, 0⟩ ∧ hearK ln life 3 3 y.seq = 1 ∧ y.reply = ans ln.seq := by
  obtain ⟨y1, y2, y3⟩ := h.answers y hy
  have h2 := h.ni
  have h3 := h.la
  have h4 := h.lb
  have hh : hears ln life 3 y.seq := ⟨ho, h.lif.symm, h.boot.symm, hq⟩
  refine ⟨⟨rfl, rfl, h.n0, by simp only []; omega, ⟨by simp, by simp⟩, ⟨by simp, by simp⟩, .inl ?_, h.done, h.seat, h.asks, h.answers, by omega, by omega⟩, ?_, ?_, by rw [y3, hq]⟩
  · rcases h.fit with ⟨h5, _⟩ | ⟨h5, h6, h7, h8, h9⟩
    · rw [ho] at h5; simp at h5
    · exact ⟨rfl, by simp only []; omega, by simp only []; omega⟩
  · rw [hearL, if_pos hh, if_pos rfl, h.lif, h.boot]
  · rw [hearK, if_pos hh, if_pos rfl]
theorem hear_not {y : Snt} (hq : ln.out = false ∨ y.seq ≠ ln.seq) : hearL ln life 3 3 y.seq = ln ∧ hearK ln life 3 3 y.seq = 0 := by
  have hh : ¬ hears ln life 3 y.seq := fun ⟨h1, _, _, h4⟩ => by
    rcases hq with h | h
    · rw [h] at h1; simp at h1
    · exact h h4
  rw [hearL, hearK, if_neg hh, if_neg hh]
  exact ⟨rfl, rfl⟩
end

/-- The place of one of n things that a number names. -/
theorem idx_ok (num : Int) (n : Nat) (h : 0 < n) (h1 : n ≤ 200) : ∃ j : Nat, j < n ∧ IntKind.u64.wrap (n : Int) = n ∧ wrap64 ((IntKind.u64.wrap num).tmod (n : Int)) = (j : Int) ∧ (n : Int) ≠ 0 := by
  have x0 : 0 ≤ IntKind.u64.wrap num := by rw [IntKind.wrap_u64]; omega
  have e0 := Int.emod_nonneg (IntKind.u64.wrap num) (show (n : Int) ≠ 0 by omega)
  have e1 := Int.emod_lt_of_pos (IntKind.u64.wrap num) (show (0 : Int) < n by omega)
  refine ⟨((IntKind.u64.wrap num) % (n : Int)).toNat, by omega, by rw [IntKind.wrap_u64]; omega, ?_, by omega⟩
  rw [Int.tmod_eq_emod_of_nonneg x0, Int.toNat_of_nonneg e0]
  generalize IntKind.u64.wrap num % (n : Int) = z at *
  unfold wrap64
  omega

def sntE (x : Snt) : List Value := [.int .u32 x.seq, .string x.reply]
def numE (x : Int) : List Value := [.int .u32 x]
theorem sntE_length (x : Snt) : (sntE x).length = 2 := rfl
theorem numE_length (x : Int) : (numE x).length = 1 := rfl
theorem sntE_one (x : Snt) : ∀ v ∈ sntE x, v.oneCell' = true := by
  intro v hv
  simp [sntE] at hv
  rcases hv with rfl | rfl <;> rfl
theorem numE_one (x : Int) : ∀ v ∈ numE x, v.oneCell' = true := by
  intro v hv
  simp [numE] at hv
  rcases hv with rfl
  rfl
theorem info_snt : (Try.prog.info? 47).map (fun i => (i.zero, i.size, i.bytes)) = some (some (.agg #[.int .u32 0, .string ⟨#[]⟩]), 2, 24) := by kernel_rfl
theorem info_num : (Try.prog.info? 22).map (fun i => (i.zero, i.size, i.bytes)) = some (some (.int .u32 0), 1, 4) := by kernel_rfl

theorem own_shape {α : Type} {enc : α → List Value} {k : Nat} {e : TypeId} {w : World} {v : Value} {l : List α} (hk : ∀ x, (enc x).length = k) (h : w.ownsRow 0 e k v l.length (encs enc l)) : ∃ A c, v = .slice A l.length c ∧ Els enc k w A l := by
  rcases id h.2 with ⟨rfl, h0⟩ | ⟨g, cap, cur, rfl, hb, hg, hn, r⟩
  · have hl : l = [] := List.eq_nil_of_length_eq_zero h0
    subst hl
    exact ⟨none, 0, rfl, .inl rfl⟩
  · refine ⟨_, _, rfl, ?_⟩
    by_cases h0 : l = []
    · exact .inl h0
    · refine .inr ⟨g, 0, rfl, (h.lt g rfl).2, fun i hi j u hu => ?_⟩
      have q := h.cells rfl _ _ (encs_at hk l i hi j u hu)
      rw [addr_add, Nat.zero_add] at q
      rw [Nat.zero_add]
      exact q

/-- The reply of a request, made of two bytes. -/
theorem ans_run (w : World) (q : Int) (h0 : 0 ≤ q) (h1 : q ≤ 200) :
    (convert 49 9 (.slice (some ⟨w.heap.size, 0, none⟩) 2 2)).run Try.prog (w.alloc (.cells #[.int .u8 q, .int .u8 (q / 256)] 5)) = .ok (.string (ans q)) (w.alloc (.cells #[.int .u8 q, .int .u8 (q / 256)] 5)) := by
  have e : ((UInt8.ofNat q.toNat).toNat : Int) = q := by rw [UInt8.toNat_ofNat']; omega
  have e2 : q / 256 = 0 := by omega
  refine run_convert_bytes_back (P := Try.prog) _ 49 9 5 ⟨w.heap.size, 0, none⟩ 2 [UInt8.ofNat q.toNat, 0] Try.underlying49 Try.underlying5 Try.underlying9 (fun j hj => ?_)
  have b := Blk.new w 5 #[.int .u8 q, .int .u8 (q / 256)]
  rw [addr_add, Nat.zero_add, b.cell, e2]
  match j, hj with
  | 0, _ => simp only [List.getElem_cons_zero, e]; rfl
  | 1, _ => rfl

/-- A run in memory: the line at gl, the seat at gs, three lists of the call's own. -/
structure St8 (w0 w : World) (gl gs : Nat) (ln : Ln) (st : Sat) (vA vB vD : Value) (A B : List Snt) (D : List Int) : Prop where
  only : Only [] w0 w
  ll : w0.heap.size ≤ gl
  ls : w0.heap.size ≤ gs
  ne : gl ≠ gs
  line : Blk w gl 30 #[.int .u32 ln.life, .int .u32 ln.boot, .int .u32 ln.seq, .bool ln.out, .string ln.body, .int .i64 ln.left, .int .i64 ln.gap]
  seat : Blk w gs 24 #[.int .u32 st.life, .int .u32 st.seq, .string st.reply]
  a : w.ownsRow 0 47 2 vA A.length (encs sntE A)
  b : w.ownsRow 0 47 2 vB B.length (encs sntE B)
  d : w.ownsRow 0 22 1 vD D.length (encs numE D)
  na : ∀ g, vA.ownBlock = some g → w0.heap.size ≤ g ∧ g ≠ gl ∧ g ≠ gs
  nb : ∀ g, vB.ownBlock = some g → w0.heap.size ≤ g ∧ g ≠ gl ∧ g ≠ gs
  nd : ∀ g, vD.ownBlock = some g → w0.heap.size ≤ g ∧ g ≠ gl ∧ g ≠ gs
  ab : ∀ g, vA.ownBlock = some g → vB.ownBlock ≠ some g
  ad : ∀ g, vA.ownBlock = some g → vD.ownBlock ≠ some g
  bd : ∀ g, vB.ownBlock = some g → vD.ownBlock ≠ some g

section
variable {w0 w w' : World} {gl gs : Nat} {ln : Ln} {st : Sat} {vA vB vD : Value} {A B : List Snt} {D : List Int}
theorem St8.keep (h : St8 w0 w gl gs ln st vA vB vD A B D) (k : Only [] w w') : St8 w0 w' gl gs ln st vA vB vD A B D :=
  ⟨h.only.trans k, h.ll, h.ls, h.ne, h.line.kept k (by simp), h.seat.kept k (by simp), ownsRow_kept' h.a k (by simp), ownsRow_kept' h.b k (by simp), ownsRow_kept' h.d k (by simp), h.na, h.nb, h.nd, h.ab, h.ad, h.bd⟩

theorem St8.start (w : World) (life : Int) : St8 w ((w.alloc (.cells #[.int .u32 life, .int .u32 3, .int .u32 0, .bool false, .string ⟨#[]⟩, .int .i64 0, .int .i64 0] 30)).alloc (.cells #[.int .u32 0, .int .u32 0, .string ⟨#[]⟩] 24))
    w.heap.size (w.heap.size + 1) ⟨life, 3, 0, false, ⟨#[]⟩, 0, 0⟩ ⟨0, 0, ⟨#[]⟩⟩ (.slice none 0 0) (.slice none 0 0) (.slice none 0 0) [] [] [] :=
  ⟨((Only.refl [] w).alloc _).alloc _, Nat.le_refl _, Nat.le_add_right _ _, by omega, (Blk.new w _ _).alloc _, by
      have := Blk.new (w.alloc (.cells #[.int .u32 life, .int .u32 3, .int .u32 0, .bool false, .string ⟨#[]⟩, .int .i64 0, .int .i64 0] 30)) 24 #[.int .u32 0, .int .u32 0, .string ⟨#[]⟩]
      simpa using this, World.ownsRow_nil _ 0 _ 2, World.ownsRow_nil _ 0 _ 2, World.ownsRow_nil _ 0 _ 1, by simp [Value.ownBlock], by simp [Value.ownBlock], by simp [Value.ownBlock], by simp [Value.ownBlock], by simp [Value.ownBlock], by simp [Value.ownBlock]⟩

theorem Acts.get {A : Option Addr} {l : List (Int × Int)} (h : Acts w A l) {i : Nat} (hi : i < l.length) : ∃ g o, A = some ⟨g, o, none⟩ ∧ w.cell? ⟨g, o + i * 2, none⟩ = some (.int .i64 l[i].1) ∧ w.cell? ⟨g, o + i * 2 + 1, none⟩ = some (.int .i64 l[i].2) := by
  rcases h with rfl | ⟨g, o, hA, _, hc⟩
  · simp at hi
  · exact ⟨g, o, hA, hc i hi⟩

theorem St8.setLine (h : St8 w0 w gl gs ln st vA vB vD A B D) (m : Ln) :
    St8 w0 (((((((w.setCell ⟨gl, 0, none⟩ (.int .u32 m.life)).setCell ⟨gl, 1, none⟩ (.int .u32 m.boot)).setCell ⟨gl, 2, none⟩ (.int .u32 m.seq)).setCell ⟨gl, 3, none⟩ (.bool m.out)).setCell ⟨gl, 4, none⟩ (.string m.body)).setCell ⟨gl, 5, none⟩ (.int .i64 m.left)).setCell ⟨gl, 6, none⟩ (.int .i64 m.gap))
      gl gs m st vA vB vD A B D := by
  have k : Only [gl] w _ := (Only.refl [gl] w).store7 (g := gl) (a := .int .u32 m.life) (b := .int .u32 m.boot) (c := .int .u32 m.seq) (d := .bool m.out) (e := .string m.body) (f := .int .i64 m.left) (i := .int .i64 m.gap) (.inl (by simp))
  exact ⟨h.only.store7 (.inr h.ll), h.ll, h.ls, h.ne, h.line.store7, h.seat.kept k (by simpa using fun e => h.ne e.symm), ownsRow_kept' h.a k (fun g hg => by simpa using (h.na g hg).2.1), ownsRow_kept' h.b k (fun g hg => by simpa using (h.nb g hg).2.1), ownsRow_kept' h.d k (fun g hg => by simpa using (h.nd g hg).2.1), h.na, h.nb, h.nd, h.ab, h.ad, h.bd⟩

theorem St8.setSeat (h : St8 w0 w gl gs ln st vA vB vD A B D) (m : Sat) :
    St8 w0 (((w.setCell ⟨gs, 0, none⟩ (.int .u32 m.life)).setCell ⟨gs, 1, none⟩ (.int .u32 m.seq)).setCell ⟨gs, 2, none⟩ (.string m.reply)) gl gs ln m vA vB vD A B D := by
  have k : Only [gs] w _ := (Only.refl [gs] w).store3 (g := gs) (a := .int .u32 m.life) (b := .int .u32 m.seq) (c := .string m.reply) (.inl (by simp))
  exact ⟨h.only.store3 (.inr h.ls), h.ll, h.ls, h.ne, h.line.kept k (by simpa using h.ne), h.seat.store3, ownsRow_kept' h.a k (fun g hg => by simpa using (h.na g hg).2.2), ownsRow_kept' h.b k (fun g hg => by simpa using (h.nb g hg).2.2), ownsRow_kept' h.d k (fun g hg => by simpa using (h.nd g hg).2.2), h.na, h.nb, h.nd, h.ab, h.ad, h.bd⟩

theorem grown_apart {v v' u : Value} {e : TypeId} {k n : Nat} {xs : List Value} (hu : w.ownsRow 0 e k u n xs) (a6 : v'.ownBlock = v.ownBlock ∨ v'.ownBlock = some w.heap.size) (h : ∀ g, v.ownBlock = some g → u.ownBlock ≠ some g) :
    ∀ g, v'.ownBlock = some g → u.ownBlock ≠ some g := by
  intro g hg he
  rcases a6 with h3 | h3
  · exact h g (by rw [← h3]; exact hg) he
  · rw [h3] at hg
    injection hg with hg
    have := (hu.lt g he).2
    omega
theorem grown_fresh {v v' : Value} (a6 : v'.ownBlock = v.ownBlock ∨ v'.ownBlock = some w.heap.size) (h : ∀ g, v.ownBlock = some g → w0.heap.size ≤ g ∧ g ≠ gl ∧ g ≠ gs) (h0 : w0.heap.size ≤ w.heap.size) (h1 : gl < w.heap.size) (h2 : gs < w.heap.size) :
    ∀ g, v'.ownBlock = some g → w0.heap.size ≤ g ∧ g ≠ gl ∧ g ≠ gs := by
  intro g hg
  rcases a6 with h3 | h3
  · exact h g (by rw [← h3]; exact hg)
  · rw [h3] at hg
    injection hg with hg
    omega

theorem St8.pushA (h : St8 w0 w gl gs ln st vA vB vD A B D) {x : Snt} {v' : Value} (h6 : w'.ownsRow 0 47 2 v' (A.length + 1) (encs sntE (A ++ [x]))) (g6 : w.grownBy w' vA.ownBlock) (a6 : v'.ownBlock = vA.ownBlock ∨ v'.ownBlock = some w.heap.size) :
    St8 w0 w' gl gs ln st v' vB vD (A ++ [x]) B D := by
  have k := only_own g6
  refine ⟨h.only.grown g6 (fun j hj => .inr (h.na j hj).1), h.ll, h.ls, h.ne, h.line.kept k (by simpa using fun e => (h.na gl e).2.1 rfl), h.seat.kept k (by simpa using fun e => (h.na gs e).2.2 rfl), by rw [List.length_append]; exact h6,
    ownsRow_kept' h.b k (fun g hg => by simpa using fun e => h.ab g e hg), ownsRow_kept' h.d k (fun g hg => by simpa using fun e => h.ad g e hg), grown_fresh a6 h.na h.only.size h.line.lt h.seat.lt, h.nb, h.nd, grown_apart h.b a6 h.ab, grown_apart h.d a6 h.ad, h.bd⟩
theorem St8.pushB (h : St8 w0 w gl gs ln st vA vB vD A B D) {x : Snt} {v' : Value} (h6 : w'.ownsRow 0 47 2 v' (B.length + 1) (encs sntE (B ++ [x]))) (g6 : w.grownBy w' vB.ownBlock) (a6 : v'.ownBlock = vB.ownBlock ∨ v'.ownBlock = some w.heap.size) :
    St8 w0 w' gl gs ln st vA v' vD A (B ++ [x]) D := by
  have k := only_own g6
  have ba : ∀ g, vB.ownBlock = some g → vA.ownBlock ≠ some g := fun g hg e => h.ab g e hg
  refine ⟨h.only.grown g6 (fun j hj => .inr (h.nb j hj).1), h.ll, h.ls, h.ne, h.line.kept k (by simpa using fun e => (h.nb gl e).2.1 rfl), h.seat.kept k (by simpa using fun e => (h.nb gs e).2.2 rfl), ownsRow_kept' h.a k (fun g hg => by simpa using fun e => h.ab g hg e), by rw [List.length_append]; exact h6,
    ownsRow_kept' h.d k (fun g hg => by simpa using fun e => h.bd g e hg), h.na, grown_fresh a6 h.nb h.only.size h.line.lt h.seat.lt, h.nd, fun g hg e => grown_apart h.a a6 ba g e hg, h.ad, grown_apart h.d a6 h.bd⟩
theorem St8.pushD (h : St8 w0 w gl gs ln st vA vB vD A B D) {x : Int} {v' : Value} (h6 : w'.ownsRow 0 22 1 v' (D.length + 1) (encs numE (D ++ [x]))) (g6 : w.grownBy w' vD.ownBlock) (a6 : v'.ownBlock = vD.ownBlock ∨ v'.ownBlock = some w.heap.size) :
    St8 w0 w' gl gs ln st vA vB v' A B (D ++ [x]) := by
  have k := only_own g6
  have da : ∀ g, vD.ownBlock = some g → vA.ownBlock ≠ some g := fun g hg e => h.ad g e hg
  have db : ∀ g, vD.ownBlock = some g → vB.ownBlock ≠ some g := fun g hg e => h.bd g e hg
  refine ⟨h.only.grown g6 (fun j hj => .inr (h.nd j hj).1), h.ll, h.ls, h.ne, h.line.kept k (by simpa using fun e => (h.nd gl e).2.1 rfl), h.seat.kept k (by simpa using fun e => (h.nd gs e).2.2 rfl), ownsRow_kept' h.a k (fun g hg => by simpa using fun e => h.ad g hg e), ownsRow_kept' h.b k (fun g hg => by simpa using fun e => h.bd g hg e),
    by rw [List.length_append]; exact h6, h.na, h.nb, grown_fresh a6 h.nd h.only.size h.line.lt h.seat.lt, h.ab, fun g hg e => grown_apart h.a a6 da g e hg, fun g hg e => grown_apart h.b a6 db g e hg⟩

theorem Snt.at_ {g o : Nat} {l : List Snt} (h : ElsAt sntE 2 w g o l) {i : Nat} (hi : i < l.length) : w.cell? ⟨g, o + i * 2, none⟩ = some (.int .u32 l[i].seq) ∧ w.cell? ⟨g, o + i * 2 + 1, none⟩ = some (.string l[i].reply) :=
  ⟨by simpa using h i hi 0 _ rfl, h i hi 1 _ rfl⟩
end

end Go.Proofs.Ytjogdilkdnnhnaa
