/- What acts keep (of no memory); a boxed lock and three growing lists of numbers of the call's own, all apart. -/
import Derived.Test.YtnmmdnecojgccaaAlive12
namespace Go.Proofs.Ytnmmdnecojgccaa
open Go.RowKit
set_option linter.unusedVariables false

/-- What was granted. -/
structure Gr where
  client : Int
  mode : Int
  epoch : Int
/-- What holds behind all acts. -/
structure Inv (L : Lk) (G : List Gr) : Prop where
  right : RightP L
  range : 0 ≤ L.epoch ∧ L.epoch ≤ 4294967295
  top : ∀ g ∈ G, g.epoch ≤ L.epoch
  mode : ∀ g ∈ G, g.epoch = L.epoch → 1 ≤ g.mode ∧ g.mode ≤ L.used
  one : L.used = 2 → ∃ c0, (∀ g ∈ G, g.epoch = L.epoch → g.client = c0) ∧ ∀ h ∈ L.hs, h.client = c0
  fine : ∀ g ∈ G, ∀ g' ∈ G, g.epoch = g'.epoch → g.mode = 2 → g.client = g'.client
theorem Inv.start (x : Int) : Inv ⟨x, 1, 0, 0, false, false, []⟩ [] := ⟨RightP.empty (by decide) (by decide), by simp, by simp, by simp, by simp, by simp⟩
theorem Inv.less {L N : Lk} {G : List Gr} (h : Inv L G) (r : RightP N) (e : N.epoch = L.epoch) (u : N.used = L.used) (s : ∀ x ∈ N.hs, x ∈ L.hs) : Inv N G := by
  refine ⟨r, by rw [e]; exact h.range, by rw [e]; exact h.top, by rw [e, u]; exact h.mode, fun h2 => ?_, h.fine⟩
  rw [u] at h2
  obtain ⟨c0, h3, h4⟩ := h.one h2
  exact ⟨c0, by rw [e]; exact h3, fun x hx => h4 x (s x hx)⟩
theorem Inv.turn {L : Lk} {G : List Gr} (h : Inv L G) : Inv (turnL L) G := by
  have hr := h.right.turn
  unfold turnL at hr ⊢
  split
  · exact h
  · rename_i hn
    rw [if_neg hn] at hr
    have hg := h.range
    refine ⟨hr, by simp only; omega, fun g hg => by have := h.top g hg; simp only; omega, fun g hg he => by have := h.top g hg; simp only at he; omega, fun h2 => by simp only at h2; omega, h.fine⟩
theorem RightP.mode_le {L : Lk} (h : RightP L) {x : Hol} (hx : x ∈ L.hs) : 1 ≤ x.mode ∧ x.mode ≤ L.used ∧ x.mode ≤ 2 := by
  have := h.ok x hx
  unfold okH at this
  omega
theorem Inv.ask {L : Lk} {G : List Gr} (h : Inv L G) {c m : Int} (hm : m = 1 ∨ m = 2) : Inv (askL L c m).1 (if (askL L c m).2.1 = 1 then G ++ [⟨c, m, (askL L c m).1.epoch⟩] else G) := by
  have hrm : RightP L ∧ (m = 1 ∨ m = 2) := ⟨h.right, hm⟩
  have hra := h.right.ask (c := c) hm
  by_cases h1 : L.gone = true
  · rw [ask_gone hrm h1, if_neg (by simp)]
    exact h
  have h1' : L.gone = false := by simpa using h1
  by_cases h2 : othersL L.hs c m = []
  rotate_left
  · rw [ask_conf hrm h1' h2, if_neg (by simp)]
    exact h
  by_cases h3 : m ≤ modeH L.hs c
  · rw [ask_has hrm h1' h2 h3, if_pos rfl]
    -- a holder asks again
    obtain ⟨x, hx⟩ : ∃ x, findC L.hs c = some x := by
      cases hc : findC L.hs c with
      | none => rw [modeH_none hc] at h3; omega
      | some x => exact ⟨x, rfl⟩
    rw [modeH_some hx] at h3
    obtain ⟨hxm, hxc⟩ := findC_some hx
    have hml := h.right.mode_le hxm
    have hu := h.right.used
    have hcl : ∀ c0, (∀ y ∈ L.hs, y.client = c0) → c = c0 := fun c0 hh => by rw [← hxc]; exact hh x hxm
    refine ⟨h.right, h.range, fun g hg => ?_, fun g hg he => ?_, fun hu2 => ?_, fun g hg g' hg' he hg2 => ?_⟩
    · rw [List.mem_append, List.mem_singleton] at hg
      rcases hg with hg | rfl
      · exact h.top g hg
      · exact Int.le_refl _
    · rw [List.mem_append, List.mem_singleton] at hg
      rcases hg with hg | rfl
      · exact h.mode g hg he
      · simp only; omega
    · obtain ⟨c0, h4, h5⟩ := h.one hu2
      refine ⟨c0, fun g hg he => ?_, h5⟩
      rw [List.mem_append, List.mem_singleton] at hg
      rcases hg with hg | rfl
      · exact h4 g hg he
      · exact hcl c0 h5
    · rw [List.mem_append, List.mem_singleton] at hg hg'
      rcases hg with hg | rfl <;> rcases hg' with hg' | rfl
      · exact h.fine g hg g' hg' he hg2
      · have := h.mode g hg he
        obtain ⟨c0, h4, h5⟩ := h.one (by omega)
        rw [h4 g hg he]
        exact (hcl c0 h5).symm
      · simp only at hg2 he
        obtain ⟨c0, h4, h5⟩ := h.one (by omega)
        rw [h4 g' hg' he.symm]
        exact hcl c0 h5
      · rfl
  have hw : Inv (withL L (withoutH L.hs c)) G := h.less (h.right.sub (without_sub _ _)) rfl rfl (fun x hx => (without_sub _ _).subset hx)
  rw [ask_join hrm h1' h2 h3] at hra ⊢
  simp only at hra ⊢
  have hno : findC (withL L (withoutH L.hs c)).hs c = none := without_no
  have hoth : othersL (withL L (withoutH L.hs c)).hs c m = [] := others_sub (without_sub _ _) h2
  generalize withL L (withoutH L.hs c) = K at *
  unfold joinL at hra ⊢
  split
  · rw [if_neg (by simp)]; exact hw
  rename_i hf
  rw [if_neg hf] at hra
  split
  · rw [if_neg (by simp)]; exact hw.turn
  rename_i hj
  rw [if_neg hj] at hra
  split
  · rw [if_neg (by simp)]; exact hw
  rename_i h4
  rw [if_neg h4] at hra
  rw [Classical.not_not] at hj
  rw [if_pos rfl]
  simp only at hra ⊢
  have hu := hw.right.used
  by_cases hu0 : K.used = 0
  · -- nobody was granted anything in this epoch
    have hold : ∀ g ∈ G, g.epoch ≠ K.epoch := fun g hg he => by have := hw.mode g hg he; omega
    have hemp : ∀ y ∈ K.hs, False := fun y hy => by have := hw.right.mode_le hy; omega
    have hmx : maxI K.used m = m := by unfold maxI; rw [if_pos (by omega)]
    refine ⟨hra, hw.range, fun g hg => ?_, fun g hg he => ?_, fun hu2 => ⟨c, fun g hg he => ?_, fun y hy => ?_⟩, fun g hg g' hg' he hg2 => ?_⟩
    · rw [List.mem_append, List.mem_singleton] at hg
      rcases hg with hg | rfl
      · exact hw.top g hg
      · exact Int.le_refl _
    · rw [List.mem_append, List.mem_singleton] at hg
      rcases hg with hg | rfl
      · exact absurd he (hold g hg)
      · simp only [hmx]; omega
    · rw [List.mem_append, List.mem_singleton] at hg
      rcases hg with hg | rfl
      · exact absurd he (hold g hg)
      · rfl
    · rw [ins_mem] at hy
      rcases hy with rfl | hy
      · rfl
      · exact (hemp y hy).elim
    · rw [List.mem_append, List.mem_singleton] at hg hg'
      rcases hg with hg | rfl <;> rcases hg' with hg' | rfl
      · exact hw.fine g hg g' hg' he hg2
      · exact absurd he (hold g hg)
      · exact absurd he.symm (hold g' hg')
      · rfl
  · -- a reader among readers
    have hm1 : m = 1 ∧ K.used ≠ 2 := by unfold mayJ at hj; omega
    have hmx : maxI K.used m ≤ 1 ∧ 1 ≤ maxI K.used m ∧ K.used ≤ maxI K.used m := by unfold maxI; split <;> omega
    refine ⟨hra, hw.range, fun g hg => ?_, fun g hg he => ?_, fun hu2 => by simp only at hu2; omega, fun g hg g' hg' he hg2 => ?_⟩
    · rw [List.mem_append, List.mem_singleton] at hg
      rcases hg with hg | rfl
      · exact hw.top g hg
      · exact Int.le_refl _
    · rw [List.mem_append, List.mem_singleton] at hg
      rcases hg with hg | rfl
      · have := hw.mode g hg he; simp only; omega
      · simp only; omega
    · rw [List.mem_append, List.mem_singleton] at hg hg'
      rcases hg with hg | rfl <;> rcases hg' with hg' | rfl
      · exact hw.fine g hg g' hg' he hg2
      · have := hw.mode g hg he; omega
      · simp only at hg2; omega
      · rfl
/-- Epochs never fall, and what objects are cut at never rises. -/
structure Goes (L N : Lk) : Prop where
  epoch : L.epoch ≤ N.epoch
  cut : N.cut ≤ L.cut
theorem Goes.refl (L : Lk) : Goes L L := ⟨Int.le_refl _, Int.le_refl _⟩
theorem turn_goes (L : Lk) : Goes L (turnL L) := by unfold turnL; split; exact Goes.refl L; exact ⟨by simp only; omega, Int.le_refl _⟩
theorem ask_goes {L : Lk} {c m : Int} (h : RightP L) (hm : m = 1 ∨ m = 2) : Goes L (askL L c m).1 := by
  have hrm : RightP L ∧ (m = 1 ∨ m = 2) := ⟨h, hm⟩
  by_cases h1 : L.gone = true
  · rw [ask_gone hrm h1]; exact Goes.refl L
  have h1' : L.gone = false := by simpa using h1
  by_cases h2 : othersL L.hs c m = []
  rotate_left
  · rw [ask_conf hrm h1' h2]; exact Goes.refl L
  by_cases h3 : m ≤ modeH L.hs c
  · rw [ask_has hrm h1' h2 h3]; exact Goes.refl L
  rw [ask_join hrm h1' h2 h3]
  have hw : Goes L (withL L (withoutH L.hs c)) := ⟨Int.le_refl _, Int.le_refl _⟩
  simp only
  generalize withL L (withoutH L.hs c) = K at *
  unfold joinL
  split
  · exact hw
  split
  · have := turn_goes K; exact ⟨Int.le_trans hw.epoch this.epoch, Int.le_trans this.cut hw.cut⟩
  split
  · exact hw
  · exact ⟨hw.epoch, hw.cut⟩
theorem return_ok {L : Lk} {c : Int} (h : RightP L) : returnL L c L.epoch = (withL L (withoutH L.hs c), 0) := by unfold returnL; rw [if_neg (fun k => k h), if_pos rfl]
theorem revoke_ok {L : Lk} (h : RightP L) : revokeL L = (turnL L, 0) := by unfold revokeL; rw [if_neg (fun k => k h)]
def setL (L : Lk) (s : Int) : Lk := if L.fenced = false then ⟨L.file, L.epoch, L.used, s, true, L.gone, L.hs⟩ else L
theorem settle_ok {L : Lk} {s : Int} (h : RightP L) (hs : s ≤ 1024) : settleL L L.epoch s = (setL L s, 0) := by
  unfold settleL setL
  rw [if_neg (fun k => k ⟨h, hs⟩)]
  by_cases hf : L.fenced = false
  · rw [if_pos ⟨hf, rfl⟩, if_pos hf]
  · rw [if_neg (fun k => hf k.1), if_neg hf]
theorem Inv.set {L : Lk} {G : List Gr} (h : Inv L G) {s : Int} (hs : s ≤ 1024) : Inv (setL L s) G := by
  unfold setL
  split
  · refine h.less ⟨h.right.used, hs, h.right.len, fun h0 => ⟨rfl, (h.right.may h0).2⟩, h.right.ok, h.right.rise⟩ rfl rfl (fun x hx => hx)
  · exact h
theorem set_epoch (L : Lk) (s : Int) : (setL L s).epoch = L.epoch := by unfold setL; split <;> rfl
def cutL (L : Lk) (s : Int) : Lk := ⟨L.file, L.epoch, L.used, minI L.cut s, L.fenced, L.gone, L.hs⟩
theorem shrink_ok {L : Lk} {s : Int} (h : RightP L) : shrinkL L s = (cutL L s, 0) := by unfold shrinkL; rw [if_neg (fun k => k h)]; rfl
theorem cut_goes (L : Lk) (s : Int) : Goes L (cutL L s) := ⟨Int.le_refl _, by simp only [cutL, minI]; split <;> omega⟩
theorem Inv.cut {L : Lk} {G : List Gr} (h : Inv L G) (s : Int) : Inv (cutL L s) G :=
  h.less ⟨h.right.used, by have h1 := (cut_goes L s).cut; have h2 := h.right.cut; exact Int.le_trans h1 h2, h.right.len, h.right.may, h.right.ok, h.right.rise⟩ rfl rfl (fun x hx => hx)

/-- Two locks' boxes, laid. -/
theorem two_lk (w : World) (f ep u ct : Int) (fe go : Bool) (l : List Hol) (v : Value) :
    Only [] w ((w.alloc (.cells #[.int .u32 f, .int .u32 ep, .int .u32 u, .int .u32 ct, .bool fe, .bool go, v] 25)).alloc (.cells #[.int .u32 f, .int .u32 ep, .int .u32 u, .int .u32 ct, .bool fe, .bool go, v] 25)) ∧
      Lx ((w.alloc (.cells #[.int .u32 f, .int .u32 ep, .int .u32 u, .int .u32 ct, .bool fe, .bool go, v] 25)).alloc (.cells #[.int .u32 f, .int .u32 ep, .int .u32 u, .int .u32 ct, .bool fe, .bool go, v] 25)) w.heap.size ⟨f, ep, u, ct, fe, go, l⟩ v ∧
      Lx ((w.alloc (.cells #[.int .u32 f, .int .u32 ep, .int .u32 u, .int .u32 ct, .bool fe, .bool go, v] 25)).alloc (.cells #[.int .u32 f, .int .u32 ep, .int .u32 u, .int .u32 ct, .bool fe, .bool go, v] 25)) (w.heap.size + 1) ⟨f, ep, u, ct, fe, go, l⟩ v ∧
      ((w.alloc (.cells #[.int .u32 f, .int .u32 ep, .int .u32 u, .int .u32 ct, .bool fe, .bool go, v] 25)).alloc (.cells #[.int .u32 f, .int .u32 ep, .int .u32 u, .int .u32 ct, .bool fe, .bool go, v] 25)).heap.size = w.heap.size + 2 := by
  have hz : (w.alloc (.cells #[.int .u32 f, .int .u32 ep, .int .u32 u, .int .u32 ct, .bool fe, .bool go, v] 25)).heap.size = w.heap.size + 1 := by simp
  have bz := Lx.new (w.alloc (.cells #[.int .u32 f, .int .u32 ep, .int .u32 u, .int .u32 ct, .bool fe, .bool go, v] 25)) f ep u ct fe go l v
  rw [hz] at bz
  exact ⟨((Only.refl [] w).alloc _).alloc _, (Lx.new w f ep u ct fe go l v).alloc _, bz, by simp⟩
/-- Three growing lists of the call's own, apart from one another, from the box gl and from the holders' list at A. -/
structure Own3 (w wr : World) (gl : Nat) (A : Option Addr) (va vb vc : Value) (a b c : List Int) : Prop where
  only : Only [] w wr
  a : wr.ownsRow 0 22 1 va a.length (encs nuE a)
  b : wr.ownsRow 0 22 1 vb b.length (encs nuE b)
  c : wr.ownsRow 0 22 1 vc c.length (encs nuE c)
  na : ∀ g, va.ownBlock = some g → w.heap.size ≤ g ∧ g ≠ gl ∧ ∀ x, A = some x → x.block ≠ g
  nb : ∀ g, vb.ownBlock = some g → w.heap.size ≤ g ∧ g ≠ gl ∧ ∀ x, A = some x → x.block ≠ g
  nc : ∀ g, vc.ownBlock = some g → w.heap.size ≤ g ∧ g ≠ gl ∧ ∀ x, A = some x → x.block ≠ g
  ab : ∀ g, va.ownBlock = some g → vb.ownBlock ≠ some g
  bc : ∀ g, vb.ownBlock = some g → vc.ownBlock ≠ some g
  ca : ∀ g, vc.ownBlock = some g → va.ownBlock ≠ some g
section
variable {w wr w2 : World} {gl : Nat} {A B : Option Addr} {va vb vc v' : Value} {a b c : List Int}
theorem Own3.start (k : Only [] w wr) : Own3 w wr gl A (.slice none 0 0) (.slice none 0 0) (.slice none 0 0) [] [] [] := by
  have h0 : wr.ownsRow 0 22 1 (.slice none 0 0) 0 (encs nuE []) := ⟨by simp [encs], .inl ⟨rfl, rfl⟩⟩
  have h1 : ∀ g, (Value.slice none 0 0).ownBlock = some g → False := fun g hg => by simp [Value.ownBlock] at hg
  exact ⟨k, h0, h0, h0, fun g hg => (h1 g hg).elim, fun g hg => (h1 g hg).elim, fun g hg => (h1 g hg).elim, fun g hg => (h1 g hg).elim, fun g hg => (h1 g hg).elim, fun g hg => (h1 g hg).elim⟩
theorem Own3.rot (h : Own3 w wr gl A va vb vc a b c) : Own3 w wr gl A vb vc va b c a := ⟨h.only, h.b, h.c, h.a, h.nb, h.nc, h.na, h.bc, h.ca, h.ab⟩
theorem Own3.keep (h : Own3 w wr gl A va vb vc a b c) (k : Only [] wr w2) : Own3 w w2 gl A va vb vc a b c :=
  ⟨h.only.trans k, ownsRow_kept' h.a k (by simp), ownsRow_kept' h.b k (by simp), ownsRow_kept' h.c k (by simp), h.na, h.nb, h.nc, h.ab, h.bc, h.ca⟩
/-- The box is written to. -/
theorem Own3.box (h : Own3 w wr gl A va vb vc a b c) (k : Only [gl] wr w2) (hg : w.heap.size ≤ gl) : Own3 w w2 gl A va vb vc a b c :=
  ⟨h.only.far k hg, ownsRow_kept' h.a k (fun g e => by simpa using (h.na g e).2.1), ownsRow_kept' h.b k (fun g e => by simpa using (h.nb g e).2.1), ownsRow_kept' h.c k (fun g e => by simpa using (h.nc g e).2.1), h.na, h.nb, h.nc, h.ab, h.bc, h.ca⟩
theorem Own3.lt (h : Own3 w wr gl A va vb vc a b c) : (∀ g, va.ownBlock = some g → g < wr.heap.size) ∧ (∀ g, vb.ownBlock = some g → g < wr.heap.size) ∧ (∀ g, vc.ownBlock = some g → g < wr.heap.size) :=
  ⟨fun g e => (h.a.lt g e).2, fun g e => (h.b.lt g e).2, fun g e => (h.c.lt g e).2⟩
/-- A block that is none of theirs is written to. -/
theorem Own3.fresh (h : Own3 w wr gl A va vb vc a b c) {q : Nat} (k : Only [q] wr w2) (hq : w.heap.size ≤ q) (h1 : ∀ g, va.ownBlock = some g → g ≠ q) (h2 : ∀ g, vb.ownBlock = some g → g ≠ q) (h3 : ∀ g, vc.ownBlock = some g → g ≠ q) : Own3 w w2 gl A va vb vc a b c :=
  ⟨h.only.far k hq, ownsRow_kept' h.a k (fun g e => by simpa using h1 g e), ownsRow_kept' h.b k (fun g e => by simpa using h2 g e), ownsRow_kept' h.c k (fun g e => by simpa using h3 g e), h.na, h.nb, h.nc, h.ab, h.bc, h.ca⟩
/-- Another holders' list, made later. -/
theorem Own3.other (h : Own3 w wr gl A va vb vc a b c) (h2 : Own3 w w2 gl A va vb vc a b c) (hB : ∀ x, B = some x → wr.heap.size ≤ x.block) : Own3 w w2 gl B va vb vc a b c := by
  obtain ⟨l1, l2, l3⟩ := h.lt
  exact ⟨h2.only, h2.a, h2.b, h2.c, fun g e => ⟨(h.na g e).1, (h.na g e).2.1, fun x hx => by have := hB x hx; have := l1 g e; omega⟩, fun g e => ⟨(h.nb g e).1, (h.nb g e).2.1, fun x hx => by have := hB x hx; have := l2 g e; omega⟩, fun g e => ⟨(h.nc g e).1, (h.nc g e).2.1, fun x hx => by have := hB x hx; have := l3 g e; omega⟩, h.ab, h.bc, h.ca⟩
theorem Own3.push (h : Own3 w wr gl A va vb vc a b c) {x : Int} (h1 : w2.ownsRow 0 22 1 v' (a.length + 1) (encs nuE (a ++ [x]))) (h2 : wr.grownBy w2 va.ownBlock) (h3 : v'.ownBlock = va.ownBlock ∨ v'.ownBlock = some wr.heap.size) (hgl : gl < wr.heap.size) (hA : ∀ x, A = some x → x.block < wr.heap.size) : Own3 w w2 gl A v' vb vc (a ++ [x]) b c := by
  obtain ⟨l1, l2, l3⟩ := h.lt
  have k := only_own h2
  have hw := h.only.size
  refine ⟨h.only.then k (fun i hi => .inr (h.na i (by simpa using hi)).1), by rw [List.length_append]; exact h1, ownsRow_kept' h.b k (fun g e => fun hm => h.ab g (by simpa using hm) e), ownsRow_kept' h.c k (fun g e => fun hm => h.ca g e (by simpa using hm)), fun g e => ?_, h.nb, h.nc, fun g e e' => ?_, h.bc, fun g e e' => ?_⟩
  · rcases h3 with h3 | h3
    · exact h.na g (by rw [← h3]; exact e)
    · rw [h3] at e
      injection e with e
      subst e
      exact ⟨hw, by omega, fun x hx => by have := hA x hx; omega⟩
  · rcases h3 with h3 | h3
    · exact h.ab g (by rw [← h3]; exact e) e'
    · rw [h3] at e
      injection e with e
      have := l2 g e'
      omega
  · rcases h3 with h3 | h3
    · exact h.ca g e (by rw [← h3]; exact e')
    · rw [h3] at e'
      injection e' with e'
      have := l3 g e
      omega
theorem Own3.beside (h : Own3 w wr gl A va vb vc a b c) (h2 : wr.grownBy w2 va.ownBlock) {q : Nat} {t : TypeId} {cs : Array Value} (hb : Blk wr q t cs) (hq : ∀ g, va.ownBlock = some g → g ≠ q) : Blk w2 q t cs :=
  hb.kept (only_own h2) (fun hm => hq q (by simpa using hm) rfl)
/-- What else lies there when a list has grown. -/
theorem Own3.pushed (h : Own3 w wr gl A va vb vc a b c) (h2 : wr.grownBy w2 va.ownBlock) : (∀ L v, Lx wr gl L v → Lx w2 gl L v) ∧ (∀ l, Els holE 2 wr A l → Els holE 2 w2 A l) ∧ ∀ x : Nat, w.heap.size > x → w2.heap[x]? = wr.heap[x]? := by
  have k := only_own h2
  refine ⟨fun L v hl => hl.kept k (fun hm => (h.na gl (by simpa using hm)).2.1 rfl), fun l hl => hl.kept k (fun x hx hm => (h.na x.block (by simpa using hm)).2.2 x hx rfl), fun x hx => ?_⟩
  have h1 := h.only.size
  exact k.block x (by omega) (fun hm => by have := (h.na x (by simpa using hm)).1; omega)
end
end Go.Proofs.Ytnmmdnecojgccaa
