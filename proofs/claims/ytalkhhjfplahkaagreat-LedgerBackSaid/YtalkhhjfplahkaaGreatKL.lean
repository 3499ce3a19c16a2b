/- Joined: Mineh, Str10h, Op12, Rg12. -/
import Derived.Test.YtalkhhjfplahkaaGreatKRight11
import Derived.Laws.StructEq
import Derived.Deep.AppendLies
import Derived.Deep.Slices
import Derived.Deep.Fields
import Derived.ProofKit
import Derived.Lib.Hide
import Derived.Deep.RegionHeld3
import Derived.Laws.CopyRow
import Derived.StillTailTactics
import Derived.Test.YtalkhhjfplahkaaGreatChecked
import Derived.Test.YtalkhhjfplahkaaGreatKC
import Derived.Tactics
import Derived.Tactics2
import Derived.StillTactics
import Derived.RegionTactic
import Derived.WalkKit
import Derived.Deep.MidRow
import Derived.Deep.WholeRow
import Derived.WalkLawsBesides
import Derived.WalkSpells
import Derived.Outline
import Derived.Laws.Pointers
import Derived.Laws.Small
import Derived.Laws.Build
import Derived.Laws.Cover3
import Derived.KernelRfl
import Derived.BigQuiet
import Derived.BigRegion
import Derived.OwnWalk
import Derived.LoopTactic
import Derived.Laws.ResultCell
namespace Go.Proofs.YtalkhhjfplahkaaGreat
open Go.RowKit

section
variable {α : Type}
end

section
variable {α : Type}
variable {enc : α → List Value} {k : Nat} {w w' : World} {A : Option Addr} {l : List α}
variable {P : Program}
end

section
variable {α : Type} {enc : α → List Value} {k : Nat} {e : TypeId} {w w1 w2 : World} {v v' : Value} {l : List α}
end

end Go.Proofs.YtalkhhjfplahkaaGreat
namespace Go.Proofs.YtalkhhjfplahkaaGreat
set_option maxRecDepth 100000
open Go.RowKit Go.WideShapes Go.ChangeShapes Go.Deep

section
variable {H : Type} {enc : TypeId × Value → H} {P : Program} {w : World} {base : Nat} {spare : Nat → Bool} {held : Bool}

end

end Go.Proofs.YtalkhhjfplahkaaGreat
namespace Go.Proofs.YtalkhhjfplahkaaGreat
set_option maxRecDepth 100000
open Go.RowKit

def holE (x : Hol) : List Value := [.int .u32 x.client, .int .u32 x.mode]
def holV (x : Hol) : Value := .agg #[.int .u32 x.client, .int .u32 x.mode]
def holA (x : Hol) : Array Value := #[.int .u32 x.client, .int .u32 x.mode]
theorem holE_length (x : Hol) : (holE x).length = 2 := rfl
theorem holE_one (x : Hol) : ∀ v ∈ holE x, v.oneCell' = true := by
  intro v hv
  simp [holE] at hv
  rcases hv with rfl | rfl <;> rfl
theorem info_hol : (Tryz.prog.info? 91).map (fun i => (i.zero, i.size, i.bytes)) = some (some (.agg #[.int .u32 0, .int .u32 0]), 2, 8) := by kernel_rfl
theorem hols_at {w : World} {g o : Nat} {l : List Hol} (h : ElsAt holE 2 w g o l) {i : Nat} (hi : i < l.length) :
    w.cell? ⟨g, o + i * 2, none⟩ = some (.int .u32 l[i].client) ∧ w.cell? ⟨g, o + i * 2 + 1, none⟩ = some (.int .u32 l[i].mode) :=
  ⟨by simpa using h i hi 0 _ rfl, h i hi 1 _ rfl⟩
theorem size_hol : (Tryz.prog.info? 91).map (·.size) = some 2 := by kernel_rfl
theorem size_hol' : ∀ w, (Go.sizeOf 91).run Tryz.prog w = .ok 2 w := Tryz.sizeOf91

section
variable {P : Program} {ops : Array Oper} {rest : List Oper} {o : Oper} {a : Act} {w : World} {Q : Exit → Act → World → Prop}
end

/-- A boxed holder. -/
abbrev Bxh (w : World) (g : Nat) (x : Hol) : Prop := Blk w g 91 (holA x)
theorem Bxh.cells {w : World} {g : Nat} {x : Hol} (h : Bxh w g x) : w.cell? ⟨g, 0, none⟩ = some (.int .u32 x.client) ∧ w.cell? ⟨g, 1, none⟩ = some (.int .u32 x.mode) :=
  ⟨h.cell 0, h.cell 1⟩
theorem Bxh.kept {S : List Nat} {w w' : World} {g : Nat} {x : Hol} (h : Bxh w g x) (k : Only S w w') (hg : g ∉ S) : Bxh w' g x := Blk.kept h k hg
theorem Bxh.new (w : World) (x : Hol) : Bxh (w.alloc (.cells #[.int .u32 x.client, .int .u32 x.mode] 91)) w.heap.size x := Blk.new _ _ _

/-! A lock: its cells, v its holders' slice. -/
def lkA (l : Lk) (v : Value) : Array Value := #[.int .u32 l.file, .int .u32 l.epoch, .int .u32 l.used, .int .u32 l.cut, .bool l.fenced, .bool l.gone, v]
def lkV (l : Lk) (v : Value) : Value := .agg #[.int .u32 l.file, .int .u32 l.epoch, .int .u32 l.used, .int .u32 l.cut, .bool l.fenced, .bool l.gone, v]
theorem lkV_mk (f e u k : Int) (fe go : Bool) (hs : List Hol) (v : Value) : lkV ⟨f, e, u, k, fe, go, hs⟩ v = .agg #[.int .u32 f, .int .u32 e, .int .u32 u, .int .u32 k, .bool fe, .bool go, v] := rfl
theorem lkV_no : lkV noL (.slice none 0 0) = .agg #[.int .u32 0, .int .u32 0, .int .u32 0, .int .u32 0, .bool false, .bool false, .slice none 0 0] := rfl
theorem size_lk : (Tryz.prog.info? 45).map (·.size) = some 7 := by kernel_rfl
theorem size_lk' : ∀ w, (Go.sizeOf 45).run Tryz.prog w = .ok 7 w := Tryz.sizeOf45
abbrev Lx (w : World) (g : Nat) (l : Lk) (v : Value) : Prop := Blk w g 45 (lkA l v)
theorem Lx.kept {S : List Nat} {w w' : World} {g : Nat} {l : Lk} {v : Value} (h : Lx w g l v) (k : Only S w w') (hg : g ∉ S) : Lx w' g l v := Blk.kept h k hg
theorem Lx.alloc {w : World} {g : Nat} {l : Lk} {v : Value} (h : Lx w g l v) (o : Obj) : Lx (w.alloc o) g l v := Blk.alloc h o
theorem Lx.new (w : World) (f e u k : Int) (fe go : Bool) (hs : List Hol) (v : Value) : Lx (w.alloc (.cells #[.int .u32 f, .int .u32 e, .int .u32 u, .int .u32 k, .bool fe, .bool go, v] 45)) w.heap.size ⟨f, e, u, k, fe, go, hs⟩ v := Blk.new _ _ _
theorem Lx.zero (w : World) : Lx (w.alloc (.cells #[.int .u32 0, .int .u32 0, .int .u32 0, .int .u32 0, .bool false, .bool false, .slice none 0 0] 45)) w.heap.size noL (.slice none 0 0) := Blk.new _ _ _
theorem Lx.cells {w : World} {g : Nat} {l : Lk} {v : Value} (h : Lx w g l v) : w.cell? ⟨g, 0, none⟩ = some (.int .u32 l.file) ∧ w.cell? ⟨g, 1, none⟩ = some (.int .u32 l.epoch) ∧ w.cell? ⟨g, 2, none⟩ = some (.int .u32 l.used) ∧ w.cell? ⟨g, 3, none⟩ = some (.int .u32 l.cut) ∧ w.cell? ⟨g, 4, none⟩ = some (.bool l.fenced) ∧ w.cell? ⟨g, 5, none⟩ = some (.bool l.gone) ∧ w.cell? ⟨g, 6, none⟩ = some v :=
  ⟨h.cell 0, h.cell 1, h.cell 2, h.cell 3, h.cell 4, h.cell 5, h.cell 6⟩
/-- .. in letters, later on. -/
theorem Lx.at {S : List Nat} {w w' : World} {g : Nat} {f e u k : Int} {fe go : Bool} {hs : List Hol} {v : Value} (h : Lx w g ⟨f, e, u, k, fe, go, hs⟩ v) (kk : Only S w w') (hg : g ∉ S) : w'.cell? ⟨g, 0, none⟩ = some (.int .u32 f) ∧ w'.cell? ⟨g, 1, none⟩ = some (.int .u32 e) ∧ w'.cell? ⟨g, 2, none⟩ = some (.int .u32 u) ∧ w'.cell? ⟨g, 3, none⟩ = some (.int .u32 k) ∧ w'.cell? ⟨g, 4, none⟩ = some (.bool fe) ∧ w'.cell? ⟨g, 5, none⟩ = some (.bool go) ∧ w'.cell? ⟨g, 6, none⟩ = some v :=
  (h.kept kk hg).cells
section
variable {ops : Array Oper} {rest : List Oper} {o : Oper} {a : Act} {w : World} {Q : Exit → Act → World → Prop}
theorem wpList_load_lk (p : Lk) (v : Value) (hw : Region.wanted o (yielded ops a.tmps) = true) (x : Operand) (ho : o.op = .load 45 x) (g : Nat) (hx : a.eval x = .pointer (some ⟨g, 0, none⟩)) (hb : Blk w g 45 (lkA p v))
    (h : wpList Tryz.prog ops Q rest (a.put o.dst (lkV p v)) w) : wpList Tryz.prog ops Q (o :: rest) a w :=
  wpList_load_blk hw 45 x ho g hx (lkA p v).toList _ hb Tryz.underlying45 rfl size_lk h
theorem wpList_store_lk (p q : Lk) (v u : Value) (hv : v.oneCell' = true) (hw : Region.wanted o (yielded ops a.tmps) = true) (x y : Operand) (ho : o.op = .store 45 x y) (g : Nat) (hx : a.eval x = .pointer (some ⟨g, 0, none⟩)) (hy : a.eval y = lkV p v) (hb : Blk w g 45 (lkA q u))
    (h : ∀ w', Blk w' g 45 (lkA p v) → Only [g] w w' → wpList Tryz.prog ops Q rest (a.put o.dst undef) w') : wpList Tryz.prog ops Q (o :: rest) a w :=
  wpList_store_blk hw 45 x y ho g _ _ hx hy hb size_lk rfl (by simp [Value.oneCell']; exact hv) h
end
theorem load_lk {w : World} {g : Nat} {p : Lk} {v : Value} (hb : Blk w g 45 (lkA p v)) : (loadVar 45 ⟨g, 0, none⟩).run Tryz.prog w = .ok (lkV p v) w :=
  run_loadVar_mid (P := Tryz.prog) w g 0 45 (lkA p v).toList _ (Blk.range9 hb) Tryz.underlying45 rfl size_lk
theorem results_lk {fn : Func} {p : Tmp} (h : fn.results = #[.cell p 45]) (tmps : Array Value) (w : World) (g : Nat) (hp : tmps.getD p undef = .pointer (some ⟨g, 0, none⟩)) (q : Lk) (v : Value) (hb : Blk w g 45 (lkA q v)) :
    (results fn tmps).run Tryz.prog w = .ok (lkV q v) w := by
  rw [results_cell h, hp]
  simp only [asAddr, Sem.run_pure, Result.andThen_ok, load_lk hb]
theorem results_lk1 {fn : Func} {p u : Tmp} (h : fn.results = #[.cell p 45, .tmp u]) (tmps : Array Value) (w : World) (g : Nat) (hp : tmps.getD p undef = .pointer (some ⟨g, 0, none⟩)) (q : Lk) (v : Value) (hb : Blk w g 45 (lkA q v)) (x : Value) (hx : tmps.getD u undef = x) :
    (results fn tmps).run Tryz.prog w = .ok (.tuple #[lkV q v, x]) w := by
  subst hx
  rw [results_cell_tmp h, hp]
  simp only [asAddr, Sem.run_pure, Result.andThen_ok, load_lk hb]
theorem results_two0 {fn : Func} {p u s : Tmp} {ty : TypeId} (h : fn.results = #[.cell p ty, .tmp u, .tmp s]) (tmps : Array Value) (P : Program) (w : World) :
    (results fn tmps).run P w = ((asAddr (tmps.getD p undef)).run P w).andThen fun a w₁ => ((loadVar ty a).run P w₁).andThen fun v w₂ => .ok (.tuple #[v, tmps.getD u undef, tmps.getD s undef]) w₂ := by
  simp only [results, h]
  simp [Sem.run_bind, Result.andThen]
theorem results_lk2 {fn : Func} {p u s : Tmp} (h : fn.results = #[.cell p 45, .tmp u, .tmp s]) (tmps : Array Value) (w : World) (g : Nat) (hp : tmps.getD p undef = .pointer (some ⟨g, 0, none⟩)) (q : Lk) (v : Value) (hb : Blk w g 45 (lkA q v)) (x y : Value) (hx : tmps.getD u undef = x) (hy : tmps.getD s undef = y) :
    (results fn tmps).run Tryz.prog w = .ok (.tuple #[lkV q v, x, y]) w := by
  subst hx hy
  rw [results_two0 h, hp]
  simp only [asAddr, Sem.run_pure, Result.andThen_ok, load_lk hb]

/-! A list's tail and head, as slices. -/
section
variable {α : Type} {enc : α → List Value} {k : Nat} {w : World} {A : Option Addr} {l : List α}
end
section
variable {P : Program}
end
section
variable {P : Program}
end
end Go.Proofs.YtalkhhjfplahkaaGreat
namespace Go.Proofs.YtalkhhjfplahkaaGreat
set_option maxRecDepth 100000
open Go.RowKit

/-- The first n holders are right. -/
structure RInv (L : Lk) (n : Nat) : Prop where
  ok : ∀ h ∈ L.hs.take n, okH L.used L.hs.length h
  rise : (L.hs.take n).Pairwise cliLt
theorem RInv.zero (L : Lk) : RInv L 0 := ⟨by simp, by simp⟩
theorem RInv.succ {L : Lk} {n : Nat} {x : Hol} (h : RInv L n) (hx : L.hs[n]? = some x) (o : okH L.used L.hs.length x) (k : ∀ (m : Nat) (p : Hol), n = m + 1 → L.hs[m]? = some p → p.client < x.client) : RInv L (n + 1) := by
  have e := get_snoch hx
  refine ⟨fun y hy => ?_, ?_⟩
  · rw [e, List.mem_append, List.mem_singleton] at hy
    rcases hy with hy | rfl
    · exact h.ok y hy
    · exact o
  · rw [e, List.pairwise_append]
    refine ⟨h.rise, by simp, fun y hy z hz => ?_⟩
    rw [List.mem_singleton] at hz
    subst hz
    obtain ⟨j, hj, rfl⟩ := List.getElem_of_mem hy
    have hj' := hj
    rw [List.length_take] at hj'
    obtain ⟨m, rfl⟩ : ∃ m, n = m + 1 := ⟨n - 1, by omega⟩
    have hxl := (List.getElem?_eq_some_iff.1 hx).1
    have hm : L.hs[m]? = some (L.hs[m]'(by omega)) := List.getElem?_eq_getElem (by omega)
    have hp := k m _ rfl hm
    rw [List.getElem_take]
    rcases Nat.lt_or_ge j m with a | a
    · have := (List.pairwise_iff_getElem.1 h.rise) j m hj (by rw [List.length_take]; omega) a
      rw [List.getElem_take, List.getElem_take] at this
      unfold cliLt at this ⊢
      omega
    · obtain rfl : j = m := by omega
      exact hp
theorem RInv.done {L : Lk} {n : Nat} (h : RInv L n) (hn : L.hs.length ≤ n) (h1 : L.used ≤ 2) (h2 : L.cut ≤ 1024) (h3 : L.hs.length ≤ 4) (h4 : 0 < L.hs.length → L.fenced = true ∧ L.gone = false) : RightK L := by
  obtain ⟨a, b⟩ := h
  rw [List.take_of_length_le hn] at a b
  exact ⟨h1, h2, h3, h4, a, b⟩
theorem not_ok {L : Lk} {x : Hol} (hx : x ∈ L.hs) (h : ¬ okH L.used L.hs.length x) : ¬ RightK L := fun r => h (r.ok x hx)
theorem not_rise {L : Lk} {m : Nat} {x p : Hol} (hp : L.hs[m]? = some p) (hx : L.hs[m + 1]? = some x) (h : ¬ p.client < x.client) : ¬ RightK L := fun r => by
  obtain ⟨h1, e1⟩ := List.getElem?_eq_some_iff.1 hp
  obtain ⟨h2, e2⟩ := List.getElem?_eq_some_iff.1 hx
  have := (List.pairwise_iff_getElem.1 r.rise) m (m + 1) h1 h2 (by omega)
  rw [e1, e2] at this
  exact h this
theorem mode_any (w : World) (m : Int) : Calls Tryz.prog 106 #[.int .u32 m] w fun e w' => e = .returned (.bool (decide (m = 1 ∨ m = 2))) ∧ w' = w := by
  by_cases h : m = 1
  · have d : (m == 1) = true := by simpa using h
    rw [decide_eq_true (.inl h)]
    replace h := Lib.hid h
    go_enter Tryz.func106, Tryz.ntmps106
    go_wp2
    go_ret
    exact ⟨rfl, rfl⟩
  · have d : (m == 1) = false := by simpa using h
    by_cases h2 : m = 2
    · have d2 : (m == 2) = true := by simpa using h2
      rw [decide_eq_true (.inr h2)]
      replace h := Lib.hid h
      replace h2 := Lib.hid h2
      go_enter Tryz.func106, Tryz.ntmps106
      go_wp2
      go_ret
      exact ⟨rfl, rfl⟩
    · have d2 : (m == 2) = false := by simpa using h2
      rw [decide_eq_false (by omega)]
      replace h := Lib.hid h
      replace h2 := Lib.hid h2
      go_enter Tryz.func106, Tryz.ntmps106
      go_wp2
      go_ret
      exact ⟨rfl, rfl⟩


set_option maxRecDepth 100000 in
set_option maxHeartbeats 8000000 in
theorem right_hold (w : World) (L : Lk) (A : Option Addr) (c : Nat) (hb : Els holE 2 w A L.hs) (hl : L.hs.length ≤ 9223372036854775807) :
    Calls Tryz.prog 82 #[lkV L (.slice A L.hs.length c)] w fun e w' => e = .returned (.bool (decide (RightK L))) ∧ Only [] w w' := by
  obtain ⟨R, hR⟩ : ∃ R, R = decide (RightK L) := ⟨_, rfl⟩
  rw [← hR]
  have hyes : RightK L → R = true := fun h => by rw [hR]; exact decide_eq_true h
  have hno : ¬ RightK L → R = false := fun h => by rw [hR]; exact decide_eq_false h
  have hbad := fun x => not_ok (L := L) (x := x)
  have hris := fun m x p => not_rise (L := L) (m := m) (x := x) (p := p)
  have hz := RInv.zero L
  have hsu := fun n x => RInv.succ (L := L) (n := n) (x := x)
  have hdo := fun n => RInv.done (L := L) (n := n)
  have n1 : ¬ RightK L ∨ L.used ≤ 2 := by by_cases h : L.used ≤ 2; exact .inr h; exact .inl fun r => h r.used
  have n2 : ¬ RightK L ∨ L.cut ≤ 1024 := by by_cases h : L.cut ≤ 1024; exact .inr h; exact .inl fun r => h r.cut
  have n3 : ¬ RightK L ∨ L.hs.length ≤ 4 := by by_cases h : L.hs.length ≤ 4; exact .inr h; exact .inl fun r => h r.len
  have n4 : 0 < L.hs.length → L.fenced = false → ¬ RightK L := fun h0 h r => by have := (r.may h0).1; rw [h] at this; cases this
  have n5 : 0 < L.hs.length → L.gone = true → ¬ RightK L := fun h0 h r => by have := (r.may h0).2; rw [h] at this; cases this
  obtain ⟨P, hP⟩ : ∃ P, P = RightK L := ⟨_, rfl⟩
  obtain ⟨I, hI⟩ : ∃ I, I = RInv L := ⟨_, rfl⟩
  rw [← hP] at hyes hno
  simp only [← hP] at hbad hris hdo n1 n2 n3 n4 n5
  simp only [← hI] at hz hsu hdo
  clear hR hP hI
  obtain ⟨f, e, u, k, fe, go, l⟩ := L
  simp only at hb hl hbad hris hsu hdo n1 n2 n3 n4 n5
  have k0 := (Only.refl [] w).alloc (.cells #[.int .u32 f, .int .u32 e, .int .u32 u, .int .u32 k, .bool fe, .bool go, .slice A l.length c] 45)
  have bx := Lx.new w f e u k fe go l (.slice A l.length c)
  have hlI : (l.length : Int) ≤ 9223372036854775807 := by omega
  simp only [lkV]
  obtain ⟨n, hn⟩ : ∃ n, n = l.length := ⟨_, rfl⟩
  rw [← hn] at hl hlI bx n3 n4 n5 hbad hsu hdo k0 ⊢
  replace hyes := Lib.hid hyes
  replace hno := Lib.hid hno
  replace hbad := Lib.hid hbad
  replace hris := Lib.hid hris
  replace hz := Lib.hid hz
  replace hsu := Lib.hid hsu
  replace hdo := Lib.hid hdo
  replace hn := Lib.hid hn
  by_cases hu : 2 < u
  · have d1 : decide (2 < u) = true := decide_eq_true hu
    obtain rfl := hno.out (by rcases n1 with h | h; exact h; omega)
    replace hu := Lib.hid hu
    clear n1 n2 n3 n4 n5
    go_enter Tryz.func82, Tryz.ntmps82
    go_wp2
    go_ret
    exact ⟨rfl, k0⟩
  have d1 : decide (2 < u) = false := decide_eq_false hu
  by_cases hk : 1024 < k
  · have d2 : decide (1024 < k) = true := decide_eq_true hk
    obtain rfl := hno.out (by rcases n2 with h | h; exact h; omega)
    replace hu := Lib.hid hu
    replace hk := Lib.hid hk
    clear n1 n2 n3 n4 n5
    go_enter Tryz.func82, Tryz.ntmps82
    go_wp2
    go_ret
    exact ⟨rfl, k0⟩
  have d2 : decide (1024 < k) = false := decide_eq_false hk
  by_cases h4 : (4 : Int) < (n : Int)
  · have d3 : decide ((4 : Int) < (n : Int)) = true := decide_eq_true h4
    obtain rfl := hno.out (by rcases n3 with h | h; exact h; omega)
    replace hu := Lib.hid hu
    replace hk := Lib.hid hk
    clear n1 n2 n3 n4 n5
    go_enter Tryz.func82, Tryz.ntmps82
    go_wp2
    go_ret
    exact ⟨rfl, k0⟩
  have d3 : decide ((4 : Int) < (n : Int)) = false := decide_eq_false h4
  have hn4 : n ≤ 4 := by omega
  clear h4 hl hlI
  have g1 := Lib.hid (show u ≤ 2 by omega)
  have g2 := Lib.hid (show k ≤ 1024 by omega)
  replace hu := Lib.hid hu
  replace hk := Lib.hid hk
  replace n1 := Lib.hid n1
  replace n2 := Lib.hid n2
  replace n3 := Lib.hid n3
  replace n4 := Lib.hid n4
  replace n5 := Lib.hid n5
  by_cases hn0 : n = 0
  · subst hn0
    obtain rfl := hyes.out (hdo.out 0 hz.out (Nat.le_refl _) g1.out g2.out (Nat.zero_le _) (fun h => absurd h (Nat.lt_irrefl 0)))
    go_enter Tryz.func82, Tryz.ntmps82
    go_wp2_with fail
    go_loopw [35] (fun i wr => i = .int .i64 0 ∧ Only [] (w.alloc (.cells #[.int .u32 f, .int .u32 e, .int .u32 u, .int .u32 k, .bool fe, .bool go, .slice A 0 c] 45)) wr) (fun _ _ => 0)
    case atStart => exact ⟨rfl, Only.refl _ _⟩
    case round =>
      obtain ⟨rfl, hk⟩ := hrel
      go_wp2
      go_ret
      exact ⟨rfl, k0.trans hk⟩
  have hpos : 0 < n := by omega
  have dp : decide ((0 : Int) < (n : Int)) = true := decide_eq_true (by omega)
  cases fe with
  | false =>
    obtain rfl := hno.out (n4.out hpos rfl)
    go_enter Tryz.func82, Tryz.ntmps82
    go_wp2
    go_ret
    exact ⟨rfl, k0⟩
  | true =>
  cases go with
  | true =>
    obtain rfl := hno.out (n5.out hpos rfl)
    go_enter Tryz.func82, Tryz.ntmps82
    go_wp2
    go_ret
    exact ⟨rfl, k0⟩
  | false =>
  have hdon : Hid (∀ m, I m → n ≤ m → P) := fun m hi hm => hdo.out m hi hm g1.out g2.out hn4 (fun _ => ⟨rfl, rfl⟩)
  go_enter Tryz.func82, Tryz.ntmps82
  go_wp2_with fail
  go_loopw [35] (fun i wr => ∃ m : Nat, m ≤ n ∧ i = .int .i64 m ∧ Hid (I m) ∧ Only [] (w.alloc (.cells #[.int .u32 f, .int .u32 e, .int .u32 u, .int .u32 k, .bool true, .bool false, .slice A n c] 45)) wr) (fun i _ => n - (intOf i).toNat)
  case atStart => exact ⟨0, Nat.zero_le _, rfl, hz, Only.refl _ _⟩
  case round =>
    obtain ⟨m, hm, rfl, hi, hk⟩ := hrel
    have hkw := k0.trans hk
    obtain ⟨c0, c1, c2, c3, c4, c5, c6⟩ := bx.at hk (by simp)
    have hq1 : w.heap.size < wr.heap.size := World.block_lt_of_cell? wr _ c0
    have hq2 : ¬ w.heap.size = wr.heap.size := by omega
    by_cases hlt : m < n
    rotate_left
    · obtain rfl := hyes.out (hdon.out m hi.out (by omega))
      go_wp2
      go_ret
      exact ⟨rfl, hkw⟩
    have hltl : m < l.length := by rw [← hn.out]; exact hlt
    obtain ⟨g, o, hA, hg, hat⟩ := hb.get hltl
    have hat' := hat.kept hkw (by simp)
    have hg1 : g < wr.heap.size := by omega
    have hg2 : ¬ g = wr.heap.size := by omega
    obtain ⟨e0, e1⟩ := hols_at hat' hltl
    have hx : l[m]? = some l[m] := List.getElem?_eq_getElem hltl
    have hxm : l[m] ∈ l := List.getElem_mem hltl
    have hprev : ∀ j, m = j + 1 → ∃ p : Hol, l[j]? = some p ∧ wr.cell? ⟨g, o + j * 2, none⟩ = some (.int .u32 p.client) := fun j hj => by
      have hj' : j < l.length := by omega
      exact ⟨l[j], List.getElem?_eq_getElem hj', (hols_at hat' hj').1⟩
    generalize l[m] = x at *
    have hbx := hbad.out x hxm
    have hsx := hsu.out m x hi.out hx
    have hrx := fun j p (hj : m = j + 1) (hp : l[j]? = some p) => hris.out j x p hp (by rw [← hj]; exact hx)
    obtain ⟨x0, x1⟩ := x
    simp only [okH] at hbx hsx
    simp only at e0 e1 hrx hsx
    have hMo := fun W => mode_any W x1
    subst hA
    replace hbx := Lib.hid hbx
    replace hsx := Lib.hid hsx
    replace hrx := Lib.hid hrx
    replace hprev := Lib.hid hprev
    replace hx := Lib.hid hx
    replace hxm := Lib.hid hxm
    replace hi := Lib.hid hi
    clear hat hat' hb
    by_cases hmo : x1 = 1 ∨ x1 = 2
    rotate_left
    · obtain rfl := hno.out (hbx.out (fun h => hmo h.1))
      rw [decide_eq_false hmo] at hMo
      replace hMo := Lib.hid hMo
      replace hmo := Lib.hid hmo
      go_wp2_with fail
      refine (hMo.out _).mono ?_; rintro e w1 ⟨rfl, rfl⟩
      go_wp2
      go_ret
      exact ⟨rfl, hkw.alloc _⟩
    rw [decide_eq_true hmo] at hMo
    replace hMo := Lib.hid hMo
    by_cases hux : u < x1
    · obtain rfl := hno.out (hbx.out (fun h => by omega))
      have d4 : decide (u < x1) = true := decide_eq_true hux
      replace hmo := Lib.hid hmo
      go_wp2_with fail
      refine (hMo.out _).mono ?_; rintro e w1 ⟨rfl, rfl⟩
      go_wp2
      go_ret
      exact ⟨rfl, hkw.alloc _⟩
    have d4 : decide (u < x1) = false := decide_eq_false hux
    by_cases hw : x1 = 2 ∧ 1 < n
    · obtain rfl := hno.out (hbx.out (fun h => h.2.2 ⟨hw.1, by omega⟩))
      have d5 : (x1 == 2) = true := by simpa using hw.1
      have d6 : decide ((1 : Int) < (n : Int)) = true := decide_eq_true (by omega)
      have d7 : (1 : Int) < (n : Int) := by omega
      replace hmo := Lib.hid hmo
      replace hw := Lib.hid hw
      go_wp2_with fail
      refine (hMo.out _).mono ?_; rintro e w1 ⟨rfl, rfl⟩
      go_wp2
      go_ret
      exact ⟨rfl, hkw.alloc _⟩
    have hok : Hid ((x1 = 1 ∨ x1 = 2) ∧ x1 ≤ u ∧ ¬ (x1 = 2 ∧ n ≠ 1)) := by refine ⟨hmo, by omega, ?_⟩; omega
    have d56 : ((x1 == 2) = true ∧ decide ((1 : Int) < (n : Int)) = false ∧ ¬ (1 : Int) < (n : Int)) ∨ (x1 == 2) = false := by
      by_cases h2 : x1 = 2
      · exact .inl ⟨by simpa using h2, decide_eq_false (by omega), by omega⟩
      · exact .inr (by simpa using h2)
    replace hmo := Lib.hid hmo
    replace hw := Lib.hid hw
    replace hux := Lib.hid hux
    clear hbx
    rcases d56 with ⟨d5, d6, d7⟩ | d5
    · cases m with
      | zero =>
        have hnx := hsx.out hok.out (fun j p hj => by cases hj)
        rw [Nat.zero_mul, Nat.add_zero] at e0 e1
        have dz : ((0 : Nat) : Int) = 0 := rfl
        rw [dz]
        replace hnx := Lib.hid hnx
        clear hprev hsx hrx
        go_wp2_with fail
        refine (hMo.out _).mono ?_; rintro e w1 ⟨rfl, rfl⟩
        go_wp2_with fail
        go_quiet (fail)
        go_wp2_with fail
        go_roundw
        case rel => exact ⟨1, by omega, rfl, hnx, (hk.alloc _).drewN _⟩
        case measure => simp [intOf]; omega
      | succ j => exact absurd hlt (by omega)
    · cases m with
      | zero =>
        have hnx := hsx.out hok.out (fun j p hj => by cases hj)
        rw [Nat.zero_mul, Nat.add_zero] at e0 e1
        have dz : ((0 : Nat) : Int) = 0 := rfl
        rw [dz]
        replace hnx := Lib.hid hnx
        clear hprev hsx hrx
        go_wp2_with fail
        refine (hMo.out _).mono ?_; rintro e w1 ⟨rfl, rfl⟩
        go_wp2_with fail
        go_quiet (fail)
        go_wp2_with fail
        go_roundw
        case rel => exact ⟨1, by omega, rfl, hnx, (hk.alloc _).drewN _⟩
        case measure => simp [intOf]; omega
      | succ j =>
        obtain ⟨p, hp, hcp⟩ := hprev.out j rfl
        have hcast : ((j + 1 : Nat) : Int) = (j : Int) + 1 := by omega
        rw [hcast]
        have hj0 : decide ((0 : Int) < (j : Int) + 1) = true := decide_eq_true (by omega)
        have hj1 : ((j : Int) + 1).toNat = j + 1 := by omega
        have hj2 : (j : Int) + 1 < n := by omega
        have hrj := hrx.out j p rfl hp
        have hsj : p.client < x0 → I (j + 1 + 1) := fun h => hsx.out hok.out (by
          intro j' p' hj hp'
          obtain rfl : j = j' := by omega
          rw [hp] at hp'
          injection hp' with hp'
          subst hp'
          exact h)
        obtain ⟨p0, p1⟩ := p
        simp only at hcp hrj hsj
        replace hp := Lib.hid hp
        clear hprev hsx hrx
        by_cases hpc : x0 ≤ p0
        · obtain rfl := hno.out (hrj (by omega))
          have d8 : decide (x0 ≤ p0) = true := decide_eq_true hpc
          clear hrj hsj
          go_wp2_with fail
          refine (hMo.out _).mono ?_; rintro e w1 ⟨rfl, rfl⟩
          go_wp2_with fail
          go_quiet (fail)
          go_wp2
          go_ret
          exact ⟨rfl, (hkw.alloc _).drewN _⟩
        · have hnx := hsj (by omega)
          have d8 : decide (x0 ≤ p0) = false := decide_eq_false hpc
          replace hnx := Lib.hid hnx
          clear hrj hsj
          go_wp2_with fail
          refine (hMo.out _).mono ?_; rintro e w1 ⟨rfl, rfl⟩
          go_wp2_with fail
          go_quiet (fail)
          go_wp2_with fail
          go_roundw
          case rel => exact ⟨j + 1 + 1, by omega, by go_num, hnx, (hk.alloc _).drewN _⟩
          case measure => simp [intOf]; omega

end Go.Proofs.YtalkhhjfplahkaaGreat
