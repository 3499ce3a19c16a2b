/- The walks of Done, Ask, Tick, Hear: the program's, the document's. -/
import Derived.Test.YtjogdilkdnnhnaaJudge
import Derived.Test.YtjogdilkdnnhnaaRjudge
import Derived.Test.YtjogdilkdnnhnaaChecked
import Derived.Tactics
import Derived.Tactics2
import Derived.StillTactics
import Derived.RegionTactic
import Derived.WalkKit
import Derived.WalkLawsBesides
import Derived.WalkSpells
import Derived.Outline
import Derived.Laws.Pointers
import Derived.Laws.Small
import Derived.Laws.Build
import Derived.Laws.Cover3
import Derived.Laws.StructEq
import Derived.KernelRfl
import Derived.Lib.Hide
import Derived.BigQuiet
import Derived.OwnWalk
import Derived.Laws.ResultCell
namespace Go.Proofs.Ytjogdilkdnnhnaa
open Go.RowKit

theorem Only.undrew {S : List Nat} {w w' : World} (h : Only S w.drew w') : Only S w w' := ⟨h.os, h.tape, h.output, h.size, h.block⟩
theorem Only.boxed {w w1 : World} {o : Obj} (k : Only [] (w.alloc o) w1) : Only [] w w1 := ((Only.refl [] w).alloc o).trans k

theorem results_cell {fn : Func} {p : Tmp} {ty : TypeId} (h : fn.results = #[.cell p ty]) (tmps : Array Value) (P : Program) (w : World) :
    (results fn tmps).run P w = ((asAddr (tmps.getD p undef)).run P w).andThen fun a w₁ => (loadVar ty a).run P w₁ := by
  simp only [results, h]
  simp [Sem.run_bind, Result.andThen]

/-- The cells of a block, later on. -/
theorem Blk.three {w w1 : World} {S : List Nat} {g : Nat} {a b c : Value} {ty : TypeId} (h : Blk w g ty #[a, b, c]) (k : Only S w w1) (hg : g ∉ S) :
    w1.cell? ⟨g, 0, none⟩ = some a ∧ w1.cell? ⟨g, 1, none⟩ = some b ∧ w1.cell? ⟨g, 2, none⟩ = some c := by
  have bq := h.kept k hg
  exact ⟨bq.cell 0, bq.cell 1, bq.cell 2⟩
theorem Blk.seven {w w1 : World} {S : List Nat} {g : Nat} {a b c d e f i : Value} {ty : TypeId} (h : Blk w g ty #[a, b, c, d, e, f, i]) (k : Only S w w1) (hg : g ∉ S) :
    w1.cell? ⟨g, 0, none⟩ = some a ∧ w1.cell? ⟨g, 1, none⟩ = some b ∧ w1.cell? ⟨g, 2, none⟩ = some c ∧ w1.cell? ⟨g, 3, none⟩ = some d ∧ w1.cell? ⟨g, 4, none⟩ = some e ∧ w1.cell? ⟨g, 5, none⟩ = some f ∧ w1.cell? ⟨g, 6, none⟩ = some i := by
  have bq := h.kept k hg
  exact ⟨bq.cell 0, bq.cell 1, bq.cell 2, bq.cell 3, bq.cell 4, bq.cell 5, bq.cell 6⟩

theorem done_any (s : Sat) (li sq : Int) (r : ByteArray) (w : World) (hs : s.Ok) (h3 : U li) (h4 : U sq) :
    Calls Try.prog 12 #[satV s, .int .u32 li, .int .u32 sq, .string r] w fun e w' => e = .returned (satV (doneL s li sq r)) ∧ Only [] w w' := by
  obtain ⟨a, b, c⟩ := s
  by_cases hj : judgeL ⟨a, b, c⟩ li sq = 1
  · rw [show doneL ⟨a, b, c⟩ li sq r = ⟨li, sq, r⟩ from if_pos hj]
    go_enter Try.func12, Try.ntmps12
    go_wp2_with fail
    refine (judge_any ⟨a, b, c⟩ li sq _ hs h3 h4).mono ?_; rintro e w1 ⟨rfl, k1⟩
    rw [hj]
    clear hj hs h3 h4
    have kw := k1.boxed.boxed
    have gw : w.heap.size ≤ w.heap.size + 1 := Nat.le_add_right _ _
    obtain ⟨b0, b1, b2⟩ := ((Blk.new w 24 #[.int .u32 a, .int .u32 b, .string c]).alloc (.cells #[.int .u32 0, .int .u32 0, .string ⟨#[]⟩] 24)).three k1 (by simp)
    have bz := (Blk.new (w.alloc (.cells #[.int .u32 a, .int .u32 b, .string c] 24)) 24 #[.int .u32 0, .int .u32 0, .string ⟨#[]⟩]).kept k1 (by simp)
    rw [show (w.alloc (.cells #[.int .u32 a, .int .u32 b, .string c] 24)).heap.size = w.heap.size + 1 by simp] at bz
    have z0 := bz.cell 0
    have z1 := bz.cell 1
    have z2 := bz.cell 2
    have f0 := bz.free 0
    have f1 := bz.free 1
    have f2 := bz.free 2
    simp only [List.getElem?_toArray, List.getElem?_cons_zero, List.getElem?_cons_succ] at z0 z1 z2
    clear bz k1
    go_wp2
    refine bodyPost_ret (v := satV ⟨li, sq, r⟩) (by rw [results_cell rfl]; go_simp) rfl ?_
    refine ⟨rfl, ?_⟩
    repeat (first | exact Only.refl _ _ | exact kw | refine Only.alloc ?_ _ | refine Only.setCell ?_ (.inr (by first | exact Nat.le_refl _ | exact Nat.le_add_right _ _ | exact gw)) _)
  · rw [show doneL ⟨a, b, c⟩ li sq r = ⟨a, b, c⟩ from if_neg hj]
    go_enter Try.func12, Try.ntmps12
    go_wp2_with fail
    refine (judge_any ⟨a, b, c⟩ li sq _ hs h3 h4).mono ?_; rintro e w1 ⟨rfl, k1⟩
    generalize judgeL ⟨a, b, c⟩ li sq = j at *
    have f9 : (j == 1) = false := by simpa using hj
    have g9 : (j != 1) = true := by simpa using hj
    clear hs h3 h4
    have kw := k1.boxed.boxed
    have gw : w.heap.size ≤ w.heap.size + 1 := Nat.le_add_right _ _
    obtain ⟨b0, b1, b2⟩ := ((Blk.new w 24 #[.int .u32 a, .int .u32 b, .string c]).alloc (.cells #[.int .u32 0, .int .u32 0, .string ⟨#[]⟩] 24)).three k1 (by simp)
    have bz := (Blk.new (w.alloc (.cells #[.int .u32 a, .int .u32 b, .string c] 24)) 24 #[.int .u32 0, .int .u32 0, .string ⟨#[]⟩]).kept k1 (by simp)
    rw [show (w.alloc (.cells #[.int .u32 a, .int .u32 b, .string c] 24)).heap.size = w.heap.size + 1 by simp] at bz
    have z0 := bz.cell 0
    have z1 := bz.cell 1
    have z2 := bz.cell 2
    have f0 := bz.free 0
    have f1 := bz.free 1
    have f2 := bz.free 2
    simp only [List.getElem?_toArray, List.getElem?_cons_zero, List.getElem?_cons_succ] at z0 z1 z2
    clear bz k1
    go_wp2
    refine bodyPost_ret (v := satV ⟨a, b, c⟩) (by rw [results_cell rfl]; go_simp) rfl ?_
    refine ⟨rfl, ?_⟩
    repeat (first | exact Only.refl _ _ | exact kw | refine Only.alloc ?_ _ | refine Only.setCell ?_ (.inr (by first | exact Nat.le_refl _ | exact Nat.le_add_right _ _ | exact gw)) _)

theorem rdone_any (s : Sat) (li sq : Int) (r : ByteArray) (w : World) (hs : s.Ok) (h3 : U li) (h4 : U sq) :
    Calls Try.prog 13 #[satV s, .int .u32 li, .int .u32 sq, .string r] w fun e w' => e = .returned (satV (doneL s li sq r)) ∧ Only [] w w' := by
  obtain ⟨a, b, c⟩ := s
  by_cases hj : judgeL ⟨a, b, c⟩ li sq = 1
  · rw [show doneL ⟨a, b, c⟩ li sq r = ⟨li, sq, r⟩ from if_pos hj]
    go_enter Try.func13, Try.ntmps13
    go_wp2_with fail
    refine (rjudge_any ⟨a, b, c⟩ li sq _ hs h3 h4).mono ?_; rintro e w1 ⟨rfl, k1⟩
    rw [hj]
    clear hj hs h3 h4
    have kw := k1.boxed.boxed
    have gw : w.heap.size ≤ w.heap.size + 1 := Nat.le_add_right _ _
    obtain ⟨b0, b1, b2⟩ := ((Blk.new w 24 #[.int .u32 a, .int .u32 b, .string c]).alloc (.cells #[.int .u32 0, .int .u32 0, .string ⟨#[]⟩] 24)).three k1 (by simp)
    have bz := (Blk.new (w.alloc (.cells #[.int .u32 a, .int .u32 b, .string c] 24)) 24 #[.int .u32 0, .int .u32 0, .string ⟨#[]⟩]).kept k1 (by simp)
    rw [show (w.alloc (.cells #[.int .u32 a, .int .u32 b, .string c] 24)).heap.size = w.heap.size + 1 by simp] at bz
    have z0 := bz.cell 0
    have z1 := bz.cell 1
    have z2 := bz.cell 2
    have f0 := bz.free 0
    have f1 := bz.free 1
    have f2 := bz.free 2
    simp only [List.getElem?_toArray, List.getElem?_cons_zero, List.getElem?_cons_succ] at z0 z1 z2
    clear bz k1
    go_wp2
    refine bodyPost_ret (v := satV ⟨li, sq, r⟩) (by rw [results_cell rfl]; go_simp) rfl ?_
    refine ⟨rfl, ?_⟩
    repeat (first | exact Only.refl _ _ | exact kw | refine Only.alloc ?_ _ | refine Only.setCell ?_ (.inr (by first | exact Nat.le_refl _ | exact Nat.le_add_right _ _ | exact gw)) _)
  · rw [show doneL ⟨a, b, c⟩ li sq r = ⟨a, b, c⟩ from if_neg hj]
    go_enter Try.func13, Try.ntmps13
    go_wp2_with fail
    refine (rjudge_any ⟨a, b, c⟩ li sq _ hs h3 h4).mono ?_; rintro e w1 ⟨rfl, k1⟩
    generalize judgeL ⟨a, b, c⟩ li sq = j at *
    have f9 : (j == 1) = false := by simpa using hj
    have g9 : (j != 1) = true := by simpa using hj
    clear hs h3 h4
    have kw := k1.boxed.boxed
    have gw : w.heap.size ≤ w.heap.size + 1 := Nat.le_add_right _ _
    obtain ⟨b0, b1, b2⟩ := ((Blk.new w 24 #[.int .u32 a, .int .u32 b, .string c]).alloc (.cells #[.int .u32 0, .int .u32 0, .string ⟨#[]⟩] 24)).three k1 (by simp)
    have bz := (Blk.new (w.alloc (.cells #[.int .u32 a, .int .u32 b, .string c] 24)) 24 #[.int .u32 0, .int .u32 0, .string ⟨#[]⟩]).kept k1 (by simp)
    rw [show (w.alloc (.cells #[.int .u32 a, .int .u32 b, .string c] 24)).heap.size = w.heap.size + 1 by simp] at bz
    have z0 := bz.cell 0
    have z1 := bz.cell 1
    have z2 := bz.cell 2
    have f0 := bz.free 0
    have f1 := bz.free 1
    have f2 := bz.free 2
    simp only [List.getElem?_toArray, List.getElem?_cons_zero, List.getElem?_cons_succ] at z0 z1 z2
    clear bz k1
    go_wp2
    refine bodyPost_ret (v := satV ⟨a, b, c⟩) (by rw [results_cell rfl]; go_simp) rfl ?_
    refine ⟨rfl, ?_⟩
    repeat (first | exact Only.refl _ _ | exact kw | refine Only.alloc ?_ _ | refine Only.setCell ?_ (.inr (by first | exact Nat.le_refl _ | exact Nat.le_add_right _ _ | exact gw)) _)

theorem ask_any (l : Ln) (b : ByteArray) (w : World) (hl : l.Ok) :
    Calls Try.prog 14 #[lnV l, .string b] w fun e w' => e = .returned (.tuple #[lnV (askL l b), .int .i64 (askE l)]) ∧ Only [] w w' := by
  obtain ⟨_, _, ⟨c0, c1⟩, _, _⟩ := hl
  obtain ⟨x0, x1, x2, x3, x4, x5, x6⟩ := l
  simp only at c0 c1
  rcases x3 with _ | _
  rotate_left
  · have E : askL ⟨x0, x1, x2, true, x4, x5, x6⟩ b = ⟨0, 0, 0, false, ⟨#[]⟩, 0, 0⟩ := by rfl
    have E' : askE ⟨x0, x1, x2, true, x4, x5, x6⟩ = 21 := by rfl
    rw [E, E']
    clear E E'
    go_enter Try.func14, Try.ntmps14
    go_wp2
    refine bodyPost_ret (v := .tuple #[lnV ⟨0, 0, 0, false, ⟨#[]⟩, 0, 0⟩, .int .i64 21]) (by rw [results_cell_tmp rfl]; go_simp) rfl ?_
    refine ⟨rfl, ?_⟩
    repeat (first | exact Only.refl _ _ | exact kw | refine Only.alloc ?_ _ | refine Only.setCell ?_ (.inr (by first | exact Nat.le_refl _ | exact Nat.le_add_right _ _ | exact gw)) _)
  by_cases h : x2 = 4294967295
  · have E : askL ⟨x0, x1, x2, false, x4, x5, x6⟩ b = ⟨0, 0, 0, false, ⟨#[]⟩, 0, 0⟩ := by simp [askL, noLn, h]
    have E' : askE ⟨x0, x1, x2, false, x4, x5, x6⟩ = 16 := by simp [askE, h]
    rw [E, E']
    clear E E'
    subst h
    go_enter Try.func14, Try.ntmps14
    go_wp2
    refine bodyPost_ret (v := .tuple #[lnV ⟨0, 0, 0, false, ⟨#[]⟩, 0, 0⟩, .int .i64 16]) (by rw [results_cell_tmp rfl]; go_simp) rfl ?_
    refine ⟨rfl, ?_⟩
    repeat (first | exact Only.refl _ _ | exact kw | refine Only.alloc ?_ _ | refine Only.setCell ?_ (.inr (by first | exact Nat.le_refl _ | exact Nat.le_add_right _ _ | exact gw)) _)
  · have f0 : (x2 == 4294967295) = false := by simp; omega
    have g0 : decide (x2 = 4294967295) = false := by simp; omega
    have E : askL ⟨x0, x1, x2, false, x4, x5, x6⟩ b = ⟨x0, x1, x2 + 1, true, b, 1, 1⟩ := by simp [askL, h]
    have E' : askE ⟨x0, x1, x2, false, x4, x5, x6⟩ = 0 := by simp [askE, h]
    rw [E, E']
    clear E E'
    have hw : IntKind.u32.wrap (x2 + 1) = x2 + 1 := by rw [IntKind.wrap_u32]; omega
    go_enter Try.func14, Try.ntmps14
    go_wp2
    refine bodyPost_ret (v := .tuple #[lnV ⟨x0, x1, x2 + 1, true, b, 1, 1⟩, .int .i64 0]) (by rw [results_cell_tmp rfl]; go_simp) rfl ?_
    refine ⟨rfl, ?_⟩
    repeat (first | exact Only.refl _ _ | exact kw | refine Only.alloc ?_ _ | refine Only.setCell ?_ (.inr (by first | exact Nat.le_refl _ | exact Nat.le_add_right _ _ | exact gw)) _)

theorem rask_any (l : Ln) (b : ByteArray) (w : World) (hl : l.Ok) :
    Calls Try.prog 15 #[lnV l, .string b] w fun e w' => e = .returned (.tuple #[lnV (askL l b), .int .i64 (askE l)]) ∧ Only [] w w' := by
  obtain ⟨_, _, ⟨c0, c1⟩, _, _⟩ := hl
  obtain ⟨x0, x1, x2, x3, x4, x5, x6⟩ := l
  simp only at c0 c1
  rcases x3 with _ | _
  rotate_left
  · have E : askL ⟨x0, x1, x2, true, x4, x5, x6⟩ b = ⟨0, 0, 0, false, ⟨#[]⟩, 0, 0⟩ := by rfl
    have E' : askE ⟨x0, x1, x2, true, x4, x5, x6⟩ = 21 := by rfl
    rw [E, E']
    clear E E'
    go_enter Try.func15, Try.ntmps15
    go_wp2
    refine bodyPost_ret (v := .tuple #[lnV ⟨0, 0, 0, false, ⟨#[]⟩, 0, 0⟩, .int .i64 21]) (by rw [results_cell_tmp rfl]; go_simp) rfl ?_
    refine ⟨rfl, ?_⟩
    repeat (first | exact Only.refl _ _ | exact kw | refine Only.alloc ?_ _ | refine Only.setCell ?_ (.inr (by first | exact Nat.le_refl _ | exact Nat.le_add_right _ _ | exact gw)) _)
  by_cases h : x2 = 4294967295
  · have E : askL ⟨x0, x1, x2, false, x4, x5, x6⟩ b = ⟨0, 0, 0, false, ⟨#[]⟩, 0, 0⟩ := by simp [askL, noLn, h]
    have E' : askE ⟨x0, x1, x2, false, x4, x5, x6⟩ = 16 := by simp [askE, h]
    rw [E, E']
    clear E E'
    subst h
    go_enter Try.func15, Try.ntmps15
    go_wp2
    refine bodyPost_ret (v := .tuple #[lnV ⟨0, 0, 0, false, ⟨#[]⟩, 0, 0⟩, .int .i64 16]) (by rw [results_cell_tmp rfl]; go_simp) rfl ?_
    refine ⟨rfl, ?_⟩
    repeat (first | exact Only.refl _ _ | exact kw | refine Only.alloc ?_ _ | refine Only.setCell ?_ (.inr (by first | exact Nat.le_refl _ | exact Nat.le_add_right _ _ | exact gw)) _)
  · have f0 : (x2 == 4294967295) = false := by simp; omega
    have g0 : decide (x2 = 4294967295) = false := by simp; omega
    have E : askL ⟨x0, x1, x2, false, x4, x5, x6⟩ b = ⟨x0, x1, x2 + 1, true, b, 1, 1⟩ := by simp [askL, h]
    have E' : askE ⟨x0, x1, x2, false, x4, x5, x6⟩ = 0 := by simp [askE, h]
    rw [E, E']
    clear E E'
    have hw : IntKind.u32.wrap (x2 + 1) = x2 + 1 := by rw [IntKind.wrap_u32]; omega
    go_enter Try.func15, Try.ntmps15
    go_wp2
    refine bodyPost_ret (v := .tuple #[lnV ⟨x0, x1, x2 + 1, true, b, 1, 1⟩, .int .i64 0]) (by rw [results_cell_tmp rfl]; go_simp) rfl ?_
    refine ⟨rfl, ?_⟩
    repeat (first | exact Only.refl _ _ | exact kw | refine Only.alloc ?_ _ | refine Only.setCell ?_ (.inr (by first | exact Nat.le_refl _ | exact Nat.le_add_right _ _ | exact gw)) _)

theorem tick_any (l : Ln) (w : World) (hl : l.Ok) :
    Calls Try.prog 16 #[lnV l] w fun e w' => e = .returned (.tuple #[lnV (tickL l), .bool (tickB l)]) ∧ Only [] w w' := by
  obtain ⟨_, _, _, ⟨c0, c1⟩, ⟨d0, d1⟩⟩ := hl
  obtain ⟨x0, x1, x2, x3, x4, x5, x6⟩ := l
  simp only at c0 c1 d0 d1
  rcases x3 with _ | _
  · have E : tickL ⟨x0, x1, x2, false, x4, x5, x6⟩ = ⟨x0, x1, x2, false, x4, x5, x6⟩ := by rfl
    have E' : tickB ⟨x0, x1, x2, false, x4, x5, x6⟩ = false := by rfl
    rw [E, E']
    clear E E'
    go_enter Try.func16, Try.ntmps16
    go_wp2
    refine bodyPost_ret (v := .tuple #[lnV ⟨x0, x1, x2, false, x4, x5, x6⟩, .bool false]) (by rw [results_cell_tmp rfl]; go_simp) rfl ?_
    refine ⟨rfl, ?_⟩
    repeat (first | exact Only.refl _ _ | exact kw | refine Only.alloc ?_ _ | refine Only.setCell ?_ (.inr (by first | exact Nat.le_refl _ | exact Nat.le_add_right _ _ | exact gw)) _)
  by_cases h : 1 < x5
  · have f0 : decide (1 < x5) = true := by simp; omega
    have f1 : decide (2 ≤ x5) = true := by simp; omega
    have E : tickL ⟨x0, x1, x2, true, x4, x5, x6⟩ = ⟨x0, x1, x2, true, x4, x5 - 1, x6⟩ := by simp [tickL, h]
    have E' : tickB ⟨x0, x1, x2, true, x4, x5, x6⟩ = false := by simp [tickB, h]
    rw [E, E']
    clear E E'
    have hw : IntKind.i64.wrap (x5 - 1) = x5 - 1 := by rw [IntKind.wrap_i64]; omega
    go_enter Try.func16, Try.ntmps16
    go_wp2
    refine bodyPost_ret (v := .tuple #[lnV ⟨x0, x1, x2, true, x4, x5 - 1, x6⟩, .bool false]) (by rw [results_cell_tmp rfl]; go_simp) rfl ?_
    refine ⟨rfl, ?_⟩
    repeat (first | exact Only.refl _ _ | exact kw | refine Only.alloc ?_ _ | refine Only.setCell ?_ (.inr (by first | exact Nat.le_refl _ | exact Nat.le_add_right _ _ | exact gw)) _)
  by_cases h1 : x6 < 1
  · have f0 : decide (1 < x5) = false := by simp; omega
    have f1 : decide (2 ≤ x5) = false := by simp; omega
    have f2 : decide (x6 < 1) = true := by simp; omega
    have f3 : decide (x6 ≤ 1) = true := by simp; omega
    have E : tickL ⟨x0, x1, x2, true, x4, x5, x6⟩ = ⟨x0, x1, x2, true, x4, 2, 2⟩ := by simp [tickL, h, gapL, h1]
    have E' : tickB ⟨x0, x1, x2, true, x4, x5, x6⟩ = true := by simp [tickB, h]
    rw [E, E']
    clear E E'
    go_enter Try.func16, Try.ntmps16
    go_wp2
    refine bodyPost_ret (v := .tuple #[lnV ⟨x0, x1, x2, true, x4, 2, 2⟩, .bool true]) (by rw [results_cell_tmp rfl]; go_simp) rfl ?_
    refine ⟨rfl, ?_⟩
    repeat (first | exact Only.refl _ _ | exact kw | refine Only.alloc ?_ _ | refine Only.setCell ?_ (.inr (by first | exact Nat.le_refl _ | exact Nat.le_add_right _ _ | exact gw)) _)
  by_cases h2 : x6 ≤ 4
  · have f0 : decide (1 < x5) = false := by simp; omega
    have f1 : decide (2 ≤ x5) = false := by simp; omega
    have f2 : decide (x6 < 1) = false := by simp; omega
    have f3 : decide (4 < x6) = false := by simp; omega
    have f4 : decide (x6 ≤ 8) = true := by simp; omega
    have f5 : decide (8 < x6) = false := by simp; omega
    have E : tickL ⟨x0, x1, x2, true, x4, x5, x6⟩ = ⟨x0, x1, x2, true, x4, 2 * x6, 2 * x6⟩ := by simp [tickL, h, gapL, h1, show ¬ 4 < x6 by omega]
    have E' : tickB ⟨x0, x1, x2, true, x4, x5, x6⟩ = true := by simp [tickB, h]
    rw [E, E']
    clear E E'
    go_enter Try.func16, Try.ntmps16
    go_wp2
    refine bodyPost_ret (v := .tuple #[lnV ⟨x0, x1, x2, true, x4, 2 * x6, 2 * x6⟩, .bool true]) (by rw [results_cell_tmp rfl]; go_simp) rfl ?_
    refine ⟨rfl, ?_⟩
    repeat (first | exact Only.refl _ _ | exact kw | refine Only.alloc ?_ _ | refine Only.setCell ?_ (.inr (by first | exact Nat.le_refl _ | exact Nat.le_add_right _ _ | exact gw)) _)
  by_cases h3 : x6 ≤ 8
  · have f0 : decide (1 < x5) = false := by simp; omega
    have f1 : decide (2 ≤ x5) = false := by simp; omega
    have f2 : decide (x6 < 1) = false := by simp; omega
    have f3 : decide (4 < x6) = true := by simp; omega
    have f4 : decide (x6 ≤ 8) = true := by simp; omega
    have f5 : decide (8 < x6) = false := by simp; omega
    have E : tickL ⟨x0, x1, x2, true, x4, x5, x6⟩ = ⟨x0, x1, x2, true, x4, 8, 8⟩ := by simp [tickL, h, gapL, h1, show 4 < x6 by omega]
    have E' : tickB ⟨x0, x1, x2, true, x4, x5, x6⟩ = true := by simp [tickB, h]
    rw [E, E']
    clear E E'
    go_enter Try.func16, Try.ntmps16
    go_wp2
    refine bodyPost_ret (v := .tuple #[lnV ⟨x0, x1, x2, true, x4, 8, 8⟩, .bool true]) (by rw [results_cell_tmp rfl]; go_simp) rfl ?_
    refine ⟨rfl, ?_⟩
    repeat (first | exact Only.refl _ _ | exact kw | refine Only.alloc ?_ _ | refine Only.setCell ?_ (.inr (by first | exact Nat.le_refl _ | exact Nat.le_add_right _ _ | exact gw)) _)
  · have f0 : decide (1 < x5) = false := by simp; omega
    have f1 : decide (2 ≤ x5) = false := by simp; omega
    have f2 : decide (x6 < 1) = false := by simp; omega
    have f3 : decide (4 < x6) = true := by simp; omega
    have f4 : decide (x6 ≤ 8) = false := by simp; omega
    have f5 : decide (8 < x6) = true := by simp; omega
    have E : tickL ⟨x0, x1, x2, true, x4, x5, x6⟩ = ⟨x0, x1, x2, true, x4, 8, 8⟩ := by simp [tickL, h, gapL, h1, show 4 < x6 by omega]
    have E' : tickB ⟨x0, x1, x2, true, x4, x5, x6⟩ = true := by simp [tickB, h]
    rw [E, E']
    clear E E'
    go_enter Try.func16, Try.ntmps16
    go_wp2
    refine bodyPost_ret (v := .tuple #[lnV ⟨x0, x1, x2, true, x4, 8, 8⟩, .bool true]) (by rw [results_cell_tmp rfl]; go_simp) rfl ?_
    refine ⟨rfl, ?_⟩
    repeat (first | exact Only.refl _ _ | exact kw | refine Only.alloc ?_ _ | refine Only.setCell ?_ (.inr (by first | exact Nat.le_refl _ | exact Nat.le_add_right _ _ | exact gw)) _)

theorem rtick_any (l : Ln) (w : World) (hl : l.Ok) :
    Calls Try.prog 17 #[lnV l] w fun e w' => e = .returned (.tuple #[lnV (tickL l), .bool (tickB l)]) ∧ Only [] w w' := by
  obtain ⟨_, _, _, ⟨c0, c1⟩, ⟨d0, d1⟩⟩ := hl
  obtain ⟨x0, x1, x2, x3, x4, x5, x6⟩ := l
  simp only at c0 c1 d0 d1
  rcases x3 with _ | _
  · have E : tickL ⟨x0, x1, x2, false, x4, x5, x6⟩ = ⟨x0, x1, x2, false, x4, x5, x6⟩ := by rfl
    have E' : tickB ⟨x0, x1, x2, false, x4, x5, x6⟩ = false := by rfl
    rw [E, E']
    clear E E'
    go_enter Try.func17, Try.ntmps17
    go_wp2
    refine bodyPost_ret (v := .tuple #[lnV ⟨x0, x1, x2, false, x4, x5, x6⟩, .bool false]) (by rw [results_cell_tmp rfl]; go_simp) rfl ?_
    refine ⟨rfl, ?_⟩
    repeat (first | exact Only.refl _ _ | exact kw | refine Only.alloc ?_ _ | refine Only.setCell ?_ (.inr (by first | exact Nat.le_refl _ | exact Nat.le_add_right _ _ | exact gw)) _)
  by_cases h : 1 < x5
  · have f0 : decide (1 < x5) = true := by simp; omega
    have f1 : decide (2 ≤ x5) = true := by simp; omega
    have E : tickL ⟨x0, x1, x2, true, x4, x5, x6⟩ = ⟨x0, x1, x2, true, x4, x5 - 1, x6⟩ := by simp [tickL, h]
    have E' : tickB ⟨x0, x1, x2, true, x4, x5, x6⟩ = false := by simp [tickB, h]
    rw [E, E']
    clear E E'
    have hw : IntKind.i64.wrap (x5 - 1) = x5 - 1 := by rw [IntKind.wrap_i64]; omega
    go_enter Try.func17, Try.ntmps17
    go_wp2
    refine bodyPost_ret (v := .tuple #[lnV ⟨x0, x1, x2, true, x4, x5 - 1, x6⟩, .bool false]) (by rw [results_cell_tmp rfl]; go_simp) rfl ?_
    refine ⟨rfl, ?_⟩
    repeat (first | exact Only.refl _ _ | exact kw | refine Only.alloc ?_ _ | refine Only.setCell ?_ (.inr (by first | exact Nat.le_refl _ | exact Nat.le_add_right _ _ | exact gw)) _)
  by_cases h1 : x6 < 1
  · have f0 : decide (1 < x5) = false := by simp; omega
    have f1 : decide (2 ≤ x5) = false := by simp; omega
    have f2 : decide (x6 < 1) = true := by simp; omega
    have f3 : decide (x6 ≤ 1) = true := by simp; omega
    have E : tickL ⟨x0, x1, x2, true, x4, x5, x6⟩ = ⟨x0, x1, x2, true, x4, 2, 2⟩ := by simp [tickL, h, gapL, h1]
    have E' : tickB ⟨x0, x1, x2, true, x4, x5, x6⟩ = true := by simp [tickB, h]
    rw [E, E']
    clear E E'
    go_enter Try.func17, Try.ntmps17
    go_wp2
    refine bodyPost_ret (v := .tuple #[lnV ⟨x0, x1, x2, true, x4, 2, 2⟩, .bool true]) (by rw [results_cell_tmp rfl]; go_simp) rfl ?_
    refine ⟨rfl, ?_⟩
    repeat (first | exact Only.refl _ _ | exact kw | refine Only.alloc ?_ _ | refine Only.setCell ?_ (.inr (by first | exact Nat.le_refl _ | exact Nat.le_add_right _ _ | exact gw)) _)
  by_cases h2 : x6 ≤ 4
  · have f0 : decide (1 < x5) = false := by simp; omega
    have f1 : decide (2 ≤ x5) = false := by simp; omega
    have f2 : decide (x6 < 1) = false := by simp; omega
    have f3 : decide (4 < x6) = false := by simp; omega
    have f4 : decide (x6 ≤ 8) = true := by simp; omega
    have f5 : decide (8 < x6) = false := by simp; omega
    have E : tickL ⟨x0, x1, x2, true, x4, x5, x6⟩ = ⟨x0, x1, x2, true, x4, 2 * x6, 2 * x6⟩ := by simp [tickL, h, gapL, h1, show ¬ 4 < x6 by omega]
    have E' : tickB ⟨x0, x1, x2, true, x4, x5, x6⟩ = true := by simp [tickB, h]
    rw [E, E']
    clear E E'
    go_enter Try.func17, Try.ntmps17
    go_wp2
    refine bodyPost_ret (v := .tuple #[lnV ⟨x0, x1, x2, true, x4, 2 * x6, 2 * x6⟩, .bool true]) (by rw [results_cell_tmp rfl]; go_simp) rfl ?_
    refine ⟨rfl, ?_⟩
    repeat (first | exact Only.refl _ _ | exact kw | refine Only.alloc ?_ _ | refine Only.setCell ?_ (.inr (by first | exact Nat.le_refl _ | exact Nat.le_add_right _ _ | exact gw)) _)
  by_cases h3 : x6 ≤ 8
  · have f0 : decide (1 < x5) = false := by simp; omega
    have f1 : decide (2 ≤ x5) = false := by simp; omega
    have f2 : decide (x6 < 1) = false := by simp; omega
    have f3 : decide (4 < x6) = true := by simp; omega
    have f4 : decide (x6 ≤ 8) = true := by simp; omega
    have f5 : decide (8 < x6) = false := by simp; omega
    have E : tickL ⟨x0, x1, x2, true, x4, x5, x6⟩ = ⟨x0, x1, x2, true, x4, 8, 8⟩ := by simp [tickL, h, gapL, h1, show 4 < x6 by omega]
    have E' : tickB ⟨x0, x1, x2, true, x4, x5, x6⟩ = true := by simp [tickB, h]
    rw [E, E']
    clear E E'
    go_enter Try.func17, Try.ntmps17
    go_wp2
    refine bodyPost_ret (v := .tuple #[lnV ⟨x0, x1, x2, true, x4, 8, 8⟩, .bool true]) (by rw [results_cell_tmp rfl]; go_simp) rfl ?_
    refine ⟨rfl, ?_⟩
    repeat (first | exact Only.refl _ _ | exact kw | refine Only.alloc ?_ _ | refine Only.setCell ?_ (.inr (by first | exact Nat.le_refl _ | exact Nat.le_add_right _ _ | exact gw)) _)
  · have f0 : decide (1 < x5) = false := by simp; omega
    have f1 : decide (2 ≤ x5) = false := by simp; omega
    have f2 : decide (x6 < 1) = false := by simp; omega
    have f3 : decide (4 < x6) = true := by simp; omega
    have f4 : decide (x6 ≤ 8) = false := by simp; omega
    have f5 : decide (8 < x6) = true := by simp; omega
    have E : tickL ⟨x0, x1, x2, true, x4, x5, x6⟩ = ⟨x0, x1, x2, true, x4, 8, 8⟩ := by simp [tickL, h, gapL, h1, show 4 < x6 by omega]
    have E' : tickB ⟨x0, x1, x2, true, x4, x5, x6⟩ = true := by simp [tickB, h]
    rw [E, E']
    clear E E'
    go_enter Try.func17, Try.ntmps17
    go_wp2
    refine bodyPost_ret (v := .tuple #[lnV ⟨x0, x1, x2, true, x4, 8, 8⟩, .bool true]) (by rw [results_cell_tmp rfl]; go_simp) rfl ?_
    refine ⟨rfl, ?_⟩
    repeat (first | exact Only.refl _ _ | exact kw | refine Only.alloc ?_ _ | refine Only.setCell ?_ (.inr (by first | exact Nat.le_refl _ | exact Nat.le_add_right _ _ | exact gw)) _)


end Go.Proofs.Ytjogdilkdnnhnaa
