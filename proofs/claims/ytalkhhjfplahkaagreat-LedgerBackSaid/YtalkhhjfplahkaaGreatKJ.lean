/- Joined: Mines, Str10s, Op11, Cmp11, Val11. -/
import Derived.Test.YtalkhhjfplahkaaGreatKRight10
import Derived.Test.YtalkhhjfplahkaaGreatKI
import Derived.Test.YtalkhhjfplahkaaGreatKB
import Derived.Laws.StructEq
import Derived.Deep.AppendLies
import Derived.Deep.Slices
import Derived.Deep.Fields
import Derived.ProofKit
import Derived.Lib.Hide
import Derived.Deep.RegionHeld3
import Derived.Laws.CopyRow
import Derived.StillTailTactics
import Derived.Test.YtalkhhjfplahkaaGreatChecked
import Derived.Test.YtalkhhjfplahkaaGreatKC
import Derived.Tactics
import Derived.Tactics2
import Derived.StillTactics
import Derived.RegionTactic
import Derived.WalkKit
import Derived.Deep.MidRow
import Derived.Deep.WholeRow
import Derived.WalkLawsBesides
import Derived.WalkSpells
import Derived.Outline
import Derived.Laws.Pointers
import Derived.Laws.Small
import Derived.Laws.Build
import Derived.Laws.Cover3
import Derived.KernelRfl
import Derived.BigQuiet
import Derived.BigRegion
import Derived.OwnWalk
import Derived.LoopTactic
import Derived.Laws.ResultCell
namespace Go.Proofs.YtalkhhjfplahkaaGreat
open Go.RowKit

section
variable {α : Type}
end

section
variable {α : Type}
variable {enc : α → List Value} {k : Nat} {w w' : World} {A : Option Addr} {l : List α}
variable {P : Program}
end

section
variable {α : Type} {enc : α → List Value} {k : Nat} {e : TypeId} {w w1 w2 : World} {v v' : Value} {l : List α}
end

end Go.Proofs.YtalkhhjfplahkaaGreat
namespace Go.Proofs.YtalkhhjfplahkaaGreat
set_option maxRecDepth 100000
open Go.RowKit Go.WideShapes Go.ChangeShapes Go.Deep

section
variable {H : Type} {enc : TypeId × Value → H} {P : Program} {w : World} {base : Nat} {spare : Nat → Bool} {held : Bool}

end

end Go.Proofs.YtalkhhjfplahkaaGreat
namespace Go.Proofs.YtalkhhjfplahkaaGreat
set_option maxRecDepth 100000
open Go.RowKit

theorem Only.undrewN {S : List Nat} {w w' : World} {n : Nat} (h : Only S (w.drewN n) w') : Only S w w' := ⟨h.os, h.tape, h.output, h.size, h.block⟩

def opE (x : Opn) : List Value := [.int .u32 x.client, .int .u32 x.handle, .int .u32 x.file, .int .u32 x.access, .int .u32 (x.deny : Int)]
def opV (x : Opn) : Value := .agg #[.int .u32 x.client, .int .u32 x.handle, .int .u32 x.file, .int .u32 x.access, .int .u32 (x.deny : Int)]
def opA (x : Opn) : Array Value := #[.int .u32 x.client, .int .u32 x.handle, .int .u32 x.file, .int .u32 x.access, .int .u32 (x.deny : Int)]
theorem opE_length (x : Opn) : (opE x).length = 5 := rfl
theorem opE_one (x : Opn) : ∀ v ∈ opE x, v.oneCell' = true := by
  intro v hv
  simp [opE] at hv
  rcases hv with rfl | rfl | rfl | rfl | rfl <;> rfl
theorem info_op : (Tryz.prog.info? 61).map (fun i => (i.zero, i.size, i.bytes)) = some (some (.agg #[.int .u32 0, .int .u32 0, .int .u32 0, .int .u32 0, .int .u32 0]), 5, 20) := by kernel_rfl
theorem ops_at {w : World} {g o : Nat} {l : List Opn} (h : ElsAt opE 5 w g o l) {i : Nat} (hi : i < l.length) :
    w.cell? ⟨g, o + i * 5, none⟩ = some (.int .u32 l[i].client) ∧ w.cell? ⟨g, o + i * 5 + 1, none⟩ = some (.int .u32 l[i].handle) ∧ w.cell? ⟨g, o + i * 5 + 2, none⟩ = some (.int .u32 l[i].file) ∧ w.cell? ⟨g, o + i * 5 + 3, none⟩ = some (.int .u32 l[i].access) ∧ w.cell? ⟨g, o + i * 5 + 4, none⟩ = some (.int .u32 (l[i].deny : Int)) :=
  ⟨by simpa using h i hi 0 _ rfl, h i hi 1 _ rfl, h i hi 2 _ rfl, h i hi 3 _ rfl, h i hi 4 _ rfl⟩
theorem opV_zero : opV zeroO = .agg #[.int .u32 0, .int .u32 0, .int .u32 0, .int .u32 0, .int .u32 0] := rfl
theorem opA_zero : opA zeroO = #[.int .u32 0, .int .u32 0, .int .u32 0, .int .u32 0, .int .u32 0] := rfl
theorem size_op : (Tryz.prog.info? 61).map (·.size) = some 5 := by kernel_rfl
theorem size_op' : ∀ w, (Go.sizeOf 61).run Tryz.prog w = .ok 5 w := Tryz.sizeOf61

section
variable {P : Program} {ops : Array Oper} {rest : List Oper} {o : Oper} {a : Act} {w : World} {Q : Exit → Act → World → Prop}
end

/-- A boxed open. -/
abbrev Bxs (w : World) (g : Nat) (x : Opn) : Prop := Blk w g 61 (opA x)
theorem Bxs.cells {w : World} {g : Nat} {x : Opn} (h : Bxs w g x) : w.cell? ⟨g, 0, none⟩ = some (.int .u32 x.client) ∧ w.cell? ⟨g, 1, none⟩ = some (.int .u32 x.handle) ∧ w.cell? ⟨g, 2, none⟩ = some (.int .u32 x.file) ∧ w.cell? ⟨g, 3, none⟩ = some (.int .u32 x.access) ∧ w.cell? ⟨g, 4, none⟩ = some (.int .u32 (x.deny : Int)) :=
  ⟨h.cell 0, h.cell 1, h.cell 2, h.cell 3, h.cell 4⟩
theorem Bxs.kept {S : List Nat} {w w' : World} {g : Nat} {x : Opn} (h : Bxs w g x) (k : Only S w w') (hg : g ∉ S) : Bxs w' g x := Blk.kept h k hg
theorem Bxs.alloc {w : World} {g : Nat} {x : Opn} (h : Bxs w g x) (o : Obj) : Bxs (w.alloc o) g x := Blk.alloc h o
theorem Bxs.new (w : World) (x : Opn) : Bxs (w.alloc (.cells #[.int .u32 x.client, .int .u32 x.handle, .int .u32 x.file, .int .u32 x.access, .int .u32 (x.deny : Int)] 61)) w.heap.size x := Blk.new _ _ _
theorem Bxs.zero (w : World) : Bxs (w.alloc (.cells #[.int .u32 0, .int .u32 0, .int .u32 0, .int .u32 0, .int .u32 0] 61)) w.heap.size zeroO := Blk.new _ _ _
section
variable {ops : Array Oper} {rest : List Oper} {o : Oper} {a : Act} {w : World} {Q : Exit → Act → World → Prop}
theorem wpList_load_op (p : Opn) (hw : Region.wanted o (yielded ops a.tmps) = true) (x : Operand) (ho : o.op = .load 61 x) (g : Nat) (hx : a.eval x = .pointer (some ⟨g, 0, none⟩)) (hb : Blk w g 61 (opA p))
    (h : wpList Tryz.prog ops Q rest (a.put o.dst (opV p)) w) : wpList Tryz.prog ops Q (o :: rest) a w :=
  wpList_load_blk hw 61 x ho g hx (opA p).toList _ hb Tryz.underlying61 rfl size_op h
theorem wpList_store_op (p q : Opn) (hw : Region.wanted o (yielded ops a.tmps) = true) (x y : Operand) (ho : o.op = .store 61 x y) (g : Nat) (hx : a.eval x = .pointer (some ⟨g, 0, none⟩)) (hy : a.eval y = opV p) (hb : Blk w g 61 (opA q))
    (h : ∀ w', Blk w' g 61 (opA p) → Only [g] w w' → wpList Tryz.prog ops Q rest (a.put o.dst undef) w') : wpList Tryz.prog ops Q (o :: rest) a w :=
  wpList_store_blk hw 61 x y ho g _ _ hx hy hb size_op rfl (by simp [Value.oneCell']) h
end
theorem results_op {fn : Func} {p u : Tmp} (h : fn.results = #[.cell p 61, .tmp u]) (tmps : Array Value) (w : World) (g : Nat) (hp : tmps.getD p undef = .pointer (some ⟨g, 0, none⟩)) (q : Opn) (hb : Blk w g 61 (opA q)) (v : Value) (hv : tmps.getD u undef = v) :
    (results fn tmps).run Tryz.prog w = .ok (.tuple #[opV q, v]) w := by
  subst hv
  have hl := run_loadVar_mid (P := Tryz.prog) w g 0 61 (opA q).toList _ (Blk.range9 hb) Tryz.underlying61 rfl size_op
  rw [results_cell_tmp h, hp]
  simp only [asAddr, Sem.run_pure, Result.andThen_ok, hl]
  rfl

theorem opn_iff (x y : Opn) : x = y ↔ (x.client = y.client ∧ x.handle = y.handle ∧ x.file = y.file ∧ x.access = y.access ∧ (x.deny : Int) = (y.deny : Int)) :=
  ⟨fun h => by subst h; exact ⟨rfl, rfl, rfl, rfl, rfl⟩, fun ⟨h1, h2, h3, h4, h5⟩ => opn_ext h1 h2 h3 h4 (by omega)⟩
set_option maxRecDepth 100000 in
set_option maxHeartbeats 2000000 in
theorem run_eql_op (p q : Opn) (w : World) : (binOp .eql 61 (opV p) (opV q)).run Tryz.prog w = .ok (.bool (decide (p = q))) w := by
  have hb := opn_iff p q
  generalize hB : decide (p = q) = B
  obtain ⟨x0, x1, x2, x3, x4⟩ := p
  obtain ⟨y0, y1, y2, y3, y4⟩ := q
  simp only at hb
  unfold opV
  simp only
  generalize (x4 : Int) = s4 at *
  generalize (y4 : Int) = u4 at *
  rw [run_eql_struct]
  have hb := Lib.hid hb
  have hB := Lib.hid hB
  go_simp
  by_cases h0 : x0 = y0
  rotate_left
  · rw [if_neg h0, ← hB.out, decide_eq_false (fun h => h0 (hb.out.1 h).1)]
  rw [if_pos h0]
  by_cases h1 : x1 = y1
  rotate_left
  · rw [if_neg h1, ← hB.out, decide_eq_false (fun h => h1 (hb.out.1 h).2.1)]
  rw [if_pos h1]
  by_cases h2 : x2 = y2
  rotate_left
  · rw [if_neg h2, ← hB.out, decide_eq_false (fun h => h2 (hb.out.1 h).2.2.1)]
  rw [if_pos h2]
  by_cases h3 : x3 = y3
  rotate_left
  · rw [if_neg h3, ← hB.out, decide_eq_false (fun h => h3 (hb.out.1 h).2.2.2.1)]
  rw [if_pos h3]
  by_cases h4 : s4 = u4
  rotate_left
  · rw [if_neg h4, ← hB.out, decide_eq_false (fun h => h4 (hb.out.1 h).2.2.2.2)]
  rw [if_pos h4]
  rw [← hB.out, decide_eq_true (hb.out.2 ⟨h0, h1, h2, h3, h4⟩)]

section
variable {ops : Array Oper} {rest : List Oper} {o : Oper} {a : Act} {w : World} {Q : Exit → Act → World → Prop}
theorem wpList_eql_op (p q : Opn) (hw : Region.wanted o (yielded ops a.tmps) = true) (x y : Operand) (u : TypeId) (ho : o.op = .binOp .eql 61 x y u) (hx : a.eval x = opV p) (hy : a.eval y = opV q) (b : Bool) (hb : decide (p = q) = b)
    (h : wpList Tryz.prog ops Q rest (a.put o.dst (.bool b)) w) : wpList Tryz.prog ops Q (o :: rest) a w := by
  subst hb
  refine wpList_want hw fun _ hK => ?_
  have hg := run_eqGuard_agg (P := Tryz.prog) w .eql 61 x y (opA p) (opA q) (by kernel_rfl)
  have hr : (binOp .eql 61 (.agg (opA p)) (.agg (opA q))).run Tryz.prog w = .ok (.bool (decide (p = q))) w := run_eql_op p q w
  have hx' : a.eval x = .agg (opA p) := hx
  have hy' : a.eval y = .agg (opA q) := hy
  unfold Oper.wp execOp
  simp only [ho, hx', hy', Sem.run_bind, Sem.run_pure, Result.andThen_ok, hg, hr]
  exact hK _ _ h
theorem wpList_neq_op (p q : Opn) (hw : Region.wanted o (yielded ops a.tmps) = true) (x y : Operand) (u : TypeId) (ho : o.op = .binOp .neq 61 x y u) (hx : a.eval x = opV p) (hy : a.eval y = opV q) (b : Bool) (hb : (!decide (p = q)) = b)
    (h : wpList Tryz.prog ops Q rest (a.put o.dst (.bool b)) w) : wpList Tryz.prog ops Q (o :: rest) a w := by
  subst hb
  refine wpList_want hw fun _ hK => ?_
  have hg := run_eqGuard_agg (P := Tryz.prog) w .neq 61 x y (opA p) (opA q) (by kernel_rfl)
  have hr : (binOp .eql 61 (.agg (opA p)) (.agg (opA q))).run Tryz.prog w = .ok (.bool (decide (p = q))) w := run_eql_op p q w
  have hx' : a.eval x = .agg (opA p) := hx
  have hy' : a.eval y = .agg (opA q) := hy
  have hn : (binOp .neq 61 (.agg (opA p)) (.agg (opA q))).run Tryz.prog w = .ok (.bool (!decide (p = q))) w := by
    rw [run_eql_struct] at hr
    rw [run_neq_struct]
    generalize (Op.equalIn 10000 61 (.agg (opA p)) (.agg (opA q))).run Tryz.prog w = R at hr ⊢
    cases R with
    | ok v w1 =>
      simp only [Result.andThen_ok, Result.ok.injEq, Value.bool.injEq] at hr ⊢
      exact ⟨by rw [hr.1], hr.2⟩
    | halt x w1 => simp [Result.andThen] at hr
  unfold Oper.wp execOp
  simp only [ho, hx', hy', Sem.run_bind, Sem.run_pure, Result.andThen_ok, hg, hn]
  exact hK _ _ h
end

/-! A list's tail and head, as slices. -/
section
variable {α : Type} {enc : α → List Value} {k : Nat} {w : World} {A : Option Addr} {l : List α}
end
section
variable {P : Program}
end
section
variable {P : Program}
theorem held_step2 {ops : Array Oper} {Q : Exit → Act → World → Prop} {md : Region.Mode} {S : World → Prop} {fuel : Nat} {listed : Array Bool} {a : Act} {w : World} (i j : Nat) {oi oj : Oper} (hi : ops.toList[i]? = some oi) (hj : ops.toList[j]? = some oj)
    (hr : Region.ready md ops listed = [i, j])
    (h : ∀ K' : Act → World → Prop, Shut (∀ a w, S w → (S w → wpAnyH P md ops Q S fuel (listed.setIfInBounds i true) a w) → K' a w) → if Region.wanted oi (yielded ops a.tmps) = true then Oper.wp P oi a w K' Q else K' (a.put oi.dst undef) w)
    (h' : ∀ K' : Act → World → Prop, Shut (∀ a w, S w → (S w → wpAnyH P md ops Q S fuel (listed.setIfInBounds j true) a w) → K' a w) → if Region.wanted oj (yielded ops a.tmps) = true then Oper.wp P oj a w K' Q else K' (a.put oj.dst undef) w) :
    wpAnyH P md ops Q S (fuel + 1) listed a w :=
  wpAnyH_ready hr (by simp) (AllReadyH.cons (by simpa using hi) h (AllReadyH.cons (by simpa using hj) h' AllReadyH.nil))
end
end Go.Proofs.YtalkhhjfplahkaaGreat
namespace Go.Proofs.YtalkhhjfplahkaaGreat
set_option maxRecDepth 100000
open Go.RowKit

def orL : List Int → Int
  | [] => 0
  | x :: r => if x = 0 then orL r else x
theorem or_any (w : World) (g c : Nat) (xs : List Int) (h : ∀ j (hj : j < xs.length), w.cell? ⟨g, j, none⟩ = some (.int .i64 xs[j])) (hl : xs.length ≤ 100) :
    Calls Tryz.prog 104 #[.slice (some ⟨g, 0, none⟩) xs.length c] w fun e w' => e = .returned (.int .i64 (orL xs)) ∧ w' = w := by
  obtain ⟨r, hr⟩ : ∃ r, r = orL xs := ⟨_, rfl⟩
  rw [← hr]
  have hs : r = orL (xs.drop 0) := by rw [hr]; rfl
  replace hs := Lib.hid hs
  replace h := Lib.hid h
  clear hr
  go_enter Tryz.func104, Tryz.ntmps104
  go_wp2_with fail
  go_loopw [8] (fun i wr => ∃ n : Nat, n ≤ xs.length ∧ i = .int .i64 n ∧ Hid (r = orL (xs.drop n)) ∧ wr = w) (fun i _ => xs.length - (intOf i).toNat)
  case atStart => exact ⟨0, Nat.zero_le _, rfl, hs, rfl⟩
  case round =>
    obtain ⟨n, hn, rfl, hm, rfl⟩ := hrel
    by_cases hlt : n < xs.length
    · have hc := h.out n hlt
      have hd := List.drop_eq_getElem_cons hlt
      generalize xs[n] = x at *
      have hm2 := hm.out
      rw [hd] at hm2
      simp only [orL] at hm2
      replace hd := Lib.hid hd
      by_cases hx : x = 0
      · rw [if_pos hx] at hm2
        subst hx
        replace hm2 := Lib.hid hm2
        go_wp2
        go_roundw
        case rel => exact ⟨n + 1, by omega, by go_num, hm2, by trivial⟩
        case measure => simp [intOf]; omega
      · rw [if_neg hx] at hm2
        subst hm2
        go_wp2
        go_ret
        exact ⟨rfl, rfl⟩
    · have hm2 := hm.out
      rw [List.drop_of_length_le (by omega)] at hm2
      simp only [orL] at hm2
      subst hm2
      go_wp2
      go_ret
      exact ⟨rfl, rfl⟩

def ordI (a b : Opn) : Int := orL [cmpI a.client b.client, cmpI a.handle b.handle]
theorem ordI_lt (a b : Opn) : ordI a b < 0 ↔ keyLt a b := by
  unfold ordI orL orL orL cmpI keyLt
  split <;> split <;> (try split) <;> (try split) <;> omega
theorem ordI_eq (a b : Opn) : ordI a b = 0 ↔ (a.client = b.client ∧ a.handle = b.handle) := by
  unfold ordI orL orL orL cmpI
  split <;> split <;> (try split) <;> (try split) <;> omega
set_option maxRecDepth 100000 in
set_option maxHeartbeats 2000000 in
theorem order_any (w : World) (x y : Opn) : Calls Tryz.prog 79 #[opV x, opV y] w fun e w' => e = .returned (.int .i64 (ordI x y)) ∧ Only [] w w' := by
  have hor : ∀ (W : World) (g : Nat), Blk W g 3 #[.int .i64 (cmpI x.client y.client), .int .i64 (cmpI x.handle y.handle)] → Calls Tryz.prog 104 #[.slice (some ⟨g, 0, none⟩) 2 2] W fun e w' => e = .returned (.int .i64 (orL [cmpI x.client y.client, cmpI x.handle y.handle])) ∧ w' = W := fun W g h => or_any W g 2 [cmpI x.client y.client, cmpI x.handle y.handle] (fun j hj => by
    rw [h.cell]
    match j, hj with
    | 0, _ => rfl
    | 1, _ => rfl) (by simp)
  have ho : orL [cmpI x.client y.client, cmpI x.handle y.handle] = ordI x y := rfl
  rw [ho] at hor
  clear ho
  generalize ordI x y = r at *
  obtain ⟨x0, x1, x2, x3, x4⟩ := x
  obtain ⟨y0, y1, y2, y3, y4⟩ := y
  simp only at hor
  have bx := Bxs.new w ⟨x0, x1, x2, x3, x4⟩
  have by_ := Bxs.new (w.alloc (.cells #[.int .u32 x0, .int .u32 x1, .int .u32 x2, .int .u32 x3, .int .u32 (x4 : Int)] 61)) ⟨y0, y1, y2, y3, y4⟩
  simp only at bx by_
  have hsz : (w.alloc (.cells #[.int .u32 x0, .int .u32 x1, .int .u32 x2, .int .u32 x3, .int .u32 (x4 : Int)] 61)).heap.size = w.heap.size + 1 := by simp
  rw [hsz] at by_
  clear hsz
  have kw : Only [] w ((w.alloc (.cells #[.int .u32 x0, .int .u32 x1, .int .u32 x2, .int .u32 x3, .int .u32 (x4 : Int)] 61)).alloc (.cells #[.int .u32 y0, .int .u32 y1, .int .u32 y2, .int .u32 y3, .int .u32 (y4 : Int)] 61)) := ((Only.refl [] w).alloc _).alloc _
  have bx2 := bx.alloc (.cells #[.int .u32 y0, .int .u32 y1, .int .u32 y2, .int .u32 y3, .int .u32 (y4 : Int)] 61)
  have hcx := cmp_any (a := x0) (b := y0)
  have hcy := cmp_any (a := x1) (b := y1)
  generalize cmpI x0 y0 = c0 at *
  generalize cmpI x1 y1 = c1 at *
  have KP : Hid (∀ w', Only [] ((w.alloc (.cells #[.int .u32 x0, .int .u32 x1, .int .u32 x2, .int .u32 x3, .int .u32 (x4 : Int)] 61)).alloc (.cells #[.int .u32 y0, .int .u32 y1, .int .u32 y2, .int .u32 y3, .int .u32 (y4 : Int)] 61)) w' → w'.cell? ⟨w.heap.size, 0, none⟩ = some (.int .u32 x0) ∧ w'.cell? ⟨w.heap.size, 1, none⟩ = some (.int .u32 x1) ∧ w'.cell? ⟨w.heap.size + 1, 0, none⟩ = some (.int .u32 y0) ∧ w'.cell? ⟨w.heap.size + 1, 1, none⟩ = some (.int .u32 y1)) :=
    fun w' kk => ⟨(bx2.kept kk (by simp)).cells.1, (bx2.kept kk (by simp)).cells.2.1, (by_.kept kk (by simp)).cells.1, (by_.kept kk (by simp)).cells.2.1⟩
  replace hor := Lib.hid hor
  replace hcx := Lib.hid hcx
  replace hcy := Lib.hid hcy
  clear bx bx2 by_
  unfold opV
  simp only
  go_enter Tryz.func79, Tryz.ntmps79
  go_wp2_with fail
  generalize ((w.alloc (.cells #[.int .u32 x0, .int .u32 x1, .int .u32 x2, .int .u32 x3, .int .u32 (x4 : Int)] 61)).alloc (.cells #[.int .u32 y0, .int .u32 y1, .int .u32 y2, .int .u32 y3, .int .u32 (y4 : Int)] 61)) = wa at *
  generalize w.heap.size = gx at *
  refine wp_region_held_drew (S := fun w' => w'.cell? ⟨gx, 0, none⟩ = some (.int .u32 x0) ∧ w'.cell? ⟨gx, 1, none⟩ = some (.int .u32 x1) ∧ w'.cell? ⟨gx + 1, 0, none⟩ = some (.int .u32 y0) ∧ w'.cell? ⟨gx + 1, 1, none⟩ = some (.int .u32 y1)) (by kernel_rfl) (KP.out _ (Only.refl _ _).drew) (fun hHeld => ?_)
  refine held_take 0 (.pointer (some ⟨gx, 0, none⟩)) rfl (by kernel_rfl) (by kernel_rfl) (by kernel_rfl) (fun _ _ _ h => h) hHeld (Or.inl ⟨by rfl, fun w' hSw => by (try dsimp only at hSw); (try subst hSw); go_simp⟩) ?_
  simp only [Act.put, List.setIfInBounds_toArray, List.set_cons_zero, List.set_cons_succ]
  refine held_take 1 (.int .u32 x0) rfl (by kernel_rfl) (by kernel_rfl) (by kernel_rfl) (fun _ _ _ h => h) hHeld (Or.inl ⟨by rfl, fun w' hSw => by (try dsimp only at hSw); (try subst hSw); go_simp⟩) ?_
  simp only [Act.put, List.setIfInBounds_toArray, List.set_cons_zero, List.set_cons_succ]
  refine held_take 2 (.pointer (some ⟨gx + 1, 0, none⟩)) rfl (by kernel_rfl) (by kernel_rfl) (by kernel_rfl) (fun _ _ _ h => h) hHeld (Or.inl ⟨by rfl, fun w' hSw => by (try dsimp only at hSw); (try subst hSw); go_simp⟩) ?_
  simp only [Act.put, List.setIfInBounds_toArray, List.set_cons_zero, List.set_cons_succ]
  refine held_take 3 (.int .u32 y0) rfl (by kernel_rfl) (by kernel_rfl) (by kernel_rfl) (fun _ _ _ h => h) hHeld (Or.inl ⟨by rfl, fun w' hSw => by (try dsimp only at hSw); (try subst hSw); go_simp⟩) ?_
  simp only [Act.put, List.setIfInBounds_toArray, List.set_cons_zero, List.set_cons_succ]
  refine held_take 5 (.pointer (some ⟨gx, 1, none⟩)) rfl (by kernel_rfl) (by kernel_rfl) (by kernel_rfl) (fun _ _ _ h => h) hHeld (Or.inl ⟨by rfl, fun w' hSw => by (try dsimp only at hSw); (try subst hSw); go_simp⟩) ?_
  simp only [Act.put, List.setIfInBounds_toArray, List.set_cons_zero, List.set_cons_succ]
  refine held_take 6 (.int .u32 x1) rfl (by kernel_rfl) (by kernel_rfl) (by kernel_rfl) (fun _ _ _ h => h) hHeld (Or.inl ⟨by rfl, fun w' hSw => by (try dsimp only at hSw); (try subst hSw); go_simp⟩) ?_
  simp only [Act.put, List.setIfInBounds_toArray, List.set_cons_zero, List.set_cons_succ]
  refine held_take 7 (.pointer (some ⟨gx + 1, 1, none⟩)) rfl (by kernel_rfl) (by kernel_rfl) (by kernel_rfl) (fun _ _ _ h => h) hHeld (Or.inl ⟨by rfl, fun w' hSw => by (try dsimp only at hSw); (try subst hSw); go_simp⟩) ?_
  simp only [Act.put, List.setIfInBounds_toArray, List.set_cons_zero, List.set_cons_succ]
  refine held_take 8 (.int .u32 y1) rfl (by kernel_rfl) (by kernel_rfl) (by kernel_rfl) (fun _ _ _ h => h) hHeld (Or.inl ⟨by rfl, fun w' hSw => by (try dsimp only at hSw); (try subst hSw); go_simp⟩) ?_
  simp only [Act.put, List.setIfInBounds_toArray, List.set_cons_zero, List.set_cons_succ]
  refine held_step 4 rfl (by kernel_rfl) (fun K hK => ?_)
  go_simp
  refine (hcx.out _).mono ?_; rintro e w3 ⟨rfl, rfl⟩
  go_wp2_with fail
  refine hK.out _ _ (KP.out _ (Only.refl _ _).drew) (fun hHeld => ?_)
  clear hK K
  refine held_step 9 rfl (by kernel_rfl) (fun K hK => ?_)
  go_simp
  refine (hcy.out _).mono ?_; rintro e w3 ⟨rfl, rfl⟩
  go_wp2_with fail
  refine hK.out _ _ (KP.out _ (Only.refl _ _).drew) (fun hHeld => ?_)
  clear hK K
  have bq : Blk (wa.drew.alloc (.cells #[.int .i64 c0, .int .i64 c1] 3)) wa.drew.heap.size 3 #[.int .i64 c0, .int .i64 c1] := Blk.new _ _ _
  have hkz : Only [] wa (wa.drew.alloc (.cells #[.int .i64 c0, .int .i64 c1] 3)) := (Only.refl [] wa).drew.alloc _
  refine held_step 10 rfl (by kernel_rfl) (fun K hK => ?_)
  go_simp
  go_wp2_with fail
  refine hK.out _ _ (KP.out _ hkz) (fun hHeld => ?_)
  clear hK K
  refine held_step 11 rfl (by kernel_rfl) (fun K hK => ?_)
  go_simp
  refine (hor.out _ _ bq).mono ?_; rintro e w4 ⟨rfl, rfl⟩
  go_wp2_with fail
  refine hK.out _ _ (KP.out _ hkz) (fun hHeld => ?_)
  clear hK K
  refine held_take 12 (.int .i64 r) rfl (by kernel_rfl) (by kernel_rfl) (by kernel_rfl) (fun _ _ _ h => h) hHeld (Or.inl ⟨by rfl, fun w' hSw => by (try dsimp only at hSw); (try subst hSw); go_simp⟩) ?_
  simp only [Act.put, List.setIfInBounds_toArray, List.set_cons_zero, List.set_cons_succ]
  refine wpAnyH_done (by kernel_rfl) ?_ _
  clear hHeld
  go_wp2
  go_ret
  exact ⟨rfl, kw.trans hkz⟩
end Go.Proofs.YtalkhhjfplahkaaGreat
namespace Go.Proofs.YtalkhhjfplahkaaGreat
set_option maxRecDepth 100000
open Go.RowKit

set_option linter.unusedVariables false

set_option maxRecDepth 100000 in
theorem valid_any (w : World) (x : Opn) : Calls Tryz.prog 76 #[opV x] w fun e w' => e = .returned (.bool (decide (validO x))) ∧ Only [] w w' := by
  obtain ⟨r, hr⟩ : ∃ r, r = decide (validO x) := ⟨_, rfl⟩
  rw [← hr]
  obtain ⟨x0, x1, x2, x3, x4⟩ := x
  have hk : Only [] w (w.alloc (.cells #[.int .u32 x0, .int .u32 x1, .int .u32 x2, .int .u32 x3, .int .u32 (x4 : Int)] 61)) := (Only.refl [] w).alloc _
  unfold validO at hr
  unfold opV
  simp only at hr ⊢
  by_cases p1 : ¬ x0 = 0
  · have dp10 : (x0 != 0) = true := by simpa using p1
    have dp11 : ¬ x0 = 0 := p1
    by_cases p2 : ¬ x2 = 0
    · have dp20 : (x2 != 0) = true := by simpa using p2
      have dp21 : ¬ x2 = 0 := p2
      by_cases p3 : 1 ≤ x3
      · have dp30 : decide (1 ≤ x3) = true := decide_eq_true p3
        have dp31 : 1 ≤ x3 := p3
        by_cases p4 : x3 ≤ 3
        · have dp40 : decide (x3 ≤ 3) = true := decide_eq_true p4
          have dp41 : x3 ≤ 3 := p4
          by_cases p5 : (x4 : Int) ≤ 3
          · have dp50 : decide ((x4 : Int) ≤ 3) = true := decide_eq_true p5
            have dp51 : (x4 : Int) ≤ 3 := p5
            obtain rfl : r = true := by rw [hr]; exact decide_eq_true ⟨p1, p2, p3, p4, by omega⟩
            clear hr
            go_enter Tryz.func76, Tryz.ntmps76
            go_wp2
            go_ret
            exact ⟨rfl, hk⟩
          · have dp50 : decide ((x4 : Int) ≤ 3) = false := decide_eq_false p5
            have dp51 : ¬ (x4 : Int) ≤ 3 := p5
            obtain rfl : r = false := by rw [hr]; exact decide_eq_false (fun h => p5 (by have := h.2.2.2.2; omega))
            clear p5 hr
            go_enter Tryz.func76, Tryz.ntmps76
            go_wp2
            go_ret
            exact ⟨rfl, hk⟩
        · have dp40 : decide (x3 ≤ 3) = false := decide_eq_false p4
          have dp41 : ¬ x3 ≤ 3 := p4
          obtain rfl : r = false := by rw [hr]; exact decide_eq_false (fun h => p4 h.2.2.2.1)
          clear p4 hr
          go_enter Tryz.func76, Tryz.ntmps76
          go_wp2
          go_ret
          exact ⟨rfl, hk⟩
      · have dp30 : decide (1 ≤ x3) = false := decide_eq_false p3
        have dp31 : ¬ 1 ≤ x3 := p3
        obtain rfl : r = false := by rw [hr]; exact decide_eq_false (fun h => p3 h.2.2.1)
        clear p3 hr
        go_enter Tryz.func76, Tryz.ntmps76
        go_wp2
        go_ret
        exact ⟨rfl, hk⟩
    · have dp20 : (x2 != 0) = false := by simpa using p2
      obtain rfl : r = false := by rw [hr]; exact decide_eq_false (fun h => p2 h.2.1)
      clear p2 hr
      go_enter Tryz.func76, Tryz.ntmps76
      go_wp2
      go_ret
      exact ⟨rfl, hk⟩
  · have dp10 : (x0 != 0) = false := by simpa using p1
    obtain rfl : r = false := by rw [hr]; exact decide_eq_false (fun h => p1 h.1)
    clear p1 hr
    go_enter Tryz.func76, Tryz.ntmps76
    go_wp2
    go_ret
    exact ⟨rfl, hk⟩

theorem small3 {a : Int} (h1 : 0 ≤ a) (h2 : a ≤ 3) : a = 0 ∨ a = 1 ∨ a = 2 ∨ a = 3 := by omega
theorem and_small (a : Int) (d : Nat) (ha : 0 ≤ a ∧ a ≤ 3) (hd : d ≤ 3) : (bits .and .u32 a (d : Int) != 0) = decide (bitI a d) := by
  have hd' : (0 : Int) ≤ d ∧ (d : Int) ≤ 3 := by omega
  generalize (d : Int) = b at *
  rcases small3 ha.1 ha.2 with rfl | rfl | rfl | rfl <;> rcases small3 hd'.1 hd'.2 with rfl | rfl | rfl | rfl <;> decide +kernel

set_option maxRecDepth 100000 in
theorem conflict_any (w : World) (x y : Opn) (hx : validO x) (hy : validO y) : Calls Tryz.prog 103 #[opV x, opV y] w fun e w' => e = .returned (.bool (decide (clashO x y))) ∧ Only [] w w' := by
  obtain ⟨r, hr⟩ : ∃ r, r = decide (clashO x y) := ⟨_, rfl⟩
  rw [← hr]
  have hx3 : 0 ≤ x.access ∧ x.access ≤ 3 := ⟨by have := hx.2.2.1; omega, hx.2.2.2.1⟩
  have hy3 : 0 ≤ y.access ∧ y.access ≤ 3 := ⟨by have := hy.2.2.1; omega, hy.2.2.2.1⟩
  have hx4 : x.deny ≤ 3 := hx.2.2.2.2
  have hy4 : y.deny ≤ 3 := hy.2.2.2.2
  have a1 := and_small x.access y.deny hx3 hy4
  have a2 := and_small y.access x.deny hy3 hx4
  clear hx hy hx3 hy3 hx4 hy4
  obtain ⟨x0, x1, x2, x3, x4⟩ := x
  obtain ⟨y0, y1, y2, y3, y4⟩ := y
  have hk : Only [] w ((w.alloc (.cells #[.int .u32 x0, .int .u32 x1, .int .u32 x2, .int .u32 x3, .int .u32 (x4 : Int)] 61)).alloc (.cells #[.int .u32 y0, .int .u32 y1, .int .u32 y2, .int .u32 y3, .int .u32 (y4 : Int)] 61)) := ((Only.refl [] w).alloc _).alloc _
  unfold clashO at hr
  unfold opV
  simp only at hr a1 a2 ⊢
  by_cases p1 : x2 = y2
  · have dp10 : (x2 == y2) = true := by simpa using p1
    by_cases p2 : bitI x3 (y4 : Int)
    · obtain rfl : r = true := by rw [hr]; exact decide_eq_true ⟨p1, .inl p2⟩
      rw [decide_eq_true p2] at a1
      clear hr p1 p2
      go_enter Tryz.func103, Tryz.ntmps103
      go_wp2
      go_ret
      exact ⟨rfl, hk⟩
    ·
      by_cases p3 : bitI y3 (x4 : Int)
      · obtain rfl : r = true := by rw [hr]; exact decide_eq_true ⟨p1, .inr p3⟩
        rw [decide_eq_false p2] at a1
        rw [decide_eq_true p3] at a2
        clear hr p1 p2 p3
        go_enter Tryz.func103, Tryz.ntmps103
        go_wp2
        go_ret
        exact ⟨rfl, hk⟩
      · obtain rfl : r = false := by rw [hr]; exact decide_eq_false (fun h => h.2.elim p2 p3)
        rw [decide_eq_false p2] at a1
        rw [decide_eq_false p3] at a2
        clear hr p1 p2 p3
        go_enter Tryz.func103, Tryz.ntmps103
        go_wp2
        go_ret
        exact ⟨rfl, hk⟩
  · have dp10 : (x2 == y2) = false := by simpa using p1
    obtain rfl : r = false := by rw [hr]; exact decide_eq_false (fun h => p1 h.1)
    clear hr p1
    go_enter Tryz.func103, Tryz.ntmps103
    go_wp2
    go_ret
    exact ⟨rfl, hk⟩

end Go.Proofs.YtalkhhjfplahkaaGreat
