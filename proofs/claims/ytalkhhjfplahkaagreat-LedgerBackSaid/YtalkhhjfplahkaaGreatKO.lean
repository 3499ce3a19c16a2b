/- Joined: Go14, Eq14. -/
import Derived.Test.YtalkhhjfplahkaaGreatKRows14
namespace Go.Proofs.YtalkhhjfplahkaaGreat
open Go.RowKit
set_option linter.unusedVariables false

def goneR (x : Ch) : Ch := ⟨x.key, [], true⟩
set_option maxRecDepth 100000 in
theorem gone_any (w : World) (x : Ch) : Calls Tryz.prog 29 #[chV x] w fun e w' => e = .returned (chV (goneR x)) ∧ Only [] w w' := by
  obtain ⟨x0, x1, x2⟩ := x
  unfold chV
  simp only
  have k0 : Only [] w ((w.alloc (.cells #[.string (strOf x0), .string (strOf x1), .bool x2] 48)).alloc (.cells #[.string ⟨#[]⟩, .string ⟨#[]⟩, .bool false] 48)) := ((Only.refl [] w).alloc _).alloc _
  have b2 : Blk ((w.alloc (.cells #[.string (strOf x0), .string (strOf x1), .bool x2] 48)).alloc (.cells #[.string ⟨#[]⟩, .string ⟨#[]⟩, .bool false] 48)) (w.heap.size + 1) 48 (chA noCh) := by
    have := Blk.new (w.alloc (.cells #[.string (strOf x0), .string (strOf x1), .bool x2] 48)) 48 (chA noCh)
    rw [show (w.alloc (.cells #[.string (strOf x0), .string (strOf x1), .bool x2] 48)).heap.size = w.heap.size + 1 by simp] at this
    exact this
  go_enter Tryz.func29, Tryz.ntmps29
  go_wp2_with (refine wpList_store_ch (goneR ⟨x0, x1, x2⟩) noCh rfl _ _ rfl (w.heap.size + 1) rfl rfl b2 ?_; intro w5 b5 k5)
  refine bodyPost_ret (results_ch rfl _ _ (w.heap.size + 1) rfl _ b5) rfl ?_
  exact ⟨rfl, k0.beyond k5 (by omega)⟩

end Go.Proofs.YtalkhhjfplahkaaGreat
namespace Go.Proofs.YtalkhhjfplahkaaGreat
open Go.RowKit
set_option linter.unusedVariables false

section
variable {P : Program} {w : World} {ev : Operand → Value} {op : Oper}
theorem ev_load (ty : TypeId) (x : Operand) (ho : op.op = .load ty x) (b o : Nat) (hx : ev x = .pointer (some ⟨b, o, none⟩)) (cs : List Value) (d : TypeDesc) (hc : w.rangeAt b o cs)
    (hu : P.underlying ty = some d) (hd : d.isRow = true) (hi : (P.info? ty).map (·.size) = some cs.length) : (execOp ev op).run P w = .ok (.value (.agg cs.toArray)) w := by
  unfold execOp
  simp only [ho, hx, Instr.loadAt, Instr.sureAddr, Sem.run_bind, Sem.run_pure, Result.andThen_ok, run_loadVar_mid w b o ty cs d hc hu hd hi]
theorem ev_neq (ty u : TypeId) (x y : Operand) (ho : op.op = .binOp .neq ty x y u) (X Y : Array Value) (hx : ev x = .agg X) (hy : ev y = .agg Y) (b : Bool)
    (hg : (eqGuard .neq ty x y (.agg X) (.agg Y)).run P w = .ok () w) (hr : (binOp .neq ty (.agg X) (.agg Y)).run P w = .ok (.bool b) w) : (execOp ev op).run P w = .ok (.value (.bool b)) w := by
  unfold execOp
  simp only [ho, hx, hy, Sem.run_bind, Sem.run_pure, Result.andThen_ok, hg, hr]
theorem neq_of_eql (ty : TypeId) (X Y : Array Value) (b : Bool) (h1 : (binOp .eql ty (.agg X) (.agg Y)).run P w = .ok (.bool b) w) : (binOp .neq ty (.agg X) (.agg Y)).run P w = .ok (.bool (!b)) w := by
  rw [run_eql_struct] at h1
  rw [run_neq_struct]
  generalize (Op.equalIn 10000 ty (.agg X) (.agg Y)).run P w = R at h1 ⊢
  cases R with
  | ok v w1 =>
    simp only [Result.andThen_ok, Result.ok.injEq, Value.bool.injEq] at h1 ⊢
    exact ⟨by rw [h1.1], h1.2⟩
  | halt x w1 => simp [Result.andThen] at h1
end
theorem take_same {α : Type} {l m : List α} {n : Nat} {x y : α} (h : l.take n = m.take n) (hx : l[n]? = some x) (hy : m[n]? = some y) (e : x = y) : l.take (n + 1) = m.take (n + 1) := by
  rw [List.take_add_one, List.take_add_one, hx, hy, h, e]
theorem differ_at {α : Type} {l m : List α} {n : Nat} {x y : α} (hx : l[n]? = some x) (hy : m[n]? = some y) (e : ¬ x = y) : ¬ l = m := by
  rintro rfl
  rw [hx] at hy
  exact e (Option.some.inj hy)
theorem size_wk : (Tryz.prog.info? 50).map (·.size) = some 8 := by kernel_rfl
def wkA (x : Wk) : Array Value := #[.int .u32 x.file, .int .u32 x.client, .int .u32 x.life, .int .u32 x.seq, .int .i64 x.code, .int .u32 x.off, .int .u32 x.len, .string (strOf x.data)]

theorem sea_ext (p q : Sea) : p = q ↔ (p.client = q.client ∧ p.pk.kind = q.pk.kind ∧ p.pk.frm = q.pk.frm ∧ p.pk.to = q.pk.to ∧ p.pk.life = q.pk.life ∧ p.pk.seq = q.pk.seq ∧ p.pk.asked = q.pk.asked ∧ p.pk.boot = q.pk.boot ∧ p.pk.code = q.pk.code ∧ p.pk.err = q.pk.err ∧ p.pk.file = q.pk.file ∧ p.pk.epoch = q.pk.epoch ∧ p.pk.off = q.pk.off ∧ p.pk.len = q.pk.len ∧ p.pk.size = q.pk.size ∧ p.pk.mode = q.pk.mode ∧ p.pk.deny = q.pk.deny ∧ p.pk.handle = q.pk.handle ∧ p.pk.path = q.pk.path ∧ p.pk.other = q.pk.other ∧ p.pk.data = q.pk.data) := by
  obtain ⟨c, p⟩ := p
  obtain ⟨d, q⟩ := q
  rw [Sea.mk.injEq, pk_ext]
instance : DecidableEq Sea := fun p q => decidable_of_iff _ (sea_ext p q).symm
theorem wk_ext (p q : Wk) : p = q ↔ (p.file = q.file ∧ p.client = q.client ∧ p.life = q.life ∧ p.seq = q.seq ∧ p.code = q.code ∧ p.off = q.off ∧ p.len = q.len ∧ p.data = q.data) := by
  cases p; cases q; simp only [Wk.mk.injEq]
instance : DecidableEq Wk := fun p q => decidable_of_iff _ (wk_ext p q).symm

theorem ch_iff (x y : Ch) : x = y ↔ (strOf x.key = strOf y.key ∧ strOf x.val = strOf y.val ∧ x.gone = y.gone) := by
  refine ⟨fun h => by subst h; exact ⟨rfl, rfl, rfl⟩, fun ⟨h0, h1, h2⟩ => ?_⟩
  cases x; cases y
  simp only at *
  obtain rfl := strOf_inj h0
  obtain rfl := strOf_inj h1
  subst h2
  rfl
set_option maxRecDepth 100000 in
set_option maxHeartbeats 2000000 in
theorem run_eql_ch (p q : Ch) (w : World) : (binOp .eql 48 (chV p) (chV q)).run Tryz.prog w = .ok (.bool (decide (p = q))) w := by
  have hb := ch_iff p q
  generalize hB : decide (p = q) = B
  obtain ⟨x0, x1, x2⟩ := p
  obtain ⟨y0, y1, y2⟩ := q
  simp only at hb
  unfold chV
  simp only
  generalize strOf x0 = s0 at *
  generalize strOf y0 = u0 at *
  generalize strOf x1 = s1 at *
  generalize strOf y1 = u1 at *
  rw [run_eql_struct]
  have hb := Lib.hid hb
  have hB := Lib.hid hB
  go_simp
  try simp only [list_same]
  by_cases h0 : s0 = u0
  rotate_left
  · rw [if_neg h0, ← hB.out, decide_eq_false (fun h => h0 (hb.out.1 h).1)]
  rw [if_pos h0]
  by_cases h1 : s1 = u1
  rotate_left
  · rw [if_neg h1, ← hB.out, decide_eq_false (fun h => h1 (hb.out.1 h).2.1)]
  rw [if_pos h1]
  by_cases h2 : x2 = y2
  rotate_left
  · rw [if_neg h2, ← hB.out, decide_eq_false (fun h => h2 (hb.out.1 h).2.2)]
  rw [if_pos h2]
  rw [← hB.out, decide_eq_true (hb.out.2 ⟨h0, h1, h2⟩)]

theorem wk_iff (x y : Wk) : x = y ↔ (x.file = y.file ∧ x.client = y.client ∧ x.life = y.life ∧ x.seq = y.seq ∧ x.code = y.code ∧ x.off = y.off ∧ x.len = y.len ∧ strOf x.data = strOf y.data) := by
  refine ⟨fun h => by subst h; exact ⟨rfl, rfl, rfl, rfl, rfl, rfl, rfl, rfl⟩, fun ⟨h0, h1, h2, h3, h4, h5, h6, h7⟩ => ?_⟩
  cases x; cases y
  simp only at *
  subst h0
  subst h1
  subst h2
  subst h3
  subst h4
  subst h5
  subst h6
  obtain rfl := strOf_inj h7
  rfl
set_option maxRecDepth 100000 in
set_option maxHeartbeats 2000000 in
theorem run_eql_wk (p q : Wk) (w : World) : (binOp .eql 50 (wkV p) (wkV q)).run Tryz.prog w = .ok (.bool (decide (p = q))) w := by
  have hb := wk_iff p q
  generalize hB : decide (p = q) = B
  obtain ⟨x0, x1, x2, x3, x4, x5, x6, x7⟩ := p
  obtain ⟨y0, y1, y2, y3, y4, y5, y6, y7⟩ := q
  simp only at hb
  unfold wkV
  simp only
  generalize strOf x7 = s7 at *
  generalize strOf y7 = u7 at *
  rw [run_eql_struct]
  have hb := Lib.hid hb
  have hB := Lib.hid hB
  go_simp
  try simp only [list_same]
  by_cases h0 : x0 = y0
  rotate_left
  · rw [if_neg h0, ← hB.out, decide_eq_false (fun h => h0 (hb.out.1 h).1)]
  rw [if_pos h0]
  by_cases h1 : x1 = y1
  rotate_left
  · rw [if_neg h1, ← hB.out, decide_eq_false (fun h => h1 (hb.out.1 h).2.1)]
  rw [if_pos h1]
  by_cases h2 : x2 = y2
  rotate_left
  · rw [if_neg h2, ← hB.out, decide_eq_false (fun h => h2 (hb.out.1 h).2.2.1)]
  rw [if_pos h2]
  by_cases h3 : x3 = y3
  rotate_left
  · rw [if_neg h3, ← hB.out, decide_eq_false (fun h => h3 (hb.out.1 h).2.2.2.1)]
  rw [if_pos h3]
  by_cases h4 : x4 = y4
  rotate_left
  · rw [if_neg h4, ← hB.out, decide_eq_false (fun h => h4 (hb.out.1 h).2.2.2.2.1)]
  rw [if_pos h4]
  by_cases h5 : x5 = y5
  rotate_left
  · rw [if_neg h5, ← hB.out, decide_eq_false (fun h => h5 (hb.out.1 h).2.2.2.2.2.1)]
  rw [if_pos h5]
  by_cases h6 : x6 = y6
  rotate_left
  · rw [if_neg h6, ← hB.out, decide_eq_false (fun h => h6 (hb.out.1 h).2.2.2.2.2.2.1)]
  rw [if_pos h6]
  by_cases h7 : s7 = u7
  rotate_left
  · rw [if_neg h7, ← hB.out, decide_eq_false (fun h => h7 (hb.out.1 h).2.2.2.2.2.2.2)]
  rw [if_pos h7]
  rw [← hB.out, decide_eq_true (hb.out.2 ⟨h0, h1, h2, h3, h4, h5, h6, h7⟩)]

theorem hol_iff (x y : Hol) : x = y ↔ (x.client = y.client ∧ x.mode = y.mode) := by
  refine ⟨fun h => by subst h; exact ⟨rfl, rfl⟩, fun ⟨h0, h1⟩ => ?_⟩
  cases x; cases y
  simp only at *
  subst h0
  subst h1
  rfl
set_option maxRecDepth 100000 in
set_option maxHeartbeats 2000000 in
theorem run_eql_hol (p q : Hol) (w : World) : (binOp .eql 91 (holV p) (holV q)).run Tryz.prog w = .ok (.bool (decide (p = q))) w := by
  have hb := hol_iff p q
  generalize hB : decide (p = q) = B
  obtain ⟨x0, x1⟩ := p
  obtain ⟨y0, y1⟩ := q
  simp only at hb
  unfold holV
  simp only
  rw [run_eql_struct]
  have hb := Lib.hid hb
  have hB := Lib.hid hB
  go_simp
  try simp only [list_same]
  by_cases h0 : x0 = y0
  rotate_left
  · rw [if_neg h0, ← hB.out, decide_eq_false (fun h => h0 (hb.out.1 h).1)]
  rw [if_pos h0]
  by_cases h1 : x1 = y1
  rotate_left
  · rw [if_neg h1, ← hB.out, decide_eq_false (fun h => h1 (hb.out.1 h).2)]
  rw [if_pos h1]
  rw [← hB.out, decide_eq_true (hb.out.2 ⟨h0, h1⟩)]

set_option maxRecDepth 100000 in
set_option maxHeartbeats 4000000 in
theorem run_eql_sea (p q : Sea) (w : World) : (binOp .eql 56 (seaV p) (seaV q)).run Tryz.prog w = .ok (.bool (decide (p = q))) w := by
  have hb := sea_ext p q
  generalize hB : decide (p = q) = B
  obtain ⟨z, x0, x1, x2, x3, x4, x5, x6, x7, x8, x9, x10, x11, x12, x13, x14, x15, x16, x17, x18, x19⟩ := p
  obtain ⟨u, y0, y1, y2, y3, y4, y5, y6, y7, y8, y9, y10, y11, y12, y13, y14, y15, y16, y17, y18, y19⟩ := q
  simp only at hb
  unfold seaV seaA
  simp only
  rw [run_eql_struct]
  have hb := Lib.hid hb
  have hB := Lib.hid hB
  go_simp
  simp only [list_same]
  by_cases g0 : z = u
  rotate_left
  · rw [if_neg g0, ← hB.out, decide_eq_false (fun h => by have := hb.out.1 h; exact g0 (by simp only [this]))]
  rw [if_pos g0]
  by_cases h0 : x0 = y0
  rotate_left
  · rw [if_neg h0, ← hB.out, decide_eq_false (fun h => by have := hb.out.1 h; exact h0 (by simp only [this]))]
  rw [if_pos h0]
  by_cases h1 : x1 = y1
  rotate_left
  · rw [if_neg h1, ← hB.out, decide_eq_false (fun h => by have := hb.out.1 h; exact h1 (by simp only [this]))]
  rw [if_pos h1]
  by_cases h2 : x2 = y2
  rotate_left
  · rw [if_neg h2, ← hB.out, decide_eq_false (fun h => by have := hb.out.1 h; exact h2 (by simp only [this]))]
  rw [if_pos h2]
  by_cases h3 : x3 = y3
  rotate_left
  · rw [if_neg h3, ← hB.out, decide_eq_false (fun h => by have := hb.out.1 h; exact h3 (by simp only [this]))]
  rw [if_pos h3]
  by_cases h4 : x4 = y4
  rotate_left
  · rw [if_neg h4, ← hB.out, decide_eq_false (fun h => by have := hb.out.1 h; exact h4 (by simp only [this]))]
  rw [if_pos h4]
  by_cases h5 : x5 = y5
  rotate_left
  · rw [if_neg h5, ← hB.out, decide_eq_false (fun h => by have := hb.out.1 h; exact h5 (by simp only [this]))]
  rw [if_pos h5]
  by_cases h6 : x6 = y6
  rotate_left
  · rw [if_neg h6, ← hB.out, decide_eq_false (fun h => by have := hb.out.1 h; exact h6 (by simp only [this]))]
  rw [if_pos h6]
  by_cases h7 : x7 = y7
  rotate_left
  · rw [if_neg h7, ← hB.out, decide_eq_false (fun h => by have := hb.out.1 h; exact h7 (by simp only [this]))]
  rw [if_pos h7]
  by_cases h8 : x8 = y8
  rotate_left
  · rw [if_neg h8, ← hB.out, decide_eq_false (fun h => by have := hb.out.1 h; exact h8 (by simp only [this]))]
  rw [if_pos h8]
  by_cases h9 : x9 = y9
  rotate_left
  · rw [if_neg h9, ← hB.out, decide_eq_false (fun h => by have := hb.out.1 h; exact h9 (by simp only [this]))]
  rw [if_pos h9]
  by_cases h10 : x10 = y10
  rotate_left
  · rw [if_neg h10, ← hB.out, decide_eq_false (fun h => by have := hb.out.1 h; exact h10 (by simp only [this]))]
  rw [if_pos h10]
  by_cases h11 : x11 = y11
  rotate_left
  · rw [if_neg h11, ← hB.out, decide_eq_false (fun h => by have := hb.out.1 h; exact h11 (by simp only [this]))]
  rw [if_pos h11]
  by_cases h12 : x12 = y12
  rotate_left
  · rw [if_neg h12, ← hB.out, decide_eq_false (fun h => by have := hb.out.1 h; exact h12 (by simp only [this]))]
  rw [if_pos h12]
  by_cases h13 : x13 = y13
  rotate_left
  · rw [if_neg h13, ← hB.out, decide_eq_false (fun h => by have := hb.out.1 h; exact h13 (by simp only [this]))]
  rw [if_pos h13]
  by_cases h14 : x14 = y14
  rotate_left
  · rw [if_neg h14, ← hB.out, decide_eq_false (fun h => by have := hb.out.1 h; exact h14 (by simp only [this]))]
  rw [if_pos h14]
  by_cases h15 : x15 = y15
  rotate_left
  · rw [if_neg h15, ← hB.out, decide_eq_false (fun h => by have := hb.out.1 h; exact h15 (by simp only [this]))]
  rw [if_pos h15]
  by_cases h16 : x16 = y16
  rotate_left
  · rw [if_neg h16, ← hB.out, decide_eq_false (fun h => by have := hb.out.1 h; exact h16 (by simp only [this]))]
  rw [if_pos h16]
  by_cases h17 : x17 = y17
  rotate_left
  · rw [if_neg h17, ← hB.out, decide_eq_false (fun h => by have := hb.out.1 h; exact h17 (by simp only [this]))]
  rw [if_pos h17]
  by_cases h18 : x18 = y18
  rotate_left
  · rw [if_neg h18, ← hB.out, decide_eq_false (fun h => by have := hb.out.1 h; exact h18 (by simp only [this]))]
  rw [if_pos h18]
  by_cases h19 : x19 = y19
  rotate_left
  · rw [if_neg h19, ← hB.out, decide_eq_false (fun h => by have := hb.out.1 h; exact h19 (by simp only [this]))]
  rw [if_pos h19]
  rw [← hB.out, decide_eq_true (hb.out.2 ⟨g0, h0, h1, h2, h3, h4, h5, h6, h7, h8, h9, h10, h11, h12, h13, h14, h15, h16, h17, h18, h19⟩)]

end Go.Proofs.YtalkhhjfplahkaaGreat
