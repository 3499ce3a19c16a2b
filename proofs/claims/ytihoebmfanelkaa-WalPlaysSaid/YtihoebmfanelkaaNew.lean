/- New. -/
import Derived.Test.YtihoebmfanelkaaAct
import Derived.Test.YtihoebmfanelkaaRow
namespace Go.Proofs.Ytihoebmfanelkaa
open Go.RowKit

def clamp (k : Int) : Nat := (min (max k 1) 1024).toNat

/-- 'make([]T, n)' as one step of a region that draws its order. -/
theorem step_make {P : Program} {ops : Array Oper} {o : Oper} {a : Act} {w : World} {K : Act → World → Prop} {Q : Exit → Act → World → Prop} {E : Prop} (hgd : o.guard = none) (t : TypeId) (l c : Operand) (ho : o.op = .makeSlice t l c)
    (e : TypeId) (z : Value) (size bytes : Nat) (hu : P.underlying t = some (.slice e)) (hinfo : (P.info? e).map (fun i => (i.zero, i.size, i.bytes)) = some (some z, size, bytes))
    (kl kc : IntKind) (L C : Int) (n : Nat) (hl : a.eval l = .int kl L) (hc : a.eval c = .int kc C) (hL : L = (n : Int)) (hC : C = (n : Int)) (hfew : bytes * n ≤ 281474976710656) (h63 : n ≤ 9223372036854775807)
    (cs : List Value) (hcs : (madeCells z.cells (n * size)).toList = cs) (h : K (a.put o.dst (.slice (some ⟨w.heap.size, 0, none⟩) n n)) (w.alloc (.cells cs.toArray e))) :
    if Region.wanted o (yielded ops a.tmps) = true then Oper.wp P o a w K Q else E := by
  have hw : Region.wanted o (yielded ops a.tmps) = true := by simp [Region.wanted, hgd]
  rw [if_pos hw]
  obtain ⟨i, hi, hz0, hz1, hz2⟩ := info_parts hinfo
  subst hL
  subst hC
  subst hcs
  have hb' : (i.bytes : Int) * (n : Int) ≤ 281474976710656 := by
    have h : ((i.bytes * n : Nat) : Int) ≤ 281474976710656 := by rw [hz2]; omega
    rwa [Int.natCast_mul] at h
  have hr := run_make (P := P) w t e i z hu hi hz0 kl kc n n (by omega) (Int.le_refl _) hb' (by omega)
  simp only [Int.toNat_natCast, hz1] at hr
  unfold Oper.wp
  simp [execOp, ho, hl, hc, hr, Result.andThen]
  rw [Array.toArray_toList] at h
  exact h

theorem madeCells_same (z : Array Value) (u : Value) (m : Nat) (hz : ∀ j (h : j < z.size), z[j] = u) (hs : 0 < z.size) : (madeCells z m).toList = List.replicate m u := by
  apply List.ext_getElem
  · simp [size_madeCells]
  · intro j h1 h2
    have hj : j % z.size < z.size := Nat.mod_lt _ hs
    simp [madeCells, hj, hz]

theorem one_cell : ∀ j (h : j < (Value.int .i64 0).cells.size), (Value.int .i64 0).cells[j] = .int .i64 0 := by
  intro j h
  have : j = 0 := by simp [Value.cells] at h; exact h
  subst this
  rfl

theorem zero_block : ∃ Z : Array Value, (Try.prog.info? 87).map (fun i => (i.zero, i.size, i.bytes)) = some (some (.agg Z), 256, 256) ∧ Z.size = 256 ∧ ∀ j (h : j < Z.size), Z[j] = .int .u8 0 := by
  have h : (Try.prog.info? 87).map (fun i => (i.zero, i.size, i.bytes)) = some (some (.agg (Array.replicate 256 (.int .u8 0))), 256, 256) := by kernel_rfl
  exact ⟨_, h, Array.size_replicate, fun j h => Array.getElem_replicate _⟩

theorem replicate_flatten {α : Type} (u : α) (c : Nat) : ∀ n, (List.replicate n (List.replicate c u)).flatten = List.replicate (n * c) u
  | 0 => by simp
  | n + 1 => by rw [List.replicate_succ, List.flatten_cons, replicate_flatten u c n, List.replicate_append_replicate, Nat.succ_mul, Nat.add_comm]

theorem fresh_firmCells (n : Nat) : (firmCells (fresh n).firm).flatten = List.replicate (n * 256) (.int .u8 0) := by
  have e : firmCells (fresh n).firm = List.replicate n (List.replicate 256 (Value.int .u8 0)) := by
    simp only [firmCells, fresh, List.map_replicate]
    have h : ∀ (n : Nat) (b : UInt8), byteVs (rep n b) = List.replicate n (byteV b) := fun n b => List.map_replicate
    rw [h]
    have h0 : byteV 0 = .int .u8 0 := rfl
    rw [h0]
  rw [e, replicate_flatten]

theorem fresh_lastCells (n : Nat) : lastCells n [] = List.replicate n (.int .i64 0) := by
  unfold lastCells
  simp only [lastOf_nil]
  rw [List.map_const', List.length_range]
  rfl

theorem new_done {w w1 w2 : World} {n gs gl : Nat} (h0 : 1 ≤ n) (h1 : n ≤ 1024) (k : Only [] w w1) (hw2 : w2 = w1.alloc (.cells #[.slice (some ⟨gs, 0, none⟩) n n, .slice none 0 0, .slice (some ⟨gl, 0, none⟩) n n, .int .i64 (-1), .bool false] 75))
    (hs : Blk w1 gs 87 (List.replicate (n * 256) (.int .u8 0)).toArray) (hl : Blk w1 gl 3 (List.replicate n (.int .i64 0)).toArray) (hn : gs ≠ gl) (a1 : w.heap.size ≤ gs) (a2 : w.heap.size ≤ gl) :
    ∃ F, Dev w2 w1.heap.size F (fresh n) ∧ Only [] w w2 ∧ ∀ i ∈ F, w.heap.size ≤ i := by
  subst hw2
  have b1 := hs.lt
  have b2 := hl.lt
  have b3 := k.size
  refine ⟨[w1.heap.size, gs, gl], ⟨gs, gl, .slice none 0 0, ?_, ?_, ?_, World.ownsRow_nil _ 0 _ 257, ⟨by omega, by omega, hn, by simp [Value.ownBlock], by simp [Value.ownBlock], by simp [Value.ownBlock]⟩, ⟨by simp, by simp, by simp, by simp [Value.ownBlock]⟩, fresh_fine n h0 h1⟩, k.alloc _, ?_⟩
  · rw [fresh_firm]
    exact Blk.new w1 _ _
  · rw [fresh_firmCells]
    exact hs.alloc _
  · rw [fresh_firm]
    show Blk _ gl _ (lastCells n []).toArray
    rw [fresh_lastCells]
    exact hl.alloc _
  · intro i hi
    simp at hi
    omega

set_option maxRecDepth 100000 in
set_option maxHeartbeats 1000000 in
theorem new_any (w : World) (k : Int) (h0 : -9223372036854775808 ≤ k) (h1 : k ≤ 9223372036854775807) :
    Calls Try.prog 10 #[.int .i64 k] w fun e w' => ∃ p F, e = .returned (.pointer (some ⟨p, 0, none⟩)) ∧ Dev w' p F (fresh (clamp k)) ∧ Only [] w w' ∧ ∀ i ∈ F, w.heap.size ≤ i := by
  obtain ⟨Z, hz, hzs, hzz⟩ := zero_block
  obtain ⟨n, hn⟩ : ∃ n, n = clamp k := ⟨_, rfl⟩
  have hcl : (k < 1 → n = 1) ∧ (1024 < k → n = 1024) ∧ (1 ≤ k → k ≤ 1024 → (n : Int) = k) := by
    rw [hn]
    unfold clamp
    refine ⟨fun h => ?_, fun h => ?_, fun h h' => ?_⟩ <;> omega
  have hn1 : 1 ≤ n := by omega
  have hn2 : n ≤ 1024 := by omega
  rw [← hn]
  clear hn
  obtain ⟨C1, hC1⟩ : ∃ C, C = List.replicate (n * 256) (Value.int .u8 0) := ⟨_, rfl⟩
  obtain ⟨C2, hC2⟩ : ∃ C, C = List.replicate n (Value.int .i64 0) := ⟨_, rfl⟩
  replace hC1 := Lib.hid hC1
  replace hC2 := Lib.hid hC2
  replace hcl := Lib.hid hcl
  have hdone := Lib.hid (fun w2 w3 gs gl a b c d e f g => @new_done w w2 w3 n gs gl hn1 hn2 a b c d e f g)
  go_enter Try.func10, Try.ntmps10
  go_wp2
  all_goals
    refine wp_region_held_drew (S := fun _ => True) (by kernel_rfl) trivial (fun hHeld => ?_)
    have kd : Only [] w w.drew := (Only.refl [] w).drew
    generalize w.drew = wd at *
    refine held_take 0 _ rfl (by kernel_rfl) (by kernel_rfl) (by kernel_rfl) (fun _ _ _ h => h) hHeld (Or.inl ⟨by rfl, fun w' _ => rfl⟩) ?_
    simp only [Act.put, List.setIfInBounds_toArray, List.set_cons_zero, List.set_cons_succ]
    refine held_take 2 _ rfl (by kernel_rfl) (by kernel_rfl) (by kernel_rfl) (fun _ _ _ h => h) hHeld (Or.inl ⟨by rfl, fun w' _ => rfl⟩) ?_
    simp only [Act.put, List.setIfInBounds_toArray, List.set_cons_zero, List.set_cons_succ]
    refine held_step2 1 3 rfl rfl (by kernel_rfl) (fun K hK => ?_) (fun K hK => ?_)
    · refine step_make rfl 71 (.tmp 7) (.tmp 7) rfl 87 (.agg Z) 256 256 Try.underlying71 hz .i64 .i64 _ _ n rfl rfl (by have := hcl.out; omega) (by have := hcl.out; omega) (by omega) (by omega) C1 (by rw [hC1.out]; exact madeCells_same Z _ _ hzz (by omega)) ?_
      refine hK.out _ _ trivial (fun hHeld => ?_)
      clear hK K
      simp only [Act.put, List.setIfInBounds_toArray, List.set_cons_zero, List.set_cons_succ]
      refine held_step 3 rfl (by kernel_rfl) (fun K hK => ?_)
      refine step_make rfl 72 (.tmp 9) (.tmp 9) rfl 3 (.int .i64 0) 1 8 Try.underlying72 (by kernel_rfl) .i64 .i64 _ _ n rfl rfl (by have := hcl.out; omega) (by have := hcl.out; omega) (by omega) (by omega) C2 (by rw [hC2.out, Nat.mul_one]; exact madeCells_same _ _ _ one_cell (by decide)) ?_
      refine hK.out _ _ trivial (fun hHeld => ?_)
      clear hK K
      simp only [Act.put, List.setIfInBounds_toArray, List.set_cons_zero, List.set_cons_succ]
      refine held_step 4 rfl (by kernel_rfl) (fun K hK => ?_)
      go_simp
      refine hK.out _ _ trivial (fun hHeld => ?_)
      clear hK K
      refine held_step 5 rfl (by kernel_rfl) (fun K hK => ?_)
      go_simp
      refine hK.out _ _ trivial (fun hHeld => ?_)
      clear hK K
      refine held_step 6 rfl (by kernel_rfl) (fun K hK => ?_)
      go_simp
      refine hK.out _ _ trivial (fun hHeld => ?_)
      clear hK K
      refine wpAnyH_done (by kernel_rfl) ?_ _
      have k1 : Only [] w ((wd.alloc (.cells C1.toArray 87)).alloc (.cells C2.toArray 3)) := (kd.alloc _).alloc _
      obtain ⟨F, d1, d2, d3⟩ := hdone.out _ _ wd.heap.size (wd.heap.size + 1) k1 rfl (by rw [← hC1.out]; exact (Blk.new wd _ _).alloc _) (by rw [← hC2.out]; have := Blk.new (wd.alloc (.cells C1.toArray 87)) 3 C2.toArray; simpa using this) (by omega) kd.size (by have := kd.size; omega)
      replace d1 := Lib.hid d1
      replace d2 := Lib.hid d2
      replace d3 := Lib.hid d3
      go_wp2
      go_ret
      exact ⟨_, F, rfl, by simpa using d1.out, d2.out, d3.out⟩
    · refine step_make rfl 72 (.tmp 9) (.tmp 9) rfl 3 (.int .i64 0) 1 8 Try.underlying72 (by kernel_rfl) .i64 .i64 _ _ n rfl rfl (by have := hcl.out; omega) (by have := hcl.out; omega) (by omega) (by omega) C2 (by rw [hC2.out, Nat.mul_one]; exact madeCells_same _ _ _ one_cell (by decide)) ?_
      refine hK.out _ _ trivial (fun hHeld => ?_)
      clear hK K
      simp only [Act.put, List.setIfInBounds_toArray, List.set_cons_zero, List.set_cons_succ]
      refine held_step 1 rfl (by kernel_rfl) (fun K hK => ?_)
      refine step_make rfl 71 (.tmp 7) (.tmp 7) rfl 87 (.agg Z) 256 256 Try.underlying71 hz .i64 .i64 _ _ n rfl rfl (by have := hcl.out; omega) (by have := hcl.out; omega) (by omega) (by omega) C1 (by rw [hC1.out]; exact madeCells_same Z _ _ hzz (by omega)) ?_
      refine hK.out _ _ trivial (fun hHeld => ?_)
      clear hK K
      simp only [Act.put, List.setIfInBounds_toArray, List.set_cons_zero, List.set_cons_succ]
      refine held_step 4 rfl (by kernel_rfl) (fun K hK => ?_)
      go_simp
      refine hK.out _ _ trivial (fun hHeld => ?_)
      clear hK K
      refine held_step 5 rfl (by kernel_rfl) (fun K hK => ?_)
      go_simp
      refine hK.out _ _ trivial (fun hHeld => ?_)
      clear hK K
      refine held_step 6 rfl (by kernel_rfl) (fun K hK => ?_)
      go_simp
      refine hK.out _ _ trivial (fun hHeld => ?_)
      clear hK K
      refine wpAnyH_done (by kernel_rfl) ?_ _
      have k1 : Only [] w ((wd.alloc (.cells C2.toArray 3)).alloc (.cells C1.toArray 87)) := (kd.alloc _).alloc _
      obtain ⟨F, d1, d2, d3⟩ := hdone.out _ _ (wd.heap.size + 1) wd.heap.size k1 rfl (by rw [← hC1.out]; have := Blk.new (wd.alloc (.cells C2.toArray 3)) 87 C1.toArray; simpa using this) (by rw [← hC2.out]; exact (Blk.new wd _ _).alloc _) (by omega) (by have := kd.size; omega) kd.size
      replace d1 := Lib.hid d1
      replace d2 := Lib.hid d2
      replace d3 := Lib.hid d3
      go_wp2
      go_ret
      exact ⟨_, F, rfl, by simpa using d1.out, d2.out, d3.out⟩

end Go.Proofs.Ytihoebmfanelkaa
