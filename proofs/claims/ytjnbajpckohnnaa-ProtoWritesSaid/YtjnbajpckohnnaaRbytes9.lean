/- The walk of the document's Bytes. -/
import Derived.Test.YtjnbajpckohnnaaWrite9
import Derived.Test.YtjnbajpckohnnaaRef
import Derived.Deep.RegionHeld3
namespace Go.Proofs.Ytjnbajpckohnnaa
open Go.RowKit

/-- A packet's op: its cells. -/
abbrev opA (p : Pk) : Array Value := #[.int .i64 p.code, .int .i64 p.err, .int .u32 p.file, .int .u32 p.epoch, .int .u32 p.off, .int .u32 p.len, .int .u32 p.size, .int .u32 p.mode, .int .u32 p.deny, .int .u32 p.handle, .string p.path, .string p.other, .string p.data]
theorem size_op : (Try.prog.info? 25).map (·.size) = some 13 := by kernel_rfl
theorem range_op {w : World} {g : Nat} {p : Pk} (b : Blk w g 27 (pkA p)) : w.rangeAt g 7 (opA p).toList := fun j v hj => by
  have e : (pkA p).toList.drop 7 = (opA p).toList := rfl
  rw [b.cell, ← Array.getElem?_toList, ← List.getElem?_drop, e]
  exact hj
theorem op_cells {w : World} {g : Nat} {p : Pk} (b : Blk w g 25 (opA p)) :
    w.cell? ⟨g, 0, none⟩ = some (.int .i64 p.code) ∧ w.cell? ⟨g, 1, none⟩ = some (.int .i64 p.err) ∧ w.cell? ⟨g, 2, none⟩ = some (.int .u32 p.file) ∧ w.cell? ⟨g, 3, none⟩ = some (.int .u32 p.epoch) ∧ w.cell? ⟨g, 4, none⟩ = some (.int .u32 p.off) ∧ w.cell? ⟨g, 5, none⟩ = some (.int .u32 p.len) ∧ w.cell? ⟨g, 6, none⟩ = some (.int .u32 p.size) ∧ w.cell? ⟨g, 7, none⟩ = some (.int .u32 p.mode) ∧ w.cell? ⟨g, 8, none⟩ = some (.int .u32 p.deny) ∧ w.cell? ⟨g, 9, none⟩ = some (.int .u32 p.handle) ∧ w.cell? ⟨g, 10, none⟩ = some (.string p.path) ∧ w.cell? ⟨g, 11, none⟩ = some (.string p.other) ∧ w.cell? ⟨g, 12, none⟩ = some (.string p.data) :=
  ⟨b.cell 0, b.cell 1, b.cell 2, b.cell 3, b.cell 4, b.cell 5, b.cell 6, b.cell 7, b.cell 8, b.cell 9, b.cell 10, b.cell 11, b.cell 12⟩
abbrev rowA (p : Pk) : Array Value := #[.int .u32 p.kind, .int .u32 p.frm, .int .u32 p.to, .int .u32 p.life, .int .u32 p.seq, .int .u32 p.asked, .int .u32 p.boot, .int .u32 p.code, .int .u32 p.err, .int .u32 p.file, .int .u32 p.epoch, .int .u32 p.off, .int .u32 p.len, .int .u32 p.size, .int .u32 p.mode, .int .u32 p.deny, .int .u32 p.handle]
theorem row_cell {w : World} {g : Nat} {t : TypeId} {p : Pk} (b : Blk w g t (rowA p)) (k : Nat) (hk : k < 17) : w.cell? ⟨g, k, none⟩ = some (.int .u32 (zOf p k)) := by
  match k, hk with
  | 0, _ => exact b.cell 0
  | 1, _ => exact b.cell 1
  | 2, _ => exact b.cell 2
  | 3, _ => exact b.cell 3
  | 4, _ => exact b.cell 4
  | 5, _ => exact b.cell 5
  | 6, _ => exact b.cell 6
  | 7, _ => exact b.cell 7
  | 8, _ => exact b.cell 8
  | 9, _ => exact b.cell 9
  | 10, _ => exact b.cell 10
  | 11, _ => exact b.cell 11
  | 12, _ => exact b.cell 12
  | 13, _ => exact b.cell 13
  | 14, _ => exact b.cell 14
  | 15, _ => exact b.cell 15
  | 16, _ => exact b.cell 16
  | k + 17, h => exact absurd h (by omega)
theorem parts_is (p : Pk) : strOf (encNs (numN p)) ++ strOf (encT p.path.data.toList) ++ strOf (encT p.other.data.toList) ++ strOf (encT p.data.data.toList) = strOf (bytesP p) := by
  rw [strOf_append, strOf_append, strOf_append]
  unfold bytesP
  simp only [List.append_assoc]

section
variable {P : Program}
theorem held_take {ops : Array Oper} {Q : Exit → Act → World → Prop} {md : Region.Mode} {S : World → Prop} {fuel : Nat} {listed : Array Bool} {a : Act} {w : World} (i : Nat) {oi : Oper} (v : Value) (hi : ops.toList[i]? = some oi)
    (hs : Region.noSelect ops = true) (hf : Region.free md ops listed i = true) (hr : (Region.ready md ops listed).contains i = true)
    (hQ : ∀ c a w, Q (.panic c) (a.put oi.dst v) w → Q (.panic c) a w) (hS : S w) (hy : YieldsIf P ops S oi v a)
    (h : wpAnyH P md ops Q S fuel (listed.setIfInBounds i true) (a.put oi.dst v) w) : wpAnyH P md ops Q S (fuel + 1) listed a w :=
  wpAnyH_take (by simpa using hi) hs hf hr hQ hy hS h
theorem held_step {ops : Array Oper} {Q : Exit → Act → World → Prop} {md : Region.Mode} {S : World → Prop} {fuel : Nat} {listed : Array Bool} {a : Act} {w : World} (i : Nat) {oi : Oper} (hi : ops.toList[i]? = some oi)
    (hr : Region.ready md ops listed = [i])
    (h : ∀ K' : Act → World → Prop, Shut (∀ a w, S w → (S w → wpAnyH P md ops Q S fuel (listed.setIfInBounds i true) a w) → K' a w) → if Region.wanted oi (yielded ops a.tmps) = true then Oper.wp P oi a w K' Q else K' (a.put oi.dst undef) w) :
    wpAnyH P md ops Q S (fuel + 1) listed a w :=
  wpAnyH_ready hr (by simp) (AllReadyH.cons (by simpa using hi) h AllReadyH.nil)
end
/-- 's + t' in a region that draws its order. -/
theorem exec_add {P : Program} {o : Oper} {ev : Operand → Value} (t u : TypeId) (x y : Operand) (hop : o.op = Op.binOp .add t x y u) (a b : ByteArray) (hx : ev x = .string a) (hy : ev y = .string b) (hlen : a.size + b.size ≤ 9223372036854775807) (w : World) :
    (execOp ev o).run P w = .ok (.value (.string (a ++ b))) w := by
  have hr : (binOp .add t (.string a) (.string b)).run P w = .ok (.string (a ++ b)) w := by
    rw [binOp_string_add, run_string_add_sum w _ _ hlen]
  simp only [execOp, hop, hx, hy, eqGuard_add, Sem.run_bind, Sem.run_pure, Result.andThen_ok, hr]

set_option maxHeartbeats 2000000 in
theorem rbytes_any (w : World) (p : Pk) (ho : p.Ok) (hr : p.Right) : Calls Try.prog 11 #[pkV p] w fun e w' => e = .returned (.string (strOf (bytesP p))) ∧ Only [] w w' := by
  obtain ⟨u0, u1, u2, u7, u8⟩ := right_five p hr
  have f0 := wrap_u u0
  have f1 := wrap_u u1
  have f2 := wrap_u u2
  have f7 := wrap_u u7
  have f8 := wrap_u u8
  have NA := Lib.hid (num_at p ho hr)
  clear u0 u1 u2 u7 u8
  have bB := Blk.new w 27 (pkA p)
  have rB := range_op bB
  have j0 : Only [] w (w.alloc (.cells (pkA p) 27)) := (Only.refl [] w).alloc _
  go_enter Try.func11, Try.ntmps11
  go_wp2_with (refine wpList_load_mid rfl 25 (.tmp 7) rfl w.heap.size 7 rfl (opA p).toList _ rB Try.underlying25 rfl size_op ?_)
  have bO := (Blk.new (w.alloc (.cells (pkA p) 27)) 25 (opA p)).alloc (.cells (rowA p) 22)
  have bR := Blk.new ((w.alloc (.cells (pkA p) 27)).alloc (.cells (opA p) 25)) 22 (rowA p)
  have ho3 : Only [] w (((w.alloc (.cells (pkA p) 27)).alloc (.cells (opA p) 25)).alloc (.cells (rowA p) 22)) := (j0.alloc _).alloc _
  rw [show (w.alloc (.cells (pkA p) 27)).heap.size = w.heap.size + 1 by simp] at bO
  rw [show ((w.alloc (.cells (pkA p) 27)).alloc (.cells (opA p) 25)).heap.size = w.heap.size + 1 + 1 by simp] at bR
  clear f0 f1 f2 f7 f8 bB rB j0
  generalize (((w.alloc (.cells (pkA p) 27)).alloc (.cells (opA p) 25)).alloc (.cells (rowA p) 22)) = w3 at *
  generalize w.heap.size + 1 = q at *
  generalize q + 1 = r at *
  go_loopw [5, 6] (fun s i wr => ∃ k : Nat, k ≤ 17 ∧ s = .string (strOf (encNs ((numN p).take k))) ∧ i = .int .i64 k ∧ Blk wr r 22 (rowA p) ∧ Blk wr q 25 (opA p) ∧ Only [] w wr) (fun _ i _ => 17 - (intOf i).toNat)
  case atStart => exact ⟨0, by omega, rfl, rfl, bR, bO, ho3⟩
  case round =>
    clear bR bO ho3
    obtain ⟨k, hk, rfl, rfl, hrow, hop, hw⟩ := hrel
    have hsz : (encNs ((numN p).take k)).length ≤ 68 := by rw [encNs_length, List.length_take, numN_length]; omega
    by_cases hlt : k < 17
    · have hlt' : (k : Int) < 17 := by omega
      obtain ⟨n, hn, h32, hnk⟩ := NA.out k (by rw [numN_length]; exact hlt)
      have cell := row_cell hrow k hlt
      rw [hn] at cell
      have sn := encNs_take (numN p) k (by rw [numN_length]; exact hlt)
      rw [hnk.out] at sn
      replace sn := Lib.hid sn
      replace hsz := Lib.hid hsz
      clear hn hnk
      go_wp2_with fail
      refine (fnumber_any _ n n rfl h32.out).mono ?_; rintro e w4 ⟨rfl, k4⟩
      go_wp2_with (refine wpList_concat _ rfl 9 9 (.tmp 55) (.tmp 60) rfl (encNs ((numN p).take k)) (be4 n) rfl rfl (by have := hsz.out; rw [be4_length]; omega) ?_)
      go_roundw
      case rel => exact ⟨k + 1, by omega, by rw [sn.out], by go_num, hrow.kept k4 (by simp), hop.kept k4 (by simp), hw.trans k4⟩
      case measure => simp [intOf]; omega
    · obtain rfl : k = 17 := by omega
      rw [show (numN p).take 17 = numN p from List.take_of_length_le (by rw [numN_length]; exact Nat.le_refl _)] at hsz ⊢
      have PI := Lib.hid (parts_is p)
      obtain ⟨m0, m1, m2⟩ : p.path.size ≤ 64 ∧ p.other.size ≤ 64 ∧ p.data.size ≤ 128 := by
        have h0 := text_most p hr 0
        unfold Pk.Right at hr
        omega
      have ft0 := fun w => ftext_any w p.path (by omega)
      have ft1 := fun w => ftext_any w p.other (by omega)
      have ft2 := fun w => ftext_any w p.data (by omega)
      have s0 := encT_most p.path.data.toList 64 (by rw [size_list]; omega)
      have s1 := encT_most p.other.data.toList 64 (by rw [size_list]; omega)
      have s2 := encT_most p.data.data.toList 128 (by rw [size_list]; omega)
      rw [← strOf_size] at s0 s1 s2 hsz
      generalize strOf (encT p.path.data.toList) = T0 at *
      generalize strOf (encT p.other.data.toList) = T1 at *
      generalize strOf (encT p.data.data.toList) = T2 at *
      generalize strOf (encNs (numN p)) = T at *
      have z0 : T.size + T0.size ≤ 9223372036854775807 := by omega
      have z1 : (T ++ T0).size + T1.size ≤ 9223372036854775807 := by rw [ByteArray.size_append]; omega
      have z2 : (T ++ T0 ++ T1).size + T2.size ≤ 9223372036854775807 := by rw [ByteArray.size_append, ByteArray.size_append]; omega
      clear s0 s1 s2 hsz m0 m1 m2 hrow hk hlt
      have KP := Lib.hid (show ∀ w', Only [] wr w' → w'.cell? ⟨q, 10, none⟩ = some (.string p.path) ∧ w'.cell? ⟨q, 11, none⟩ = some (.string p.other) ∧ w'.cell? ⟨q, 12, none⟩ = some (.string p.data) from
        fun w' kk => ⟨kk.cell (hop.cell 10) (by simp), kk.cell (hop.cell 11) (by simp), kk.cell (hop.cell 12) (by simp)⟩)
      replace ft0 := Lib.hid ft0
      replace ft1 := Lib.hid ft1
      replace ft2 := Lib.hid ft2
      clear hop
      go_wp2_with fail
      refine wp_region_held_drew (S := fun w' => w'.cell? ⟨q, 10, none⟩ = some (.string p.path) ∧ w'.cell? ⟨q, 11, none⟩ = some (.string p.other) ∧ w'.cell? ⟨q, 12, none⟩ = some (.string p.data)) (by kernel_rfl) (KP.out _ (Only.refl _ _).drew) (fun hHeld => ?_)
      refine held_take 0 (.string T) rfl (by kernel_rfl) (by kernel_rfl) (by kernel_rfl) (fun _ _ _ h => h) hHeld (Or.inl ⟨by rfl, fun w' hSw => by (try dsimp only at hSw); (try subst hSw); go_simp⟩) ?_
      simp only [Act.put, List.setIfInBounds_toArray, List.set_cons_zero, List.set_cons_succ]
      refine held_take 1 (.pointer (some ⟨q, 10, none⟩)) rfl (by kernel_rfl) (by kernel_rfl) (by kernel_rfl) (fun _ _ _ h => h) hHeld (Or.inl ⟨by rfl, fun w' hSw => by (try dsimp only at hSw); (try subst hSw); go_simp⟩) ?_
      simp only [Act.put, List.setIfInBounds_toArray, List.set_cons_zero, List.set_cons_succ]
      refine held_take 2 (.string p.path) rfl (by kernel_rfl) (by kernel_rfl) (by kernel_rfl) (fun _ _ _ h => h) hHeld (Or.inl ⟨by rfl, fun w' hSw => by (try dsimp only at hSw); (try subst hSw); go_simp⟩) ?_
      simp only [Act.put, List.setIfInBounds_toArray, List.set_cons_zero, List.set_cons_succ]
      refine held_take 5 (.pointer (some ⟨q, 11, none⟩)) rfl (by kernel_rfl) (by kernel_rfl) (by kernel_rfl) (fun _ _ _ h => h) hHeld (Or.inl ⟨by rfl, fun w' hSw => by (try dsimp only at hSw); (try subst hSw); go_simp⟩) ?_
      simp only [Act.put, List.setIfInBounds_toArray, List.set_cons_zero, List.set_cons_succ]
      refine held_take 6 (.string p.other) rfl (by kernel_rfl) (by kernel_rfl) (by kernel_rfl) (fun _ _ _ h => h) hHeld (Or.inl ⟨by rfl, fun w' hSw => by (try dsimp only at hSw); (try subst hSw); go_simp⟩) ?_
      simp only [Act.put, List.setIfInBounds_toArray, List.set_cons_zero, List.set_cons_succ]
      refine held_take 9 (.pointer (some ⟨q, 12, none⟩)) rfl (by kernel_rfl) (by kernel_rfl) (by kernel_rfl) (fun _ _ _ h => h) hHeld (Or.inl ⟨by rfl, fun w' hSw => by (try dsimp only at hSw); (try subst hSw); go_simp⟩) ?_
      simp only [Act.put, List.setIfInBounds_toArray, List.set_cons_zero, List.set_cons_succ]
      refine held_take 10 (.string p.data) rfl (by kernel_rfl) (by kernel_rfl) (by kernel_rfl) (fun _ _ _ h => h) hHeld (Or.inl ⟨by rfl, fun w' hSw => by (try dsimp only at hSw); (try subst hSw); go_simp⟩) ?_
      simp only [Act.put, List.setIfInBounds_toArray, List.set_cons_zero, List.set_cons_succ]
      refine held_step 3 rfl (by kernel_rfl) (fun K hK => ?_)
      go_simp
      go_at_call 23
      refine (ft0.out _).mono ?_; rintro e wa ⟨rfl, ka⟩
      have kk : Only [] wr wa := ka.undrew
      go_wp2_with fail
      refine hK.out _ _ (KP.out _ kk) (fun hHeld => ?_)
      clear hK K
      refine held_take 4 (.string (T ++ T0)) rfl (by kernel_rfl) (by kernel_rfl) (by kernel_rfl) (fun _ _ _ h => h) hHeld (Or.inl ⟨by rfl, fun w' hSw => exec_add 9 9 (.tmp 62) (.tmp 65) rfl T T0 rfl rfl z0 w'⟩) ?_
      simp only [Act.put, List.setIfInBounds_toArray, List.set_cons_zero, List.set_cons_succ]
      refine held_step 7 rfl (by kernel_rfl) (fun K hK => ?_)
      go_simp
      go_at_call 23
      refine (ft1.out _).mono ?_; rintro e wb ⟨rfl, kb⟩
      have kk2 : Only [] wr wb := kk.trans kb
      go_wp2_with fail
      refine hK.out _ _ (KP.out _ kk2) (fun hHeld => ?_)
      clear hK K
      refine held_take 8 (.string (T ++ T0 ++ T1)) rfl (by kernel_rfl) (by kernel_rfl) (by kernel_rfl) (fun _ _ _ h => h) hHeld (Or.inl ⟨by rfl, fun w' hSw => exec_add 9 9 (.tmp 66) (.tmp 69) rfl (T ++ T0) T1 rfl rfl z1 w'⟩) ?_
      simp only [Act.put, List.setIfInBounds_toArray, List.set_cons_zero, List.set_cons_succ]
      refine held_step 11 rfl (by kernel_rfl) (fun K hK => ?_)
      go_simp
      go_at_call 23
      refine (ft2.out _).mono ?_; rintro e wc ⟨rfl, kc⟩
      have kk3 : Only [] wr wc := kk2.trans kc
      go_wp2_with fail
      refine hK.out _ _ (KP.out _ kk3) (fun hHeld => ?_)
      clear hK K
      refine held_take 12 (.string (T ++ T0 ++ T1 ++ T2)) rfl (by kernel_rfl) (by kernel_rfl) (by kernel_rfl) (fun _ _ _ h => h) hHeld (Or.inl ⟨by rfl, fun w' hSw => exec_add 9 9 (.tmp 70) (.tmp 73) rfl (T ++ T0 ++ T1) T2 rfl rfl z2 w'⟩) ?_
      simp only [Act.put, List.setIfInBounds_toArray, List.set_cons_zero, List.set_cons_succ]
      refine held_take 13 (.string (T ++ T0 ++ T1 ++ T2)) rfl (by kernel_rfl) (by kernel_rfl) (by kernel_rfl) (fun _ _ _ h => h) hHeld (Or.inl ⟨by rfl, fun w' hSw => by (try dsimp only at hSw); (try subst hSw); go_simp⟩) ?_
      simp only [Act.put, List.setIfInBounds_toArray, List.set_cons_zero, List.set_cons_succ]
      refine wpAnyH_done (by kernel_rfl) ?_ _
      clear hHeld
      go_wp2
      go_ret
      exact ⟨congrArg (fun x => Ending.returned (Value.string x)) PI.out, hw.trans kk3⟩

end Go.Proofs.Ytjnbajpckohnnaa
