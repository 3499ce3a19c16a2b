/- Whether a state's tree, its opens may be. -/
import Derived.Test.YtalkhhjfplahkaaGreatKM
import Derived.Test.YtalkhhjfplahkaaGreatKRight10
import Derived.Test.YtalkhhjfplahkaaGreatKRight11
namespace Go.Proofs.YtalkhhjfplahkaaGreat
open Go.RowKit

theorem treeR_iff {s : Sta} {x : Nd} (h : Tree s.tree) (hx : s.tree[s.tree.length - 1]? = some x) : TreeR s ↔ x.id < s.next := by
  have e : s.tree.getLast? = some x := by rw [List.getLast?_eq_getElem?]; exact hx
  constructor
  · exact fun r => r.last x e
  · intro k
    refine ⟨h, fun n hn => ?_⟩
    rw [e] at hn
    injection hn with hn
    subst hn
    exact k

set_option maxRecDepth 100000 in
set_option maxHeartbeats 4000000 in
theorem treeRight_any (w : World) (s : Sta) (p : Sp) (h : StM w s p) : Calls Tryz.prog 30 #[staV s p] w fun e w' => Says (TreeR s) e ∧ Only [] w w' := by
  have k0 : Only [] w (w.alloc (.cells #[.int .u32 s.boot, .int .u32 s.next, .slice p.tA s.tree.length p.tc, .slice p.oA s.opens.length p.oc, .slice p.lA s.locks.length p.lc, .slice p.wA s.works.length p.wc, .slice p.sA s.seats.length p.sc] 29)) := (Only.refl [] w).alloc _
  have bx := Sx.new w s p
  have hT := fun W (kW : Only [] w W) => right_tree W p.tA p.tc s.tree (h.tree.kept kW (by simp)) h.tc h.tl
  have hl := h.tl
  have hno : ¬ Tree s.tree → ¬ TreeR s := fun hn r => hn r.tree
  have hcell : ∀ (ht : Tree s.tree), ∃ x g o, s.tree[s.tree.length - 1]? = some x ∧ p.tA = some ⟨g, o, none⟩ ∧ 0 < s.tree.length ∧ ∀ W, Only [] w W → W.cell? ⟨g, o + (s.tree.length - 1) * 5, none⟩ = some (.int .u32 x.id) := by
    intro ht
    have hpos : 0 < s.tree.length := by rw [ht.cons]; simp
    have hi : s.tree.length - 1 < s.tree.length := by omega
    obtain ⟨g, o, hA, hg, hat⟩ := h.tree.get hi
    exact ⟨s.tree[s.tree.length - 1], g, o, List.getElem?_eq_getElem hi, hA, hpos, fun W kW => (nds_at (hat.kept kW (by simp)) hi).1⟩
  have hiff := fun x ht hx => treeR_iff (s := s) (x := x) ht hx
  unfold staV
  obtain ⟨sb, sn, t, so, sl, sw, ss⟩ := s
  obtain ⟨tA, tc, oA, oc, lA, lc, lv, wA, wc, sA, sc⟩ := p
  simp only at k0 bx hT hl hno hcell hiff ⊢
  have KB := fun W kW => bx.at (S := []) (w' := W) kW (by simp)
  simp only at KB
  generalize TreeR ⟨sb, sn, t, so, sl, sw, ss⟩ = R at *
  replace hT := Lib.hid hT
  clear h bx
  by_cases ht : Tree t
  · obtain ⟨x, g, o, hx, rfl, hpos, hc⟩ := hcell ht
    have hi := hiff x ht hx
    have hlen : ((t.length : Int) - 1).toNat = t.length - 1 := by omega
    have hl2 : (t.length : Int) ≤ 1048576 := by omega
    have hp2 : (0 : Int) < (t.length : Int) := by omega
    have hl3 : (t.length : Int) - 1 < (t.length : Int) := by omega
    have hl4 : (0 : Int) ≤ (t.length : Int) - 1 := by omega
    have hl5 : ¬ (t.length : Int) < 1 := by omega
    have hwr : IntKind.i64.wrap ((t.length : Int) - 1) = (t.length : Int) - 1 := by simp only [IntKind.wrap, IntKind.bits, IntKind.signed]; simp; omega
    have KP : Hid (∀ W, Only [] (w.alloc (.cells #[.int .u32 sb, .int .u32 sn, .slice (some ⟨g, o, none⟩) t.length tc, .slice oA so.length oc, .slice lA sl.length lc, .slice wA sw.length wc, .slice sA ss.length sc] 29)) W → W.cell? ⟨w.heap.size, 1, none⟩ = some (.int .u32 sn) ∧ W.cell? ⟨w.heap.size, 2, none⟩ = some (.slice (some ⟨g, o, none⟩) t.length tc) ∧ W.cell? ⟨g, o + (t.length - 1) * 5, none⟩ = some (.int .u32 x.id)) := fun W kW => ⟨(KB W kW).2.1, (KB W kW).2.2.1, hc W (k0.trans kW)⟩
    replace hx := Lib.hid hx
    generalize x.id = xi at *
    have hRb : Hid (R ↔ xi < sn) := hi
    clear hi hcell hiff hc KB hno
    have hT1 := Lib.hid (fun W kW => (hT.out W kW))
    replace ht := Lib.hid ht
    have d : ∃ b, decide (xi < sn) = b := ⟨_, rfl⟩
    obtain ⟨b, d⟩ := d
    go_enter Tryz.func30, Tryz.ntmps30
    go_wp2_with fail
    refine wp_region_held_drew (S := fun w' => w'.cell? ⟨w.heap.size, 1, none⟩ = some (.int .u32 sn) ∧ w'.cell? ⟨w.heap.size, 2, none⟩ = some (.slice (some ⟨g, o, none⟩) t.length tc) ∧ w'.cell? ⟨g, o + (t.length - 1) * 5, none⟩ = some (.int .u32 xi)) (by kernel_rfl) (KP.out _ (Only.refl [] _).drew) (fun hHeld => ?_)
    refine held_take 0 (.pointer (some ⟨w.heap.size, 2, none⟩)) rfl (by kernel_rfl) (by kernel_rfl) (by kernel_rfl) (fun _ _ _ h => h) hHeld (Or.inl ⟨by rfl, fun w' hSw => by (try dsimp only at hSw); (try subst hSw); go_simp⟩) ?_
    simp only [Act.put, List.setIfInBounds_toArray, List.set_cons_zero, List.set_cons_succ]
    refine held_take 1 (.slice (some ⟨g, o, none⟩) t.length tc) rfl (by kernel_rfl) (by kernel_rfl) (by kernel_rfl) (fun _ _ _ h => h) hHeld (Or.inl ⟨by rfl, fun w' hSw => by (try dsimp only at hSw); (try subst hSw); go_simp⟩) ?_
    simp only [Act.put, List.setIfInBounds_toArray, List.set_cons_zero, List.set_cons_succ]
    refine held_step 2 rfl (by kernel_rfl) (fun K hK => ?_)
    go_simp
    refine (hT1.out _ k0.drew).mono ?_; rintro e w2 ⟨⟨r, rfl, hr⟩, k2⟩; obtain rfl := hr.2 ht.out; clear hr; replace k2 := k2.undrew
    go_wp2_with fail
    refine hK.out _ _ (KP.out _ k2) (fun hHeld => ?_)
    clear hK K
    refine held_take 3 (.bool true) rfl (by kernel_rfl) (by kernel_rfl) (by kernel_rfl) (fun _ _ _ h => h) hHeld (Or.inl ⟨by rfl, fun w' hSw => by (try dsimp only at hSw); (try subst hSw); go_simp⟩) ?_
    simp only [Act.put, List.setIfInBounds_toArray, List.set_cons_zero, List.set_cons_succ]
    refine held_take 4 (.pointer (some ⟨w.heap.size, 2, none⟩)) rfl (by kernel_rfl) (by kernel_rfl) (by kernel_rfl) (fun _ _ _ h => h) hHeld (Or.inl ⟨by rfl, fun w' hSw => by (try dsimp only at hSw); (try subst hSw); go_simp⟩) ?_
    simp only [Act.put, List.setIfInBounds_toArray, List.set_cons_zero, List.set_cons_succ]
    refine held_take 5 (.slice (some ⟨g, o, none⟩) t.length tc) rfl (by kernel_rfl) (by kernel_rfl) (by kernel_rfl) (fun _ _ _ h => h) hHeld (Or.inl ⟨by rfl, fun w' hSw => by (try dsimp only at hSw); (try subst hSw); go_simp⟩) ?_
    simp only [Act.put, List.setIfInBounds_toArray, List.set_cons_zero, List.set_cons_succ]
    refine held_take 6 (.pointer (some ⟨w.heap.size, 2, none⟩)) rfl (by kernel_rfl) (by kernel_rfl) (by kernel_rfl) (fun _ _ _ h => h) hHeld (Or.inl ⟨by rfl, fun w' hSw => by (try dsimp only at hSw); (try subst hSw); go_simp⟩) ?_
    simp only [Act.put, List.setIfInBounds_toArray, List.set_cons_zero, List.set_cons_succ]
    refine held_take 7 (.slice (some ⟨g, o, none⟩) t.length tc) rfl (by kernel_rfl) (by kernel_rfl) (by kernel_rfl) (fun _ _ _ h => h) hHeld (Or.inl ⟨by rfl, fun w' hSw => by (try dsimp only at hSw); (try subst hSw); go_simp⟩) ?_
    simp only [Act.put, List.setIfInBounds_toArray, List.set_cons_zero, List.set_cons_succ]
    refine held_take 8 (.int .i64 t.length) rfl (by kernel_rfl) (by kernel_rfl) (by kernel_rfl) (fun _ _ _ h => h) hHeld (Or.inl ⟨by rfl, fun w' hSw => by (try dsimp only at hSw); (try subst hSw); go_simp⟩) ?_
    simp only [Act.put, List.setIfInBounds_toArray, List.set_cons_zero, List.set_cons_succ]
    refine held_take 9 (.int .i64 ((t.length : Int) - 1)) rfl (by kernel_rfl) (by kernel_rfl) (by kernel_rfl) (fun _ _ _ h => h) hHeld (Or.inl ⟨by rfl, fun w' hSw => by (try dsimp only at hSw); (try subst hSw); go_simp⟩) ?_
    simp only [Act.put, List.setIfInBounds_toArray, List.set_cons_zero, List.set_cons_succ]
    refine held_take 10 (.pointer (some ⟨g, o + (t.length - 1) * 5, none⟩)) rfl (by kernel_rfl) (by kernel_rfl) (by kernel_rfl) (fun _ _ _ h => h) hHeld (Or.inl ⟨by rfl, fun w' hSw => by (try dsimp only at hSw); (try subst hSw); go_simp⟩) ?_
    simp only [Act.put, List.setIfInBounds_toArray, List.set_cons_zero, List.set_cons_succ]
    refine held_take 11 (.pointer (some ⟨g, o + (t.length - 1) * 5, none⟩)) rfl (by kernel_rfl) (by kernel_rfl) (by kernel_rfl) (fun _ _ _ h => h) hHeld (Or.inl ⟨by rfl, fun w' hSw => by (try dsimp only at hSw); (try subst hSw); go_simp⟩) ?_
    simp only [Act.put, List.setIfInBounds_toArray, List.set_cons_zero, List.set_cons_succ]
    refine held_take 12 (.int .u32 xi) rfl (by kernel_rfl) (by kernel_rfl) (by kernel_rfl) (fun _ _ _ h => h) hHeld (Or.inl ⟨by rfl, fun w' hSw => by (try dsimp only at hSw); (try subst hSw); go_simp⟩) ?_
    simp only [Act.put, List.setIfInBounds_toArray, List.set_cons_zero, List.set_cons_succ]
    refine held_take 13 (.pointer (some ⟨w.heap.size, 1, none⟩)) rfl (by kernel_rfl) (by kernel_rfl) (by kernel_rfl) (fun _ _ _ h => h) hHeld (Or.inl ⟨by rfl, fun w' hSw => by (try dsimp only at hSw); (try subst hSw); go_simp⟩) ?_
    simp only [Act.put, List.setIfInBounds_toArray, List.set_cons_zero, List.set_cons_succ]
    refine held_take 14 (.int .u32 sn) rfl (by kernel_rfl) (by kernel_rfl) (by kernel_rfl) (fun _ _ _ h => h) hHeld (Or.inl ⟨by rfl, fun w' hSw => by (try dsimp only at hSw); (try subst hSw); go_simp⟩) ?_
    simp only [Act.put, List.setIfInBounds_toArray, List.set_cons_zero, List.set_cons_succ]
    refine held_take 15 (.bool (decide (xi < sn))) rfl (by kernel_rfl) (by kernel_rfl) (by kernel_rfl) (fun _ _ _ h => h) hHeld (Or.inl ⟨by rfl, fun w' hSw => by (try dsimp only at hSw); (try subst hSw); go_simp⟩) ?_
    simp only [Act.put, List.setIfInBounds_toArray, List.set_cons_zero, List.set_cons_succ]
    refine held_take 16 (.bool (decide (xi < sn))) rfl (by kernel_rfl) (by kernel_rfl) (by kernel_rfl) (fun _ _ _ h => h) hHeld (Or.inl ⟨by rfl, fun w' hSw => by (try dsimp only at hSw); (try subst hSw); go_simp⟩) ?_
    simp only [Act.put, List.setIfInBounds_toArray, List.set_cons_zero, List.set_cons_succ]
    refine held_take 17 (.bool (decide (xi < sn))) rfl (by kernel_rfl) (by kernel_rfl) (by kernel_rfl) (fun _ _ _ h => h) hHeld (Or.inl ⟨by rfl, fun w' hSw => by (try dsimp only at hSw); (try subst hSw); go_simp⟩) ?_
    simp only [Act.put, List.setIfInBounds_toArray, List.set_cons_zero, List.set_cons_succ]
    refine wpAnyH_done (by kernel_rfl) ?_ _
    clear hHeld
    go_wp2
    go_ret
    exact ⟨⟨_, rfl, by rw [hRb.out]; simp⟩, k0.trans k2⟩
  · have KP : Hid (∀ W, Only [] (w.alloc (.cells #[.int .u32 sb, .int .u32 sn, .slice tA t.length tc, .slice oA so.length oc, .slice lA sl.length lc, .slice wA sw.length wc, .slice sA ss.length sc] 29)) W → W.cell? ⟨w.heap.size, 1, none⟩ = some (.int .u32 sn) ∧ W.cell? ⟨w.heap.size, 2, none⟩ = some (.slice tA t.length tc)) := fun W kW => ⟨(KB W kW).2.1, (KB W kW).2.2.1⟩
    have hn := Lib.hid (hno ht)
    clear hcell hiff KB hno
    replace ht := Lib.hid ht
    go_enter Tryz.func30, Tryz.ntmps30
    go_wp2_with fail
    refine wp_region_held_drew (S := fun w' => w'.cell? ⟨w.heap.size, 1, none⟩ = some (.int .u32 sn) ∧ w'.cell? ⟨w.heap.size, 2, none⟩ = some (.slice tA t.length tc)) (by kernel_rfl) (KP.out _ (Only.refl [] _).drew) (fun hHeld => ?_)
    refine held_take 0 (.pointer (some ⟨w.heap.size, 2, none⟩)) rfl (by kernel_rfl) (by kernel_rfl) (by kernel_rfl) (fun _ _ _ h => h) hHeld (Or.inl ⟨by rfl, fun w' hSw => by (try dsimp only at hSw); (try subst hSw); go_simp⟩) ?_
    simp only [Act.put, List.setIfInBounds_toArray, List.set_cons_zero, List.set_cons_succ]
    refine held_take 1 (.slice tA t.length tc) rfl (by kernel_rfl) (by kernel_rfl) (by kernel_rfl) (fun _ _ _ h => h) hHeld (Or.inl ⟨by rfl, fun w' hSw => by (try dsimp only at hSw); (try subst hSw); go_simp⟩) ?_
    simp only [Act.put, List.setIfInBounds_toArray, List.set_cons_zero, List.set_cons_succ]
    refine held_step 2 rfl (by kernel_rfl) (fun K hK => ?_)
    go_simp
    refine (hT.out _ k0.drew).mono ?_; rintro e w2 ⟨⟨r, rfl, hr⟩, k2⟩; obtain rfl : r = false := by { cases r; rfl; exact absurd (hr.1 rfl) ht.out }
    clear hr; replace k2 := k2.undrew
    go_wp2_with fail
    refine hK.out _ _ (KP.out _ k2) (fun hHeld => ?_)
    clear hK K
    refine held_take 3 (.bool false) rfl (by kernel_rfl) (by kernel_rfl) (by kernel_rfl) (fun _ _ _ h => h) hHeld (Or.inl ⟨by rfl, fun w' hSw => by (try dsimp only at hSw); (try subst hSw); go_simp⟩) ?_
    simp only [Act.put, List.setIfInBounds_toArray, List.set_cons_zero, List.set_cons_succ]
    refine held_take 4 undef rfl (by kernel_rfl) (by kernel_rfl) (by kernel_rfl) (fun _ _ _ h => h) hHeld (Or.inr ⟨by rfl, rfl⟩) ?_
    simp only [Act.put, List.setIfInBounds_toArray, List.set_cons_zero, List.set_cons_succ]
    refine held_take 5 undef rfl (by kernel_rfl) (by kernel_rfl) (by kernel_rfl) (fun _ _ _ h => h) hHeld (Or.inr ⟨by rfl, rfl⟩) ?_
    simp only [Act.put, List.setIfInBounds_toArray, List.set_cons_zero, List.set_cons_succ]
    refine held_take 6 undef rfl (by kernel_rfl) (by kernel_rfl) (by kernel_rfl) (fun _ _ _ h => h) hHeld (Or.inr ⟨by rfl, rfl⟩) ?_
    simp only [Act.put, List.setIfInBounds_toArray, List.set_cons_zero, List.set_cons_succ]
    refine held_take 7 undef rfl (by kernel_rfl) (by kernel_rfl) (by kernel_rfl) (fun _ _ _ h => h) hHeld (Or.inr ⟨by rfl, rfl⟩) ?_
    simp only [Act.put, List.setIfInBounds_toArray, List.set_cons_zero, List.set_cons_succ]
    refine held_take 8 undef rfl (by kernel_rfl) (by kernel_rfl) (by kernel_rfl) (fun _ _ _ h => h) hHeld (Or.inr ⟨by rfl, rfl⟩) ?_
    simp only [Act.put, List.setIfInBounds_toArray, List.set_cons_zero, List.set_cons_succ]
    refine held_take 9 undef rfl (by kernel_rfl) (by kernel_rfl) (by kernel_rfl) (fun _ _ _ h => h) hHeld (Or.inr ⟨by rfl, rfl⟩) ?_
    simp only [Act.put, List.setIfInBounds_toArray, List.set_cons_zero, List.set_cons_succ]
    refine held_take 10 undef rfl (by kernel_rfl) (by kernel_rfl) (by kernel_rfl) (fun _ _ _ h => h) hHeld (Or.inr ⟨by rfl, rfl⟩) ?_
    simp only [Act.put, List.setIfInBounds_toArray, List.set_cons_zero, List.set_cons_succ]
    refine held_take 11 undef rfl (by kernel_rfl) (by kernel_rfl) (by kernel_rfl) (fun _ _ _ h => h) hHeld (Or.inr ⟨by rfl, rfl⟩) ?_
    simp only [Act.put, List.setIfInBounds_toArray, List.set_cons_zero, List.set_cons_succ]
    refine held_take 12 undef rfl (by kernel_rfl) (by kernel_rfl) (by kernel_rfl) (fun _ _ _ h => h) hHeld (Or.inr ⟨by rfl, rfl⟩) ?_
    simp only [Act.put, List.setIfInBounds_toArray, List.set_cons_zero, List.set_cons_succ]
    refine held_take 13 undef rfl (by kernel_rfl) (by kernel_rfl) (by kernel_rfl) (fun _ _ _ h => h) hHeld (Or.inr ⟨by rfl, rfl⟩) ?_
    simp only [Act.put, List.setIfInBounds_toArray, List.set_cons_zero, List.set_cons_succ]
    refine held_take 14 undef rfl (by kernel_rfl) (by kernel_rfl) (by kernel_rfl) (fun _ _ _ h => h) hHeld (Or.inr ⟨by rfl, rfl⟩) ?_
    simp only [Act.put, List.setIfInBounds_toArray, List.set_cons_zero, List.set_cons_succ]
    refine held_take 15 undef rfl (by kernel_rfl) (by kernel_rfl) (by kernel_rfl) (fun _ _ _ h => h) hHeld (Or.inr ⟨by rfl, rfl⟩) ?_
    simp only [Act.put, List.setIfInBounds_toArray, List.set_cons_zero, List.set_cons_succ]
    refine held_take 16 (.bool false) rfl (by kernel_rfl) (by kernel_rfl) (by kernel_rfl) (fun _ _ _ h => h) hHeld (Or.inl ⟨by rfl, fun w' hSw => by (try dsimp only at hSw); (try subst hSw); go_simp⟩) ?_
    simp only [Act.put, List.setIfInBounds_toArray, List.set_cons_zero, List.set_cons_succ]
    refine held_take 17 (.bool false) rfl (by kernel_rfl) (by kernel_rfl) (by kernel_rfl) (fun _ _ _ h => h) hHeld (Or.inl ⟨by rfl, fun w' hSw => by (try dsimp only at hSw); (try subst hSw); go_simp⟩) ?_
    simp only [Act.put, List.setIfInBounds_toArray, List.set_cons_zero, List.set_cons_succ]
    refine wpAnyH_done (by kernel_rfl) ?_ _
    clear hHeld
    go_wp2
    go_ret
    exact ⟨Says.no hn.out, k0.trans k2⟩

theorem opensR_iff {s : Sta} : OpensR s ↔ RightO s.opens ∧ s.opens.any (fun o => !cliB o.client || !isFileL s.tree o.file) = false := by
  rw [List.any_eq_false]
  constructor
  · intro r
    refine ⟨r.right, fun o ho => ?_⟩
    obtain ⟨a, b⟩ := r.each o ho
    simp [a, b]
  · rintro ⟨h, k⟩
    refine ⟨h, fun o ho => ?_⟩
    have := k o ho
    simpa using this

set_option maxRecDepth 100000 in
set_option maxHeartbeats 4000000 in
theorem opensRight_any (w : World) (s : Sta) (p : Sp) (h : StM w s p) : Calls Tryz.prog 31 #[staV s p] w fun e w' => Says (OpensR s) e ∧ Only [] w w' := by
  have k0 : Only [] w (w.alloc (.cells #[.int .u32 s.boot, .int .u32 s.next, .slice p.tA s.tree.length p.tc, .slice p.oA s.opens.length p.oc, .slice p.lA s.locks.length p.lc, .slice p.wA s.works.length p.wc, .slice p.sA s.seats.length p.sc] 29)) := (Only.refl [] w).alloc _
  have bx := Sx.new w s p
  have hl := h.ol
  have hR := fun W (kW : Only [] w W) => right_share W p.oA p.oc s.opens (h.opens.kept kW (by simp)) (by omega) h.oc
  have hC := fun W (kW : Only [] (w.alloc (.cells #[.int .u32 s.boot, .int .u32 s.next, .slice p.tA s.tree.length p.tc, .slice p.oA s.opens.length p.oc, .slice p.lA s.locks.length p.lc, .slice p.wA s.works.length p.wc, .slice p.sA s.seats.length p.sc] 29)) W) => contains_op W p.oA p.oc s.opens w.heap.size (fun o => !cliB o.client || !isFileL s.tree o.file) (h.opens.kept (k0.trans kW) (by simp)) (by omega) (fun V kV x hx => strangeO_w V s p x w.heap.size (h.kept ((k0.trans kW).trans kV)) (Blk.kept bx (kW.trans kV) (by simp)) (h.fit.opens x hx))
  have hiff := opensR_iff (s := s)
  generalize s.opens.any (fun o => !cliB o.client || !isFileL s.tree o.file) = b2 at *
  obtain ⟨b1, hb1⟩ : ∃ b, decide (RightO s.opens) = b := ⟨_, rfl⟩
  rw [hb1] at hR
  have hi2 : Hid (OpensR s ↔ (b1 = true ∧ b2 = false)) := by
    unfold Hid
    rw [hiff, ← hb1, decide_eq_true_iff]
  unfold staV
  have KB := fun W kW => bx.at (S := []) (w' := W) kW (by simp)
  generalize OpensR s = R at *
  obtain ⟨sb, sn, t, so, sl, sw, ss⟩ := s
  obtain ⟨tA, tc, oA, oc, lA, lc, lv, wA, wc, sA, sc⟩ := p
  simp only at k0 bx hR hC KB ⊢
  replace hR := Lib.hid hR
  replace hC := Lib.hid hC
  clear h hiff hb1
  obtain ⟨c0, c1, c2, c3, c4, c5, c6⟩ := KB _ (Only.refl _ _)
  have KP := Lib.hid KB
  clear KB bx
  go_enter Tryz.func31, Tryz.ntmps31
  go_wp2_with fail
  refine (hR.out _ k0).mono ?_; rintro e w2 ⟨rfl, k2⟩
  clear c0 c1 c2 c3 c4 c5 c6
  obtain ⟨c0, c1, c2, c3, c4, c5, c6⟩ := KP.out _ k2
  cases b1 with
  | false =>
    go_wp2
    go_ret
    exact ⟨Says.no (by rw [hi2.out]; simp), k0.trans k2⟩
  | true =>
    go_wp2_with fail
    refine (hC.out _ k2).mono ?_; rintro e w3 ⟨rfl, k3⟩
    go_wp2
    go_ret
    exact ⟨⟨_, rfl, by rw [hi2.out]; cases b2 <;> simp⟩, (k0.trans k2).trans k3⟩

end Go.Proofs.YtalkhhjfplahkaaGreat
