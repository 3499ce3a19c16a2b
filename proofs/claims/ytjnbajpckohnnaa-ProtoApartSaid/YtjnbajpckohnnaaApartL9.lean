/- ProtoApart: unlike packets have unlike bytes, all as many as a multiple of four. -/
import Derived.Test.YtjnbajpckohnnaaAlive9
namespace Go.Proofs.Ytjnbajpckohnnaa
open Go.RowKit

set_option maxHeartbeats 1000000 in
theorem protoApart_walk (p q : Pk) (w : World) (ho : p.Ok) (hq : q.Ok) :
    Calls Try.prog 6 #[pkV p, pkV q] w fun e w' => e = .returned (.bool true) ∧ Only [] w w' := by
  by_cases h0 : 1000 < p.path.size
  · have e0 : (1000 : Int) < (p.path.size : Int) := by omega
    have e0' : decide ((1000 : Int) < (p.path.size : Int)) = true := decide_eq_true e0
    clear h0
    go_enter Try.func6, Try.ntmps6
    go_wp2_with fail
    refine (alive_any _).mono ?_; rintro e w1 ⟨rfl, k1⟩
    have b1 := ((Blk.new w 27 (pkA p)).alloc (.cells (pkA q) 27)).kept k1 (by simp)
    have d1 := (Blk.new (w.alloc (.cells (pkA p) 27)) 27 (pkA q)).kept k1 (by simp)
    rw [show (w.alloc (.cells (pkA p) 27)).heap.size = w.heap.size + 1 by simp] at d1
    have j1 := k1.boxed.boxed
    have cp17 : w1.cell? ⟨w.heap.size, 17, none⟩ = some (.string p.path) := b1.cell 17
    have cp18 : w1.cell? ⟨w.heap.size, 18, none⟩ = some (.string p.other) := b1.cell 18
    have cp19 : w1.cell? ⟨w.heap.size, 19, none⟩ = some (.string p.data) := b1.cell 19
    have cq17 : w1.cell? ⟨w.heap.size + 1, 17, none⟩ = some (.string q.path) := d1.cell 17
    have cq18 : w1.cell? ⟨w.heap.size + 1, 18, none⟩ = some (.string q.other) := d1.cell 18
    have cq19 : w1.cell? ⟨w.heap.size + 1, 19, none⟩ = some (.string q.data) := d1.cell 19
    clear b1 d1 k1
    go_wp2_with fail
    refine (alive_any _).mono ?_; rintro e w2 ⟨rfl, k2⟩
    go_wp2
    go_ret
    exact ⟨rfl, j1.trans k2⟩
  have e0 : ¬ (1000 : Int) < (p.path.size : Int) := by omega
  have e0' : decide ((1000 : Int) < (p.path.size : Int)) = false := decide_eq_false e0
  clear h0
  by_cases h1 : 1000 < p.other.size
  · have e1 : (1000 : Int) < (p.other.size : Int) := by omega
    have e1' : decide ((1000 : Int) < (p.other.size : Int)) = true := decide_eq_true e1
    clear h1
    go_enter Try.func6, Try.ntmps6
    go_wp2_with fail
    refine (alive_any _).mono ?_; rintro e w1 ⟨rfl, k1⟩
    have b1 := ((Blk.new w 27 (pkA p)).alloc (.cells (pkA q) 27)).kept k1 (by simp)
    have d1 := (Blk.new (w.alloc (.cells (pkA p) 27)) 27 (pkA q)).kept k1 (by simp)
    rw [show (w.alloc (.cells (pkA p) 27)).heap.size = w.heap.size + 1 by simp] at d1
    have j1 := k1.boxed.boxed
    have cp17 : w1.cell? ⟨w.heap.size, 17, none⟩ = some (.string p.path) := b1.cell 17
    have cp18 : w1.cell? ⟨w.heap.size, 18, none⟩ = some (.string p.other) := b1.cell 18
    have cp19 : w1.cell? ⟨w.heap.size, 19, none⟩ = some (.string p.data) := b1.cell 19
    have cq17 : w1.cell? ⟨w.heap.size + 1, 17, none⟩ = some (.string q.path) := d1.cell 17
    have cq18 : w1.cell? ⟨w.heap.size + 1, 18, none⟩ = some (.string q.other) := d1.cell 18
    have cq19 : w1.cell? ⟨w.heap.size + 1, 19, none⟩ = some (.string q.data) := d1.cell 19
    clear b1 d1 k1
    go_wp2_with fail
    refine (alive_any _).mono ?_; rintro e w2 ⟨rfl, k2⟩
    go_wp2
    go_ret
    exact ⟨rfl, j1.trans k2⟩
  have e1 : ¬ (1000 : Int) < (p.other.size : Int) := by omega
  have e1' : decide ((1000 : Int) < (p.other.size : Int)) = false := decide_eq_false e1
  clear h1
  by_cases h2 : 1000 < p.data.size
  · have e2 : (1000 : Int) < (p.data.size : Int) := by omega
    have e2' : decide ((1000 : Int) < (p.data.size : Int)) = true := decide_eq_true e2
    clear h2
    go_enter Try.func6, Try.ntmps6
    go_wp2_with fail
    refine (alive_any _).mono ?_; rintro e w1 ⟨rfl, k1⟩
    have b1 := ((Blk.new w 27 (pkA p)).alloc (.cells (pkA q) 27)).kept k1 (by simp)
    have d1 := (Blk.new (w.alloc (.cells (pkA p) 27)) 27 (pkA q)).kept k1 (by simp)
    rw [show (w.alloc (.cells (pkA p) 27)).heap.size = w.heap.size + 1 by simp] at d1
    have j1 := k1.boxed.boxed
    have cp17 : w1.cell? ⟨w.heap.size, 17, none⟩ = some (.string p.path) := b1.cell 17
    have cp18 : w1.cell? ⟨w.heap.size, 18, none⟩ = some (.string p.other) := b1.cell 18
    have cp19 : w1.cell? ⟨w.heap.size, 19, none⟩ = some (.string p.data) := b1.cell 19
    have cq17 : w1.cell? ⟨w.heap.size + 1, 17, none⟩ = some (.string q.path) := d1.cell 17
    have cq18 : w1.cell? ⟨w.heap.size + 1, 18, none⟩ = some (.string q.other) := d1.cell 18
    have cq19 : w1.cell? ⟨w.heap.size + 1, 19, none⟩ = some (.string q.data) := d1.cell 19
    clear b1 d1 k1
    go_wp2_with fail
    refine (alive_any _).mono ?_; rintro e w2 ⟨rfl, k2⟩
    go_wp2
    go_ret
    exact ⟨rfl, j1.trans k2⟩
  have e2 : ¬ (1000 : Int) < (p.data.size : Int) := by omega
  have e2' : decide ((1000 : Int) < (p.data.size : Int)) = false := decide_eq_false e2
  clear h2
  by_cases h3 : 1000 < q.path.size
  · have e3 : (1000 : Int) < (q.path.size : Int) := by omega
    have e3' : decide ((1000 : Int) < (q.path.size : Int)) = true := decide_eq_true e3
    clear h3
    go_enter Try.func6, Try.ntmps6
    go_wp2_with fail
    refine (alive_any _).mono ?_; rintro e w1 ⟨rfl, k1⟩
    have b1 := ((Blk.new w 27 (pkA p)).alloc (.cells (pkA q) 27)).kept k1 (by simp)
    have d1 := (Blk.new (w.alloc (.cells (pkA p) 27)) 27 (pkA q)).kept k1 (by simp)
    rw [show (w.alloc (.cells (pkA p) 27)).heap.size = w.heap.size + 1 by simp] at d1
    have j1 := k1.boxed.boxed
    have cp17 : w1.cell? ⟨w.heap.size, 17, none⟩ = some (.string p.path) := b1.cell 17
    have cp18 : w1.cell? ⟨w.heap.size, 18, none⟩ = some (.string p.other) := b1.cell 18
    have cp19 : w1.cell? ⟨w.heap.size, 19, none⟩ = some (.string p.data) := b1.cell 19
    have cq17 : w1.cell? ⟨w.heap.size + 1, 17, none⟩ = some (.string q.path) := d1.cell 17
    have cq18 : w1.cell? ⟨w.heap.size + 1, 18, none⟩ = some (.string q.other) := d1.cell 18
    have cq19 : w1.cell? ⟨w.heap.size + 1, 19, none⟩ = some (.string q.data) := d1.cell 19
    clear b1 d1 k1
    go_wp2_with fail
    refine (alive_any _).mono ?_; rintro e w2 ⟨rfl, k2⟩
    go_wp2
    go_ret
    exact ⟨rfl, j1.trans k2⟩
  have e3 : ¬ (1000 : Int) < (q.path.size : Int) := by omega
  have e3' : decide ((1000 : Int) < (q.path.size : Int)) = false := decide_eq_false e3
  clear h3
  by_cases h4 : 1000 < q.other.size
  · have e4 : (1000 : Int) < (q.other.size : Int) := by omega
    have e4' : decide ((1000 : Int) < (q.other.size : Int)) = true := decide_eq_true e4
    clear h4
    go_enter Try.func6, Try.ntmps6
    go_wp2_with fail
    refine (alive_any _).mono ?_; rintro e w1 ⟨rfl, k1⟩
    have b1 := ((Blk.new w 27 (pkA p)).alloc (.cells (pkA q) 27)).kept k1 (by simp)
    have d1 := (Blk.new (w.alloc (.cells (pkA p) 27)) 27 (pkA q)).kept k1 (by simp)
    rw [show (w.alloc (.cells (pkA p) 27)).heap.size = w.heap.size + 1 by simp] at d1
    have j1 := k1.boxed.boxed
    have cp17 : w1.cell? ⟨w.heap.size, 17, none⟩ = some (.string p.path) := b1.cell 17
    have cp18 : w1.cell? ⟨w.heap.size, 18, none⟩ = some (.string p.other) := b1.cell 18
    have cp19 : w1.cell? ⟨w.heap.size, 19, none⟩ = some (.string p.data) := b1.cell 19
    have cq17 : w1.cell? ⟨w.heap.size + 1, 17, none⟩ = some (.string q.path) := d1.cell 17
    have cq18 : w1.cell? ⟨w.heap.size + 1, 18, none⟩ = some (.string q.other) := d1.cell 18
    have cq19 : w1.cell? ⟨w.heap.size + 1, 19, none⟩ = some (.string q.data) := d1.cell 19
    clear b1 d1 k1
    go_wp2_with fail
    refine (alive_any _).mono ?_; rintro e w2 ⟨rfl, k2⟩
    go_wp2
    go_ret
    exact ⟨rfl, j1.trans k2⟩
  have e4 : ¬ (1000 : Int) < (q.other.size : Int) := by omega
  have e4' : decide ((1000 : Int) < (q.other.size : Int)) = false := decide_eq_false e4
  clear h4
  by_cases h5 : 1000 < q.data.size
  · have e5 : (1000 : Int) < (q.data.size : Int) := by omega
    have e5' : decide ((1000 : Int) < (q.data.size : Int)) = true := decide_eq_true e5
    clear h5
    go_enter Try.func6, Try.ntmps6
    go_wp2_with fail
    refine (alive_any _).mono ?_; rintro e w1 ⟨rfl, k1⟩
    have b1 := ((Blk.new w 27 (pkA p)).alloc (.cells (pkA q) 27)).kept k1 (by simp)
    have d1 := (Blk.new (w.alloc (.cells (pkA p) 27)) 27 (pkA q)).kept k1 (by simp)
    rw [show (w.alloc (.cells (pkA p) 27)).heap.size = w.heap.size + 1 by simp] at d1
    have j1 := k1.boxed.boxed
    have cp17 : w1.cell? ⟨w.heap.size, 17, none⟩ = some (.string p.path) := b1.cell 17
    have cp18 : w1.cell? ⟨w.heap.size, 18, none⟩ = some (.string p.other) := b1.cell 18
    have cp19 : w1.cell? ⟨w.heap.size, 19, none⟩ = some (.string p.data) := b1.cell 19
    have cq17 : w1.cell? ⟨w.heap.size + 1, 17, none⟩ = some (.string q.path) := d1.cell 17
    have cq18 : w1.cell? ⟨w.heap.size + 1, 18, none⟩ = some (.string q.other) := d1.cell 18
    have cq19 : w1.cell? ⟨w.heap.size + 1, 19, none⟩ = some (.string q.data) := d1.cell 19
    clear b1 d1 k1
    go_wp2_with fail
    refine (alive_any _).mono ?_; rintro e w2 ⟨rfl, k2⟩
    go_wp2
    go_ret
    exact ⟨rfl, j1.trans k2⟩
  have e5 : ¬ (1000 : Int) < (q.data.size : Int) := by omega
  have e5' : decide ((1000 : Int) < (q.data.size : Int)) = false := decide_eq_false e5
  clear h5
  by_cases hr : p.Right
  · by_cases hs : q.Right
    · have C1 := fun w => write_yes w p ho hr
      have C2 := fun w => write_yes w q hq hs
      obtain ⟨l4, l80⟩ := bytesP_length p
      have inj := bytesP_inj p q ho hr hq hs
      rw [← strOf_size] at l4 l80
      have m4 : (((strOf (bytesP p)).size : Int) % 4 == 0) = true := by simp; omega
      have m4' : ((strOf (bytesP p)).size : Int) % 4 = 0 := by omega
      have m80 : (80 : Int) ≤ ((strOf (bytesP p)).size : Int) := by omega
      have m80' : decide ((80 : Int) ≤ ((strOf (bytesP p)).size : Int)) = true := decide_eq_true m80
      clear l4 l80
      by_cases hpq : p = q
      · subst hpq
        generalize strOf (bytesP p) = S at *
        replace C1 := Lib.hid C1
        replace C2 := Lib.hid C2
        clear inj hr hs ho hq
        go_enter Try.func6, Try.ntmps6
        go_wp2_with fail
        refine (alive_any _).mono ?_; rintro e w1 ⟨rfl, k1⟩
        have b1 := ((Blk.new w 27 (pkA p)).alloc (.cells (pkA p) 27)).kept k1 (by simp)
        have d1 := (Blk.new (w.alloc (.cells (pkA p) 27)) 27 (pkA p)).kept k1 (by simp)
        rw [show (w.alloc (.cells (pkA p) 27)).heap.size = w.heap.size + 1 by simp] at d1
        have j1 := k1.boxed.boxed
        have cp17 : w1.cell? ⟨w.heap.size, 17, none⟩ = some (.string p.path) := b1.cell 17
        have cp18 : w1.cell? ⟨w.heap.size, 18, none⟩ = some (.string p.other) := b1.cell 18
        have cp19 : w1.cell? ⟨w.heap.size, 19, none⟩ = some (.string p.data) := b1.cell 19
        have cq17 : w1.cell? ⟨w.heap.size + 1, 17, none⟩ = some (.string p.path) := d1.cell 17
        have cq18 : w1.cell? ⟨w.heap.size + 1, 18, none⟩ = some (.string p.other) := d1.cell 18
        have cq19 : w1.cell? ⟨w.heap.size + 1, 19, none⟩ = some (.string p.data) := d1.cell 19
        clear k1
        go_wp2_with (first
            | (refine wpList_load_pk p rfl (.tmp 2) rfl w.heap.size rfl b1 ?_))
        refine (C1.out _).mono ?_; rintro e w2 ⟨rfl, k2⟩
        have b2 := b1.kept k2 (by simp)
        have d2 := d1.kept k2 (by simp)
        have j2 := j1.trans k2
        clear b1 d1 k2 cp17 cp18 cp19 cq17 cq18 cq19
        go_wp2_with (first
            | (refine wpList_load_pk p rfl (.tmp 3) rfl (w.heap.size + 1) rfl d2 ?_))
        refine (C2.out _).mono ?_; rintro e w3 ⟨rfl, k3⟩
        have b3 := b2.kept k3 (by simp)
        have d3 := d2.kept k3 (by simp)
        have j3 := j2.trans k3
        clear b2 d2 k3
        go_wp2_with fail
        refine (alive_any _).mono ?_; rintro e w4 ⟨rfl, k4⟩
        have b4 := b3.kept k4 (by simp)
        have d4 := d3.kept k4 (by simp)
        have j4 := j3.trans k4
        clear b3 d3 k4
        go_wp2_with (first
            | (refine wpList_load_pk p rfl (.tmp 2) rfl w.heap.size rfl b4 ?_)
            | (refine wpList_load_pk p rfl (.tmp 3) rfl (w.heap.size + 1) rfl d4 ?_)
            | (refine wpList_eql_pk p p rfl (.tmp 74) (.tmp 75) _ rfl rfl rfl true (decide_eq_true rfl) ?_))
        go_ret
        exact ⟨rfl, j4⟩
      · have hne : strOf (bytesP p) ≠ strOf (bytesP q) := fun e => hpq (inj (by have := congrArg (fun b => b.data.toList) e; simpa [strOf] using this))
        generalize strOf (bytesP p) = S at *
        generalize strOf (bytesP q) = U at *
        have hne2 : (S.toList == U.toList) = false := by rw [beq_eq_false_iff_ne]; intro e; exact hne (by simpa [list_same] using e)
        replace C1 := Lib.hid C1
        replace C2 := Lib.hid C2
        clear inj hr hs ho hq
        go_enter Try.func6, Try.ntmps6
        go_wp2_with fail
        refine (alive_any _).mono ?_; rintro e w1 ⟨rfl, k1⟩
        have b1 := ((Blk.new w 27 (pkA p)).alloc (.cells (pkA q) 27)).kept k1 (by simp)
        have d1 := (Blk.new (w.alloc (.cells (pkA p) 27)) 27 (pkA q)).kept k1 (by simp)
        rw [show (w.alloc (.cells (pkA p) 27)).heap.size = w.heap.size + 1 by simp] at d1
        have j1 := k1.boxed.boxed
        have cp17 : w1.cell? ⟨w.heap.size, 17, none⟩ = some (.string p.path) := b1.cell 17
        have cp18 : w1.cell? ⟨w.heap.size, 18, none⟩ = some (.string p.other) := b1.cell 18
        have cp19 : w1.cell? ⟨w.heap.size, 19, none⟩ = some (.string p.data) := b1.cell 19
        have cq17 : w1.cell? ⟨w.heap.size + 1, 17, none⟩ = some (.string q.path) := d1.cell 17
        have cq18 : w1.cell? ⟨w.heap.size + 1, 18, none⟩ = some (.string q.other) := d1.cell 18
        have cq19 : w1.cell? ⟨w.heap.size + 1, 19, none⟩ = some (.string q.data) := d1.cell 19
        clear k1
        go_wp2_with (first
            | (refine wpList_load_pk p rfl (.tmp 2) rfl w.heap.size rfl b1 ?_))
        refine (C1.out _).mono ?_; rintro e w2 ⟨rfl, k2⟩
        have b2 := b1.kept k2 (by simp)
        have d2 := d1.kept k2 (by simp)
        have j2 := j1.trans k2
        clear b1 d1 k2 cp17 cp18 cp19 cq17 cq18 cq19
        go_wp2_with (first
            | (refine wpList_load_pk q rfl (.tmp 3) rfl (w.heap.size + 1) rfl d2 ?_))
        refine (C2.out _).mono ?_; rintro e w3 ⟨rfl, k3⟩
        have b3 := b2.kept k3 (by simp)
        have d3 := d2.kept k3 (by simp)
        have j3 := j2.trans k3
        clear b2 d2 k3
        go_wp2_with fail
        refine (alive_any _).mono ?_; rintro e w4 ⟨rfl, k4⟩
        have b4 := b3.kept k4 (by simp)
        have d4 := d3.kept k4 (by simp)
        have j4 := j3.trans k4
        clear b3 d3 k4
        go_wp2_with (first
            | (refine wpList_load_pk p rfl (.tmp 2) rfl w.heap.size rfl b4 ?_)
            | (refine wpList_load_pk q rfl (.tmp 3) rfl (w.heap.size + 1) rfl d4 ?_)
            | (refine wpList_eql_pk p q rfl (.tmp 74) (.tmp 75) _ rfl rfl rfl false (decide_eq_false hpq) ?_))
        go_ret
        exact ⟨rfl, j4⟩
    · have C1 := fun w => write_yes w p ho hr
      have C2 := Lib.hid (fun w => write_no w q hs)
      generalize strOf (bytesP p) = S at C1
      replace C1 := Lib.hid C1
      clear hr hs ho hq
      go_enter Try.func6, Try.ntmps6
      go_wp2_with fail
      refine (alive_any _).mono ?_; rintro e w1 ⟨rfl, k1⟩
      have b1 := ((Blk.new w 27 (pkA p)).alloc (.cells (pkA q) 27)).kept k1 (by simp)
      have d1 := (Blk.new (w.alloc (.cells (pkA p) 27)) 27 (pkA q)).kept k1 (by simp)
      rw [show (w.alloc (.cells (pkA p) 27)).heap.size = w.heap.size + 1 by simp] at d1
      have j1 := k1.boxed.boxed
      have cp17 : w1.cell? ⟨w.heap.size, 17, none⟩ = some (.string p.path) := b1.cell 17
      have cp18 : w1.cell? ⟨w.heap.size, 18, none⟩ = some (.string p.other) := b1.cell 18
      have cp19 : w1.cell? ⟨w.heap.size, 19, none⟩ = some (.string p.data) := b1.cell 19
      have cq17 : w1.cell? ⟨w.heap.size + 1, 17, none⟩ = some (.string q.path) := d1.cell 17
      have cq18 : w1.cell? ⟨w.heap.size + 1, 18, none⟩ = some (.string q.other) := d1.cell 18
      have cq19 : w1.cell? ⟨w.heap.size + 1, 19, none⟩ = some (.string q.data) := d1.cell 19
      clear k1
      go_wp2_with (first
          | (refine wpList_load_pk p rfl (.tmp 2) rfl w.heap.size rfl b1 ?_))
      refine (C1.out _).mono ?_; rintro e w2 ⟨rfl, k2⟩
      have b2 := b1.kept k2 (by simp)
      have d2 := d1.kept k2 (by simp)
      have j2 := j1.trans k2
      clear b1 d1 k2 cp17 cp18 cp19 cq17 cq18 cq19
      go_wp2_with (first
          | (refine wpList_load_pk q rfl (.tmp 3) rfl (w.heap.size + 1) rfl d2 ?_))
      refine (C2.out _).mono ?_; rintro e w3 ⟨rfl, k3⟩
      have b3 := b2.kept k3 (by simp)
      have d3 := d2.kept k3 (by simp)
      have j3 := j2.trans k3
      clear b2 d2 k3
      go_wp2_with fail
      refine (alive_any _).mono ?_; rintro e w4 ⟨rfl, k4⟩
      have b4 := b3.kept k4 (by simp)
      have d4 := d3.kept k4 (by simp)
      have j4 := j3.trans k4
      clear b3 d3 k4
      go_wp2
      go_ret
      exact ⟨rfl, j4⟩
  · have C1 := Lib.hid (fun w => write_no w p hr)
    have C2 := fun w => write_any w q hq
    generalize writeS q = S at C2
    generalize writeE q = E at C2
    replace C2 := Lib.hid C2
    clear hr ho hq
    go_enter Try.func6, Try.ntmps6
    go_wp2_with fail
    refine (alive_any _).mono ?_; rintro e w1 ⟨rfl, k1⟩
    have b1 := ((Blk.new w 27 (pkA p)).alloc (.cells (pkA q) 27)).kept k1 (by simp)
    have d1 := (Blk.new (w.alloc (.cells (pkA p) 27)) 27 (pkA q)).kept k1 (by simp)
    rw [show (w.alloc (.cells (pkA p) 27)).heap.size = w.heap.size + 1 by simp] at d1
    have j1 := k1.boxed.boxed
    have cp17 : w1.cell? ⟨w.heap.size, 17, none⟩ = some (.string p.path) := b1.cell 17
    have cp18 : w1.cell? ⟨w.heap.size, 18, none⟩ = some (.string p.other) := b1.cell 18
    have cp19 : w1.cell? ⟨w.heap.size, 19, none⟩ = some (.string p.data) := b1.cell 19
    have cq17 : w1.cell? ⟨w.heap.size + 1, 17, none⟩ = some (.string q.path) := d1.cell 17
    have cq18 : w1.cell? ⟨w.heap.size + 1, 18, none⟩ = some (.string q.other) := d1.cell 18
    have cq19 : w1.cell? ⟨w.heap.size + 1, 19, none⟩ = some (.string q.data) := d1.cell 19
    clear k1
    go_wp2_with (first
        | (refine wpList_load_pk p rfl (.tmp 2) rfl w.heap.size rfl b1 ?_))
    refine (C1.out _).mono ?_; rintro e w2 ⟨rfl, k2⟩
    have b2 := b1.kept k2 (by simp)
    have d2 := d1.kept k2 (by simp)
    have j2 := j1.trans k2
    clear b1 d1 k2 cp17 cp18 cp19 cq17 cq18 cq19
    go_wp2_with (first
        | (refine wpList_load_pk q rfl (.tmp 3) rfl (w.heap.size + 1) rfl d2 ?_))
    refine (C2.out _).mono ?_; rintro e w3 ⟨rfl, k3⟩
    have b3 := b2.kept k3 (by simp)
    have d3 := d2.kept k3 (by simp)
    have j3 := j2.trans k3
    clear b2 d2 k3
    go_wp2_with fail
    refine (alive_any _).mono ?_; rintro e w4 ⟨rfl, k4⟩
    have b4 := b3.kept k4 (by simp)
    have d4 := d3.kept k4 (by simp)
    have j4 := j3.trans k4
    clear b3 d3 k4
    go_wp2
    go_ret
    exact ⟨rfl, j4⟩

end Go.Proofs.Ytjnbajpckohnnaa
