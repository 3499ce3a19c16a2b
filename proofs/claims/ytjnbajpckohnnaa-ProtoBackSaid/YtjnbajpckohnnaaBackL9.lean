/- ProtoBack: what was written is read as it was, and what was read has just these bytes. -/
import Derived.Test.YtjnbajpckohnnaaAlive9
namespace Go.Proofs.Ytjnbajpckohnnaa
open Go.RowKit

set_option maxHeartbeats 1000000 in
theorem protoBack_walk (p : Pk) (s : ByteArray) (w : World) (ho : p.Ok) :
    Calls Try.prog 5 #[pkV p, .string s] w fun e w' => e = .returned (.bool true) ∧ Only [] w w' := by
  by_cases h0 : 1000 < p.path.size
  · have e0 : (1000 : Int) < (p.path.size : Int) := by omega
    have e0' : decide ((1000 : Int) < (p.path.size : Int)) = true := decide_eq_true e0
    clear h0
    go_enter Try.func5, Try.ntmps5
    go_wp2_with fail
    refine (alive_any _).mono ?_; rintro e w1 ⟨rfl, k1⟩
    have b1 := (Blk.new w 27 (pkA p)).kept k1 (by simp)
    have j1 := k1.boxed
    have c17 : w1.cell? ⟨w.heap.size, 17, none⟩ = some (.string p.path) := b1.cell 17
    have c18 : w1.cell? ⟨w.heap.size, 18, none⟩ = some (.string p.other) := b1.cell 18
    have c19 : w1.cell? ⟨w.heap.size, 19, none⟩ = some (.string p.data) := b1.cell 19
    clear b1 k1
    go_wp2_with fail
    refine (alive_any _).mono ?_; rintro e w2 ⟨rfl, k2⟩
    go_wp2
    go_ret
    exact ⟨rfl, j1.trans k2⟩
  have e0 : ¬ (1000 : Int) < (p.path.size : Int) := by omega
  have e0' : decide ((1000 : Int) < (p.path.size : Int)) = false := decide_eq_false e0
  clear h0
  by_cases h1 : 1000 < p.other.size
  · have e1 : (1000 : Int) < (p.other.size : Int) := by omega
    have e1' : decide ((1000 : Int) < (p.other.size : Int)) = true := decide_eq_true e1
    clear h1
    go_enter Try.func5, Try.ntmps5
    go_wp2_with fail
    refine (alive_any _).mono ?_; rintro e w1 ⟨rfl, k1⟩
    have b1 := (Blk.new w 27 (pkA p)).kept k1 (by simp)
    have j1 := k1.boxed
    have c17 : w1.cell? ⟨w.heap.size, 17, none⟩ = some (.string p.path) := b1.cell 17
    have c18 : w1.cell? ⟨w.heap.size, 18, none⟩ = some (.string p.other) := b1.cell 18
    have c19 : w1.cell? ⟨w.heap.size, 19, none⟩ = some (.string p.data) := b1.cell 19
    clear b1 k1
    go_wp2_with fail
    refine (alive_any _).mono ?_; rintro e w2 ⟨rfl, k2⟩
    go_wp2
    go_ret
    exact ⟨rfl, j1.trans k2⟩
  have e1 : ¬ (1000 : Int) < (p.other.size : Int) := by omega
  have e1' : decide ((1000 : Int) < (p.other.size : Int)) = false := decide_eq_false e1
  clear h1
  by_cases h2 : 1000 < p.data.size
  · have e2 : (1000 : Int) < (p.data.size : Int) := by omega
    have e2' : decide ((1000 : Int) < (p.data.size : Int)) = true := decide_eq_true e2
    clear h2
    go_enter Try.func5, Try.ntmps5
    go_wp2_with fail
    refine (alive_any _).mono ?_; rintro e w1 ⟨rfl, k1⟩
    have b1 := (Blk.new w 27 (pkA p)).kept k1 (by simp)
    have j1 := k1.boxed
    have c17 : w1.cell? ⟨w.heap.size, 17, none⟩ = some (.string p.path) := b1.cell 17
    have c18 : w1.cell? ⟨w.heap.size, 18, none⟩ = some (.string p.other) := b1.cell 18
    have c19 : w1.cell? ⟨w.heap.size, 19, none⟩ = some (.string p.data) := b1.cell 19
    clear b1 k1
    go_wp2_with fail
    refine (alive_any _).mono ?_; rintro e w2 ⟨rfl, k2⟩
    go_wp2
    go_ret
    exact ⟨rfl, j1.trans k2⟩
  have e2 : ¬ (1000 : Int) < (p.data.size : Int) := by omega
  have e2' : decide ((1000 : Int) < (p.data.size : Int)) = false := decide_eq_false e2
  clear h2
  by_cases h3 : 2000 < s.size
  · have e3 : (2000 : Int) < (s.size : Int) := by omega
    have e3' : decide ((2000 : Int) < (s.size : Int)) = true := decide_eq_true e3
    clear h3
    go_enter Try.func5, Try.ntmps5
    go_wp2_with fail
    refine (alive_any _).mono ?_; rintro e w1 ⟨rfl, k1⟩
    have b1 := (Blk.new w 27 (pkA p)).kept k1 (by simp)
    have j1 := k1.boxed
    have c17 : w1.cell? ⟨w.heap.size, 17, none⟩ = some (.string p.path) := b1.cell 17
    have c18 : w1.cell? ⟨w.heap.size, 18, none⟩ = some (.string p.other) := b1.cell 18
    have c19 : w1.cell? ⟨w.heap.size, 19, none⟩ = some (.string p.data) := b1.cell 19
    clear b1 k1
    go_wp2_with fail
    refine (alive_any _).mono ?_; rintro e w2 ⟨rfl, k2⟩
    go_wp2
    go_ret
    exact ⟨rfl, j1.trans k2⟩
  have e3 : ¬ (2000 : Int) < (s.size : Int) := by omega
  have e3' : decide ((2000 : Int) < (s.size : Int)) = false := decide_eq_false e3
  clear h3
  have C5 := fun w => read_any w s (by omega)
  have qo := readP_ok s.data.toList
  have R1 := read_one s.data.toList
  have R0 := read_no s.data.toList
  generalize readP s.data.toList = Q at C5 qo R1 R0
  generalize readE s.data.toList = E at C5 R1 R0
  replace C5 := Lib.hid C5
  by_cases hE : E = 0
  · subst hE
    obtain ⟨qr, qb⟩ := R1 rfl
    have C6 := fun w => write_yes w Q qo qr
    rw [qb, strOf_toList] at C6
    have C7 := Lib.hid (fun w => right_yes w Q qr)
    replace C6 := Lib.hid C6
    clear R0 R1 qo qr qb
    by_cases hr : p.Right
    · have C1 := fun w => write_yes w p ho hr
      have C2 := fun w => read_back_any w p ho hr
      generalize strOf (bytesP p) = B at C1 C2
      replace C1 := Lib.hid C1
      replace C2 := Lib.hid C2
      clear hr ho
      go_enter Try.func5, Try.ntmps5
      go_wp2_with fail
      refine (alive_any _).mono ?_; rintro e w1 ⟨rfl, k1⟩
      have b1 := (Blk.new w 27 (pkA p)).kept k1 (by simp)
      have j1 := k1.boxed
      have c17 : w1.cell? ⟨w.heap.size, 17, none⟩ = some (.string p.path) := b1.cell 17
      have c18 : w1.cell? ⟨w.heap.size, 18, none⟩ = some (.string p.other) := b1.cell 18
      have c19 : w1.cell? ⟨w.heap.size, 19, none⟩ = some (.string p.data) := b1.cell 19
      clear k1
      go_wp2_with (first
          | (refine wpList_load_pk p rfl (.tmp 2) rfl w.heap.size rfl b1 ?_))
      refine (C1.out _).mono ?_; rintro e w2 ⟨rfl, k2⟩
      have b2 := b1.kept k2 (by simp)
      have j2 := j1.trans k2
      clear b1 c17 c18 c19 k2
      go_wp2_with fail
      refine (C2.out _).mono ?_; rintro e w3 ⟨rfl, k3⟩
      have b3 := b2.kept k3 (by simp)
      have j3 := j2.trans k3
      clear b2 k3
      go_wp2_with (first
          | (refine wpList_store_pk p zPk rfl (.tmp 7) (.tmp 50) rfl w3.heap.size rfl rfl (Blk.new w3 _ _) ?_; intro w4 h4 k4; have i4 := laid_new k4; have b4 := b3.kept i4 (by simp); have j4 := j3.trans i4)
          | (refine wpList_load_pk p rfl (.tmp 7) rfl w3.heap.size rfl h4 ?_)
          | (refine wpList_load_pk p rfl (.tmp 2) rfl w.heap.size rfl b4 ?_)
          | (refine wpList_neq_pk p p rfl (.tmp 52) (.tmp 53) _ rfl rfl rfl false (by simp) ?_))
      skip
      refine (C5.out _).mono ?_; rintro e w5 ⟨rfl, k5⟩
      have j5 := j4.trans k5
      clear j4 k5 h4 b3 b4 k4 i4
      go_wp2_with (first
          | (refine wpList_store_pk Q zPk rfl (.tmp 9) (.tmp 62) rfl w5.heap.size rfl rfl (Blk.new w5 _ _) ?_; intro w6 h6 k6; have i6 := laid_new k6; have j6 := j5.trans i6)
          | (refine wpList_load_pk Q rfl (.tmp 9) rfl w5.heap.size rfl h6 ?_))
      skip
      refine (C6.out _).mono ?_; rintro e w7 ⟨rfl, k7⟩
      have h7 := h6.kept k7 (by simp)
      have j7 := j6.trans k7
      clear h6 k6 i6 j6 k7
      go_wp2_with fail
      refine (alive_any _).mono ?_; rintro e w8 ⟨rfl, k8⟩
      have h8 := h7.kept k8 (by simp)
      have j8 := j7.trans k8
      clear h7 k8
      go_wp2_with (first
          | (refine wpList_load_pk Q rfl (.tmp 9) rfl w5.heap.size rfl h8 ?_))
      refine (C7.out _).mono ?_; rintro e w9 ⟨rfl, k9⟩
      go_wp2
      go_ret
      exact ⟨rfl, j8.trans k9⟩
    · have C1 := Lib.hid (fun w => write_no w p hr)
      clear hr ho
      go_enter Try.func5, Try.ntmps5
      go_wp2_with fail
      refine (alive_any _).mono ?_; rintro e w1 ⟨rfl, k1⟩
      have b1 := (Blk.new w 27 (pkA p)).kept k1 (by simp)
      have j1 := k1.boxed
      have c17 : w1.cell? ⟨w.heap.size, 17, none⟩ = some (.string p.path) := b1.cell 17
      have c18 : w1.cell? ⟨w.heap.size, 18, none⟩ = some (.string p.other) := b1.cell 18
      have c19 : w1.cell? ⟨w.heap.size, 19, none⟩ = some (.string p.data) := b1.cell 19
      clear k1
      go_wp2_with (first
          | (refine wpList_load_pk p rfl (.tmp 2) rfl w.heap.size rfl b1 ?_))
      refine (C1.out _).mono ?_; rintro e w2 ⟨rfl, k2⟩
      have b2 := b1.kept k2 (by simp)
      have j2 := j1.trans k2
      clear b1 c17 c18 c19 k2
      go_wp2_with fail
      refine (C5.out _).mono ?_; rintro e w5 ⟨rfl, k5⟩
      have j5 := j2.trans k5
      clear b2 k5
      go_wp2_with (first
          | (refine wpList_store_pk Q zPk rfl (.tmp 9) (.tmp 62) rfl w5.heap.size rfl rfl (Blk.new w5 _ _) ?_; intro w6 h6 k6; have i6 := laid_new k6; have j6 := j5.trans i6)
          | (refine wpList_load_pk Q rfl (.tmp 9) rfl w5.heap.size rfl h6 ?_))
      skip
      refine (C6.out _).mono ?_; rintro e w7 ⟨rfl, k7⟩
      have h7 := h6.kept k7 (by simp)
      have j7 := j6.trans k7
      clear h6 k6 i6 j6 k7
      go_wp2_with fail
      refine (alive_any _).mono ?_; rintro e w8 ⟨rfl, k8⟩
      have h8 := h7.kept k8 (by simp)
      have j8 := j7.trans k8
      clear h7 k8
      go_wp2_with (first
          | (refine wpList_load_pk Q rfl (.tmp 9) rfl w5.heap.size rfl h8 ?_))
      refine (C7.out _).mono ?_; rintro e w9 ⟨rfl, k9⟩
      go_wp2
      go_ret
      exact ⟨rfl, j8.trans k9⟩
  · obtain rfl := R0 hE
    have hE' : ((E : Int) != 0) = true := by simp; omega
    clear R0 R1 qo hE
    by_cases hr : p.Right
    · have C1 := fun w => write_yes w p ho hr
      have C2 := fun w => read_back_any w p ho hr
      generalize strOf (bytesP p) = B at C1 C2
      replace C1 := Lib.hid C1
      replace C2 := Lib.hid C2
      clear hr ho
      go_enter Try.func5, Try.ntmps5
      go_wp2_with fail
      refine (alive_any _).mono ?_; rintro e w1 ⟨rfl, k1⟩
      have b1 := (Blk.new w 27 (pkA p)).kept k1 (by simp)
      have j1 := k1.boxed
      have c17 : w1.cell? ⟨w.heap.size, 17, none⟩ = some (.string p.path) := b1.cell 17
      have c18 : w1.cell? ⟨w.heap.size, 18, none⟩ = some (.string p.other) := b1.cell 18
      have c19 : w1.cell? ⟨w.heap.size, 19, none⟩ = some (.string p.data) := b1.cell 19
      clear k1
      go_wp2_with (first
          | (refine wpList_load_pk p rfl (.tmp 2) rfl w.heap.size rfl b1 ?_))
      refine (C1.out _).mono ?_; rintro e w2 ⟨rfl, k2⟩
      have b2 := b1.kept k2 (by simp)
      have j2 := j1.trans k2
      clear b1 c17 c18 c19 k2
      go_wp2_with fail
      refine (C2.out _).mono ?_; rintro e w3 ⟨rfl, k3⟩
      have b3 := b2.kept k3 (by simp)
      have j3 := j2.trans k3
      clear b2 k3
      go_wp2_with (first
          | (refine wpList_store_pk p zPk rfl (.tmp 7) (.tmp 50) rfl w3.heap.size rfl rfl (Blk.new w3 _ _) ?_; intro w4 h4 k4; have i4 := laid_new k4; have b4 := b3.kept i4 (by simp); have j4 := j3.trans i4)
          | (refine wpList_load_pk p rfl (.tmp 7) rfl w3.heap.size rfl h4 ?_)
          | (refine wpList_load_pk p rfl (.tmp 2) rfl w.heap.size rfl b4 ?_)
          | (refine wpList_neq_pk p p rfl (.tmp 52) (.tmp 53) _ rfl rfl rfl false (by simp) ?_))
      skip
      refine (C5.out _).mono ?_; rintro e w5 ⟨rfl, k5⟩
      have j5 := j4.trans k5
      clear j4 k5 h4 b3 b4 k4 i4
      go_wp2_with (first
          | (refine wpList_store_pk zPk zPk rfl (.tmp 9) (.tmp 62) rfl w5.heap.size rfl rfl (Blk.new w5 _ _) ?_; intro w6 h6 k6; have i6 := laid_new k6; have j6 := j5.trans i6)
          | (refine wpList_load_pk zPk rfl (.tmp 9) rfl w5.heap.size rfl h6 ?_))
      skip
      refine (alive_any _).mono ?_; rintro e w8 ⟨rfl, k8⟩
      have h8 := h6.kept k8 (by simp)
      have j8 := j6.trans k8
      clear h6 k8
      go_wp2_with (first
          | (refine wpList_load_pk zPk rfl (.tmp 9) rfl w5.heap.size rfl h8 ?_)
          | (refine wpList_eql_pk zPk zPk rfl (.tmp 68) (.tmp 69) _ rfl rfl rfl true (decide_eq_true rfl) ?_))
      go_ret
      exact ⟨rfl, j8⟩
    · have C1 := Lib.hid (fun w => write_no w p hr)
      clear hr ho
      go_enter Try.func5, Try.ntmps5
      go_wp2_with fail
      refine (alive_any _).mono ?_; rintro e w1 ⟨rfl, k1⟩
      have b1 := (Blk.new w 27 (pkA p)).kept k1 (by simp)
      have j1 := k1.boxed
      have c17 : w1.cell? ⟨w.heap.size, 17, none⟩ = some (.string p.path) := b1.cell 17
      have c18 : w1.cell? ⟨w.heap.size, 18, none⟩ = some (.string p.other) := b1.cell 18
      have c19 : w1.cell? ⟨w.heap.size, 19, none⟩ = some (.string p.data) := b1.cell 19
      clear k1
      go_wp2_with (first
          | (refine wpList_load_pk p rfl (.tmp 2) rfl w.heap.size rfl b1 ?_))
      refine (C1.out _).mono ?_; rintro e w2 ⟨rfl, k2⟩
      have b2 := b1.kept k2 (by simp)
      have j2 := j1.trans k2
      clear b1 c17 c18 c19 k2
      go_wp2_with fail
      refine (C5.out _).mono ?_; rintro e w5 ⟨rfl, k5⟩
      have j5 := j2.trans k5
      clear b2 k5
      go_wp2_with (first
          | (refine wpList_store_pk zPk zPk rfl (.tmp 9) (.tmp 62) rfl w5.heap.size rfl rfl (Blk.new w5 _ _) ?_; intro w6 h6 k6; have i6 := laid_new k6; have j6 := j5.trans i6)
          | (refine wpList_load_pk zPk rfl (.tmp 9) rfl w5.heap.size rfl h6 ?_))
      skip
      refine (alive_any _).mono ?_; rintro e w8 ⟨rfl, k8⟩
      have h8 := h6.kept k8 (by simp)
      have j8 := j6.trans k8
      clear h6 k8
      go_wp2_with (first
          | (refine wpList_load_pk zPk rfl (.tmp 9) rfl w5.heap.size rfl h8 ?_)
          | (refine wpList_eql_pk zPk zPk rfl (.tmp 68) (.tmp 69) _ rfl rfl rfl true (decide_eq_true rfl) ?_))
      go_ret
      exact ⟨rfl, j8⟩

end Go.Proofs.Ytjnbajpckohnnaa
