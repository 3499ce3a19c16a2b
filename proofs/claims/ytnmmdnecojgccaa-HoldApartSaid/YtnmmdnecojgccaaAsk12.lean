/- Ask: the program's. -/
import Derived.Test.YtnmmdnecojgccaaOth12
import Derived.Test.YtnmmdnecojgccaaMd12
import Derived.Test.YtnmmdnecojgccaaJn12
namespace Go.Proofs.Ytnmmdnecojgccaa
open Go.RowKit
set_option linter.unusedVariables false

/-- What is answered: a lock of the call's own and two numbers. -/
def AskAns (w w' : World) (e : Ending) (R : Lk × Int × Int) : Prop := ∃ v, e = .returned (.tuple #[lkV R.1 v, .int .i64 R.2.1, .int .i64 R.2.2]) ∧ Hs [] w w' v R.1.hs
theorem Hs.since2 {w1 w2 : World} {v v' : Value} {l : List Hol} {n : Nat} (h : Hs v.ownBlock.toList w1 w2 v' l) (hv : ∀ g, v.ownBlock = some g → n ≤ g) (hn : n ≤ w1.heap.size) : ∀ g, v'.ownBlock = some g → n ≤ g := fun g hg => by
  rcases h.new g hg with a | a
  · exact hv g (by simpa using a)
  · omega
theorem not_own {v : Value} {n q : Nat} (hv : ∀ g, v.ownBlock = some g → n ≤ g) (hq : q < n) : q ∉ v.ownBlock.toList := fun h => by have := hv q (by simpa using h); omega


set_option maxRecDepth 100000 in
set_option maxHeartbeats 4000000 in
theorem ask_any (w : World) (L : Lk) (A : Option Addr) (c : Nat) (cl m : Int) (hb : Els holE 2 w A L.hs) (hl : L.hs.length ≤ 9223372036854775807) (he : 0 ≤ L.epoch ∧ L.epoch ≤ 4294967295) :
    Calls Try.prog 17 #[lkV L (.slice A L.hs.length c), .int .u32 cl, .int .u32 m] w fun e w' => AskAns w w' e (askL L cl m) := by
  have hR := fun W (k : Only [] w W) => right_any W L A c (hb.kept k (by simp)) hl
  have hO := fun W (k : Only [] w W) (h : RightP L) => own_any W L A c (hb.kept k (by simp)) (by have := h.len; omega)
  obtain ⟨R, hRR⟩ : ∃ R, R = (askL L cl m) := ⟨_, rfl⟩
  rw [← hRR]
  have hM := fun W => mode_any W m
  have hT := fun W B d (h : Els holE 2 W B L.hs) => others_any W L B d cl m h hl
  have hD := fun W B d (h : Els holE 2 W B L.hs) => mode_of W L B d cl h hl
  have hW := fun W v (h : W.ownsRow 0 47 2 v L.hs.length (encs holE L.hs)) (r : RightP L) => without_any W L v cl h r.rise (by have := r.len; omega)
  have hJ := fun W v (r : RightP L) (h : W.ownsRow 0 47 2 v (withL L (withoutH L.hs cl)).hs.length (encs holE (withL L (withoutH L.hs cl)).hs)) => join_any W (withL L (withoutH L.hs cl)) v cl m h (r.sub (without_sub _ _)).rise (by have := (r.sub (without_sub L.hs cl)).len; omega) he
  have r1 := ask_arg (l := L) (c := cl) (m := m)
  have r4 := ask_gone (l := L) (c := cl) (m := m)
  have r2 := ask_conf (l := L) (c := cl) (m := m)
  have rg := ask_has (l := L) (c := cl) (m := m)
  have rj := ask_join (l := L) (c := cl) (m := m)
  rw [← hRR] at r1 r4 r2 rg rj
  have ho : RightP L → othL L cl m = othersL L.hs cl m := fun h => if_pos h
  have hd : RightP L → modeL L cl = modeH L.hs cl := fun h => if_pos h
  have hole : (othersL L.hs cl m).length ≤ L.hs.length := others_le _ _ _
  have hlen : RightP L → L.hs.length ≤ 4 := fun h => h.len
  clear hRR
  obtain ⟨f, ep, u, ct, fe, go, l⟩ := L
  have T := two_new w f ep u ct fe go l (.slice A l.length c)
  generalize hwb : ((w.alloc (.cells #[.int .u32 f, .int .u32 ep, .int .u32 u, .int .u32 ct, .bool fe, .bool go, .slice A l.length c] 25)).alloc (.cells #[.int .u32 0, .int .u32 0, .int .u32 0, .int .u32 0, .bool false, .bool false, .slice none 0 0] 25)) = wb at T
  replace hwb := Lib.hid hwb
  obtain ⟨k2, b2, z2, hsz⟩ := T
  simp only at hb hl he
  simp only [lkV] at hR hO hT hD ⊢
  simp only at r1 r4 r2 rg rj ho hd hole hT hD hW hJ hlen
  replace hT := Lib.hid hT
  replace hD := Lib.hid hD
  replace hW := Lib.hid hW
  replace hJ := Lib.hid hJ
  replace hM := Lib.hid hM
  replace r1 := Lib.hid r1
  replace r4 := Lib.hid r4
  replace r2 := Lib.hid r2
  replace rg := Lib.hid rg
  replace rj := Lib.hid rj
  replace hR := Lib.hid hR
  replace hO := Lib.hid hO
  replace hsz := Lib.hid hsz

  generalize hth : othL ⟨f, ep, u, ct, fe, go, l⟩ cl m = OT at *
  generalize hmo : modeL ⟨f, ep, u, ct, fe, go, l⟩ cl = MO at *
  by_cases hr : RightP ⟨f, ep, u, ct, fe, go, l⟩
  rotate_left
  · obtain rfl := r1.out (fun h => hr h.1)
    rw [decide_eq_false hr] at hR
    replace hr := Lib.hid hr
    clear ho hd hole hT hD hW hJ r4 r2 rg rj hth hmo
    go_enter Try.func17, Try.ntmps17
    go_wp2_with fail
    rw [hwb.out]
    refine (hR.out _ k2).mono ?_; rintro e w3 ⟨rfl, k3⟩
    have z3 := z2.kept k3 (by simp)
    go_wp2_with (refine wpList_store_lk noL noL (.slice none 0 0) _ rfl rfl _ _ rfl (w.heap.size + 1) rfl rfl z3 ?_; intro w5 b5 k5)
    refine bodyPost_ret (v := .tuple #[lkV noL (.slice none 0 0), .int .i64 0, .int .i64 1]) (results_lk2 rfl _ _ (w.heap.size + 1) rfl _ _ b5 _ _ rfl rfl) rfl ?_
    exact ⟨_, rfl, Hs.start ((k2.trans k3).far k5 (by omega))⟩

  rw [decide_eq_true hr] at hR
  have ho' := ho hr
  have hd' := hd hr
  have hln := hlen hr
  subst ho'
  subst hd'
  clear ho hd hlen
  replace hr := Lib.hid hr
  replace hth := Lib.hid hth
  replace hmo := Lib.hid hmo
  by_cases hmm : m = 1 ∨ m = 2
  rotate_left
  · obtain rfl := r1.out (fun h => hmm h.2)
    have hM0 := hM.out
    rw [decide_eq_false hmm] at hM0
    replace hM0 := Lib.hid hM0
    replace hmm := Lib.hid hmm
    clear hole hT hD hW hJ r4 r2 rg rj
    go_enter Try.func17, Try.ntmps17
    go_wp2_with fail
    rw [hwb.out]
    refine (hR.out _ k2).mono ?_; rintro e w3 ⟨rfl, k3⟩
    have z3 := z2.kept k3 (by simp)
    obtain ⟨c0, c1, c2, c3, c4, c5, c6⟩ := b2.at k3 (by simp)
    go_wp2_with fail
    refine (hM0.out _).mono ?_; rintro e w4 ⟨rfl, rfl⟩
    go_wp2_with (refine wpList_store_lk noL noL (.slice none 0 0) _ rfl rfl _ _ rfl (w.heap.size + 1) rfl rfl z3 ?_; intro w5 b5 k5)
    refine bodyPost_ret (v := .tuple #[lkV noL (.slice none 0 0), .int .i64 0, .int .i64 1]) (results_lk2 rfl _ _ (w.heap.size + 1) rfl _ _ b5 _ _ rfl rfl) rfl ?_
    exact ⟨_, rfl, Hs.start ((k2.trans k3).far k5 (by omega))⟩

  have hM0 := hM.out
  rw [decide_eq_true hmm] at hM0
  replace hM0 := Lib.hid hM0
  have hrm := Lib.hid (And.intro hr.out hmm)
  replace hmm := Lib.hid hmm
  clear hM
  go_enter Try.func17, Try.ntmps17
  go_wp2_with fail
  rw [hwb.out]
  refine (hR.out _ k2).mono ?_; rintro e w3 ⟨rfl, k3⟩
  obtain ⟨c0, c1, c2, c3, c4, c5, c6⟩ := b2.at k3 (by simp)
  go_wp2_with fail
  refine (hM0.out _).mono ?_; rintro e w3b ⟨rfl, rfl⟩
  go_wp2_with fail
  refine (hO.out _ (k2.trans k3) hr.out).mono ?_; rintro e w4 ⟨v4, rfl, hm4⟩
  have b4 := (b2.kept k3 (by simp)).kept hm4.only (by simp)
  have z4 := (z2.kept k3 (by simp)).kept hm4.only (by simp)
  obtain ⟨A4, d4, rfl, _⟩ := hm4.shape
  have hN4 : ∀ g, (Value.slice A4 l.length d4).ownBlock = some g → wb.heap.size ≤ g := fun g hg => by
    rcases hm4.new g hg with a | a
    · cases a
    · exact Nat.le_trans k3.size a
  have hs4 := Nat.le_trans k3.size hm4.only.size
  replace hs4 := Lib.hid hs4
  replace hm4 := Hs.from (k2.trans k3) hm4
  have ne0 : (Value.slice A4 l.length d4).ownBlock ≠ some w.heap.size := fun h => by have := hN4 _ h; have := hsz.out; omega
  have ne1 : (Value.slice A4 l.length d4).ownBlock ≠ some (w.heap.size + 1) := fun h => by have := hN4 _ h; have := hsz.out; omega
  replace hN4 := Lib.hid hN4
  replace ne0 := Lib.hid ne0
  replace ne1 := Lib.hid ne1
  clear b2 z2 c0 c1 c2 c3 c4 c5 c6
  cases hgo : go with
  | true =>
    obtain rfl := r4.out hrm.out hgo
    subst hgo
    clear hole hT hD hW hJ r1 r2 rg rj
    go_wp2_with (first
      | (refine wpList_store_lk ⟨f, ep, u, ct, fe, true, l⟩ ⟨f, ep, u, ct, fe, true, l⟩ (.slice A4 l.length d4) _ rfl rfl _ _ rfl w.heap.size rfl rfl b4 ?_; intro w5 b5 k5; have z5 := Blk.kept z4 k5 (by simp); have hm5 := Lib.hid (hm4.far k5 (Nat.le_refl _) ne0.out); have hs5 := Lib.hid (Nat.le_trans hs4.out k5.size); clear b4 z4 k5 hm4 hs4; obtain ⟨c0, c1, c2, c3, c4, c5, c6⟩ := Lx.at b5 (Only.refl [] _) (by simp))
      | (refine wpList_store_lk ⟨f, ep, u, ct, fe, true, l⟩ noL (.slice A4 l.length d4) _ rfl rfl _ _ rfl (w.heap.size + 1) rfl rfl z5 ?_; intro w7 b7 k7))
    refine bodyPost_ret (v := .tuple #[lkV ⟨f, ep, u, ct, fe, true, l⟩ (.slice A4 l.length d4), .int .i64 4, .int .i64 0]) (results_lk2 rfl _ _ (w.heap.size + 1) rfl _ _ b7 _ _ rfl rfl) rfl ?_
    exact ⟨_, rfl, hm5.out.far k7 (by omega) ne1.out⟩

  | false =>
    subst hgo
    clear r4 r1
    go_wp2_with (refine wpList_store_lk ⟨f, ep, u, ct, fe, false, l⟩ ⟨f, ep, u, ct, fe, false, l⟩ (.slice A4 l.length d4) _ rfl rfl _ _ rfl w.heap.size rfl rfl b4 ?_; intro w5 b5 k5; have z5 := Blk.kept z4 k5 (by simp); have hm5 := Lib.hid (hm4.far k5 (Nat.le_refl _) ne0.out); have hs5 := Lib.hid (Nat.le_trans hs4.out k5.size); clear b4 z4 k5 hm4 hs4; obtain ⟨c0, c1, c2, c3, c4, c5, c6⟩ := Lx.at b5 (Only.refl [] _) (by simp))
    obtain ⟨B5, e5, hBe, hel5, _⟩ := hm5.out.shape
    obtain ⟨hB1, _, hB3⟩ : A4 = B5 ∧ True ∧ d4 = e5 := by injection hBe with a b c; exact ⟨a, trivial, c⟩
    subst hB1
    subst hB3
    replace hBe := Lib.hid hBe
    refine (hT.out _ _ _ hel5).mono ?_; rintro e w6 ⟨v6, rfl, hn6⟩
    have k6 := hn6.only
    obtain ⟨A6, d6, rfl, _⟩ := hn6.shape nuE_length
    have b6 := Lx.kept b5 k6 (by simp)
    have z6 := Blk.kept z5 k6 (by simp)
    have hm6 := Lib.hid (hm5.out.kept k6)
    have hs6 := Lib.hid (Nat.le_trans hs5.out k6.size)
    have hel6 := hel5.kept k6 (by simp)
    clear c0 c1 c2 c3 c4 c5 c6 b5 z5 hn6 hel5 hm5
    obtain ⟨c0, c1, c2, c3, c4, c5, c6⟩ := Lx.at b6 (Only.refl [] _) (by simp)
    obtain ⟨OT, hOT⟩ : ∃ OT, OT = othersL l cl m := ⟨_, rfl⟩
    rw [← hOT] at hole
    have hOT' := hOT
    replace hOT := Lib.hid hOT
    rw [← hOT']
    clear hOT'
    by_cases ho0 : OT = []
    rotate_left
    · obtain rfl := r2.out hrm.out (by first | rfl | trivial) (by rw [← hOT.out]; exact ho0)
      have hpos : (0 : Int) < (OT.length : Int) := by have := List.length_pos_iff.2 ho0; omega
      have hposn : 0 < OT.length := List.length_pos_iff.2 ho0
      have dpos : decide ((0 : Int) < (OT.length : Int)) = true := decide_eq_true hpos
      replace ho0 := Lib.hid ho0
      clear hT hD hW hJ rg rj
      go_wp2_with (refine wpList_store_lk ⟨f, ep, u, ct, fe, false, l⟩ noL (.slice A4 l.length d4) _ rfl rfl _ _ rfl (w.heap.size + 1) rfl rfl z6 ?_; intro w7 b7 k7)
      refine bodyPost_ret (v := .tuple #[lkV ⟨f, ep, u, ct, fe, false, l⟩ (.slice A4 l.length d4), .int .i64 2, .int .i64 0]) (results_lk2 rfl _ _ (w.heap.size + 1) rfl _ _ b7 _ _ rfl rfl) rfl ?_
      exact ⟨_, rfl, hm6.out.far k7 (by omega) ne1.out⟩
    have hoe : othersL l cl m = [] := by rw [← hOT.out]; exact ho0
    replace hoe := Lib.hid hoe
    subst ho0
    simp only [List.length_nil]
    clear hT r2 hole
    go_wp2_with fail
    refine (hD.out _ _ _ hel6).mono ?_; rintro e w8 ⟨rfl, k8⟩
    have b8 := Lx.kept b6 k8 (by simp)
    have z8 := Blk.kept z6 k8 (by simp)
    have hm8 := Lib.hid (hm6.out.kept k8)
    have hs8 := Lib.hid (Nat.le_trans hs6.out k8.size)
    clear c0 c1 c2 c3 c4 c5 c6 b6 z6 hm6 hel6
    obtain ⟨c0, c1, c2, c3, c4, c5, c6⟩ := Lx.at b8 (Only.refl [] _) (by simp)
    obtain ⟨MO, hMO⟩ : ∃ MO, MO = modeH l cl := ⟨_, rfl⟩
    rw [← hMO]
    have rg' := rg.out hrm.out (by first | rfl | trivial) hoe.out
    have rj' := rj.out hrm.out (by first | rfl | trivial) hoe.out
    rw [← hMO] at rg' rj'
    replace hMO := Lib.hid hMO
    clear rg rj
    by_cases hmm2 : m ≤ MO
    · obtain rfl := rg' hmm2
      have dm : decide (m ≤ MO) = true := decide_eq_true hmm2
      clear rj' rg'
      go_wp2_with (refine wpList_store_lk ⟨f, ep, u, ct, fe, false, l⟩ noL (.slice A4 l.length d4) _ rfl rfl _ _ rfl (w.heap.size + 1) rfl rfl z8 ?_; intro w7 b7 k7)
      refine bodyPost_ret (v := .tuple #[lkV ⟨f, ep, u, ct, fe, false, l⟩ (.slice A4 l.length d4), .int .i64 1, .int .i64 0]) (results_lk2 rfl _ _ (w.heap.size + 1) rfl _ _ b7 _ _ rfl rfl) rfl ?_
      exact ⟨_, rfl, hm8.out.far k7 (by omega) ne1.out⟩
    have hRj := rj' (by omega)
    have dm : decide (m ≤ MO) = false := decide_eq_false hmm2
    replace hRj := Lib.hid hRj
    replace hmm2 := Lib.hid hmm2
    clear rj' rg'
    go_wp2_with fail
    refine (hW.out _ _ hm8.out.own hr.out).mono ?_; rintro e w9 ⟨v9, rfl, hm9⟩
    have q0 : w.heap.size < wb.heap.size := by have := hsz.out; omega
    have q1 : w.heap.size + 1 < wb.heap.size := by have := hsz.out; omega
    have hN9 := hm9.since2 hN4.out hs8.out
    have b9 := Lx.kept b8 hm9.only (not_own hN4.out q0)
    have z9 := Blk.kept z8 hm9.only (not_own hN4.out q1)
    have hm9w := hm9.since hm8.out.only (fun g hg => by have := hN4.out g hg; omega)
    have hs9 : wb.heap.size ≤ w9.heap.size := Nat.le_trans hs8.out hm9.only.size
    have ho9 := Lib.hid hm9.own
    replace hN9 := Lib.hid hN9
    replace hs9 := Lib.hid hs9
    replace hm9w := Lib.hid hm9w
    replace q0 := Lib.hid q0
    replace q1 := Lib.hid q1
    clear hm9 c0 c1 c2 c3 c4 c5 c6 b8 z8
    go_wp2_with fail
    refine (hJ.out _ _ hr.out ho9.out).mono ?_; rintro e w10 ⟨v10, rfl, hm10⟩
    have hN10 := hm10.since2 hN9.out hs9.out
    have b10 := Lx.kept b9 hm10.only (not_own hN9.out q0.out)
    have z10 := Blk.kept z9 hm10.only (not_own hN9.out q1.out)
    have hm10w := hm10.since hm9w.out.only (fun g hg => by have := hN9.out g hg; have := q0.out; omega)
    clear hm10 b9 z9
    generalize joinL (withL ⟨f, ep, u, ct, fe, false, l⟩ (withoutH l cl)) cl m = J at *
    obtain ⟨⟨jf, je, ju, jc, jfe, jgo, jl⟩, J2⟩ := J
    obtain rfl := hRj.out
    simp only at hm10w
    obtain ⟨B, e10, rfl, _⟩ := hm10w.shape
    have ne10 : (Value.slice B jl.length e10).ownBlock ≠ some w.heap.size := fun h => by have := hN10 _ h; have := q0.out; omega
    have ne11 : (Value.slice B jl.length e10).ownBlock ≠ some (w.heap.size + 1) := fun h => by have := hN10 _ h; have := q1.out; omega
    replace ne11 := Lib.hid ne11
    replace ne10 := Lib.hid ne10
    replace hm10w := Lib.hid hm10w
    replace hN10 := Lib.hid hN10
    clear hJ hW hD ho9 hm9w
    go_wp2_with (first
      | (refine wpList_store_lk ⟨jf, je, ju, jc, jfe, jgo, jl⟩ ⟨f, ep, u, ct, fe, false, l⟩ (.slice B jl.length e10) _ rfl rfl _ _ rfl w.heap.size rfl rfl b10 ?_; intro w11 b11 k11; have z11 := Blk.kept z10 k11 (by simp); have hm11 := Lib.hid (hm10w.out.far k11 (Nat.le_refl _) ne10.out); clear b10 z10 k11; obtain ⟨c0, c1, c2, c3, c4, c5, c6⟩ := Lx.at b11 (Only.refl [] _) (by simp))
      | (refine wpList_store_lk ⟨jf, je, ju, jc, jfe, jgo, jl⟩ noL (.slice B jl.length e10) _ rfl rfl _ _ rfl (w.heap.size + 1) rfl rfl z11 ?_; intro w7 b7 k7))
    refine bodyPost_ret (v := .tuple #[lkV ⟨jf, je, ju, jc, jfe, jgo, jl⟩ (.slice B jl.length e10), .int .i64 J2, .int .i64 0]) (results_lk2 rfl _ _ (w.heap.size + 1) rfl _ _ b7 _ _ rfl rfl) rfl ?_
    exact ⟨_, rfl, hm11.out.far k7 (by omega) ne11.out⟩
end Go.Proofs.Ytnmmdnecojgccaa
