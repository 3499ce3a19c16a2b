/- PagesBack: the walk. -/
import Derived.Test.YtchlcmgdfbabdaaGreatDoorLoad7
import Derived.Test.YtchlcmgdfbabdaaGreatDoorYes7
namespace Go.Proofs.YtchlcmgdfbabdaaGreatDoor.Pgs
open Go.RowKit Go.Maps

theorem ch_shape {w w1 : World} {v : Value} {l : List Ch} (h : Mine chE 3 66 w w1 v l) : ∃ A c, v = .slice A l.length c ∧ Els chE 3 w1 A l ∧ l.length ≤ c ∧ (∀ a, A = some a → w.heap.size ≤ a.block ∧ a.block < w1.heap.size) := by
  have hlow := mine_low h
  obtain ⟨A, c, e, h1, h2, h3, h4⟩ := h.shape chE_length
  refine ⟨A, c, e, h1, h2, fun a ha => ⟨h3 a ha, ?_⟩⟩
  subst e
  rcases h4 with h4 | ⟨g, c', h4⟩
  · injection h4 with h4 _ _
    rw [ha] at h4
    cases h4
  · injection h4 with h4 _ _
    rw [ha] at h4
    injection h4 with h4
    subst h4
    subst ha
    exact hlow g rfl

set_option maxRecDepth 100000 in
set_option maxHeartbeats 2000000 in
theorem pagesBack_walk (w : World) (x y : Nat) (hx : x < 4294967296) (hy : y < 4294967296) (A B C : Option Addr) (ca cb cc na nb nc : Nat) (o p q : List Pg) (hna : na = o.length) (hA : Els pgE 2 w A o) (hla : na ≤ 9223372036854775807)
    (hnb : nb = p.length) (hB : Els pgE 2 w B p) (hlb : nb ≤ 9223372036854775807) (hnc : nc = q.length) (hC : Els pgE 2 w C q) (hlc : nc ≤ 9223372036854775807) :
    Calls Tryz.prog 4 #[.int .u32 (x : Int), .int .u32 (y : Int), .slice A na ca, .slice B nb cb, .slice C nc cc] w fun e w' => e = .returned (.bool true) ∧ Only [] w w' := by
  have r1 := fun W (h : Els pgE 2 W A o) => right_any W A ca na o hna h hla
  have r2 := fun W (h : Els pgE 2 W B p) => right_any W B cb nb p hnb h hlb
  have r3 := fun W (h : Els pgE 2 W C q) => right_any W C cc nc q hnc h hlc
  by_cases hxy : x = y
  · subst hxy
    clear r1 r2 r3 hna hnb hnc
    go_enter Tryz.func4, Tryz.ntmps4
    go_wp2_with fail
    refine (alive_any _).mono ?_; rintro e w1 ⟨rfl, k1⟩
    go_wp2_with fail
    refine (alive_any _).mono ?_; rintro e w2 ⟨rfl, k2⟩
    have kend := k1.trans k2
    go_wp2
    go_ret
    exact ⟨rfl, kend⟩
  have hne : ¬ (x : Int) = (y : Int) := by omega
  have hne2 : ((x : Int) == (y : Int)) = false := by rw [beq_eq_false_iff_ne]; exact hne
  by_cases hall : right o = true ∧ right p = true ∧ right q = true
  · obtain ⟨ho, hp, hq⟩ := hall
    rw [ho] at r1
    rw [hp] at r2
    rw [hq] at r3
    have c1 := fun W (h : Els pgE 2 W A o) => changes_ok W none A 0 ca 0 na x hx [] o rfl (.inl rfl) rfl hna h ho
    have c2 := fun W (h : Els pgE 2 W C q) => changes_ok W none C 0 cc 0 nc y hy [] q rfl (.inl rfl) rfl hnc h hq
    have c3 := fun W (h : Els pgE 2 W A o) (h' : Els pgE 2 W B p) => changes_ok W A B ca cb na nb x hx o p hna h ho hnb h' hp
    change ∀ W, Els pgE 2 W A o → Calls _ _ _ W fun e w' => ∃ v, e = .returned (.tuple #[v, .int .i64 0]) ∧ Mine chE 3 66 W w' v (chgL x [] o) at c1
    change ∀ W, Els pgE 2 W C q → Calls _ _ _ W fun e w' => ∃ v, e = .returned (.tuple #[v, .int .i64 0]) ∧ Mine chE 3 66 W w' v (chgL y [] q) at c2
    change ∀ W, Els pgE 2 W A o → Els pgE 2 W B p → Calls _ _ _ W fun e w' => ∃ v, e = .returned (.tuple #[v, .int .i64 0]) ∧ Mine chE 3 66 W w' v (chgL x o p) at c3
    have hput := fun (z : Nat) (s t : List Pg) (ht : right t = true) (w w1 : World) (F : List Nat) (rp mb lp dp N k : Nat) (M : List Rw) (h : Rows5 w w1 F rp mb lp dp N M k) (hk : k < 4294967295) (hM : M.length + 32 ≤ N) (E : Option Addr) (ce m : Nat) (hm : m = (chgL z s t).length) (hb : Els chE 3 w1 E (chgL z s t)) (hce : (chgL z s t).length ≤ ce) =>
      show Calls Tryz.prog 9 #[.pointer (some ⟨rp, 0, none⟩), .slice E m ce] w1 fun e w' => ∃ M' F', e = .returned (.int .i64 0) ∧ (Good N M' ∧ ∀ k, getR M' k = afterK (chgL z s t) M k) ∧ Rows5 w w' F' rp mb lp dp N M' (k + 1) ∧ Only (mb :: lp :: F) w1 w' ∧ ∀ j ∈ F', j ∈ F ∨ w1.heap.size ≤ j from by
        subst hm
        refine (h.put E ce (chgL z s t) hk hb (chgL_okay ht) (by have := chgL_len z s t; omega) hce).mono ?_
        rintro e w' ⟨e1, M', F', rfl, hP, hr, ho, hF⟩
        obtain ⟨rfl, hg, hM'⟩ := puts_chg ht hM hP
        exact ⟨M', F', rfl, ⟨hg, hM'⟩, hr, ho, hF⟩
    have hload := fun (z : Nat) (hz : z < 4294967296) (w w1 : World) (F : List Nat) (rp mb lp dp N k : Nat) (M : List Rw) (h : Rows5 w w1 F rp mb lp dp N M k) => load_any h z hz
    have l1 := right_len hp
    have l2 := right_len hq
    have same1 := fun W (E : Option Addr) (ce : Nat) (m : Nat) (hm : m = p.length) (hb : Els pgE 2 W E p) (hc : Els pgE 2 W B p) => same_yes W E B ce cb m nb p hm hnb hb hc (by omega)
    have same2 := fun W (E : Option Addr) (ce : Nat) (m : Nat) (hm : m = q.length) (hb : Els pgE 2 W E q) (hc : Els pgE 2 W C q) => same_yes W E C ce cc m nc q hm hnc hb hc (by omega)
    replace c1 := Lib.hid c1
    replace c2 := Lib.hid c2
    replace c3 := Lib.hid c3
    replace hput := Lib.hid hput
    replace hload := Lib.hid hload
    replace same1 := Lib.hid same1
    replace same2 := Lib.hid same2
    replace ho := Lib.hid ho
    replace hp := Lib.hid hp
    replace hq := Lib.hid hq
    replace hxy := Lib.hid hxy
    replace hx := Lib.hid hx
    replace hy := Lib.hid hy
    clear hna hnb hnc l1 l2 hla hlb hlc
    go_enter Tryz.func4, Tryz.ntmps4
    go_wp2_with fail
    refine (alive_any _).mono ?_; rintro e w1 ⟨rfl, k1⟩
    replace hA := hA.kept k1 (by simp)
    replace hB := hB.kept k1 (by simp)
    replace hC := hC.kept k1 (by simp)
    go_wp2_with fail
    refine (r1 _ hA).mono ?_; rintro e w2 ⟨rfl, k2⟩
    replace hA := hA.kept k2 (by simp)
    replace hB := hB.kept k2 (by simp)
    replace hC := hC.kept k2 (by simp)
    go_wp2_with fail
    refine (r2 _ hB).mono ?_; rintro e w3 ⟨rfl, k3⟩
    replace hA := hA.kept k3 (by simp)
    replace hB := hB.kept k3 (by simp)
    replace hC := hC.kept k3 (by simp)
    go_wp2_with fail
    refine (r3 _ hC).mono ?_; rintro e w4 ⟨rfl, k4⟩
    replace hA := hA.kept k4 (by simp)
    replace hB := hB.kept k4 (by simp)
    replace hC := hC.kept k4 (by simp)
    have k14 := ((k1.trans k2).trans k3).trans k4
    clear k1 k2 k3 k4 r1 r2 r3
    have hB4 := Lib.hid hB
    have hC4 := Lib.hid hC
    have hnew := ownNew_any w4 w4 200 (by decide) (by decide) (Only.refl _ _)
    replace hnew := Lib.hid hnew
    go_wp2_with fail
    refine hnew.out.mono ?_; rintro e w5 ⟨dp, F, rfl, hd5, _, _⟩
    clear hnew
    go_wp2_with fail
    refine (hd5.rows5 (N := 159) rfl (by decide)).mono ?_; rintro e w6 ⟨rp, mb, lp, F6, rfl, h6, _, _, _, _, _⟩
    clear hd5
    replace hA := hA.kept h6.only (by simp)
    replace hB := hB.kept h6.only (by simp)
    replace hC := hC.kept h6.only (by simp)
    go_wp2_with fail
    refine (c1.out _ hA).mono ?_; rintro e w7 ⟨v, rfl, hm⟩
    have k7 := hm.only
    obtain ⟨A7, c7, rfl, e7, q7, x7⟩ := ch_shape hm
    have hF6 : ∀ i ∈ mb :: lp :: F6, i < w6.heap.size := fun i hi => (h6.lt i (List.mem_cons_of_mem _ hi)).2
    have z7 := k7.size
    replace hF6 := Lib.hid hF6
    replace x7 := Lib.hid x7
    have h7 := h6.keep k7
    replace hA := hA.kept k7 (by simp)
    replace hB := hB.kept k7 (by simp)
    replace hC := hC.kept k7 (by simp)
    obtain ⟨n7, hn7⟩ : ∃ n, n = (chgL x [] o).length := ⟨_, rfl⟩
    rw [← hn7]
    replace hn7 := Lib.hid hn7
    replace q7 := Lib.hid q7
    clear hm h6 k7
    go_wp2_with fail
    refine (c2.out _ hC).mono ?_; rintro e w8 ⟨v, rfl, hm⟩
    have k8 := hm.only
    obtain ⟨A8, c8, rfl, e8, q8, x8⟩ := ch_shape hm
    have h8 := h7.keep k8
    have z8 := k8.size
    replace x8 := Lib.hid x8
    have e78 := e7.kept k8 (by simp)
    replace hA := hA.kept k8 (by simp)
    replace hB := hB.kept k8 (by simp)
    replace hC := hC.kept k8 (by simp)
    obtain ⟨n8, hn8⟩ : ∃ n, n = (chgL y [] q).length := ⟨_, rfl⟩
    rw [← hn8]
    replace hn8 := Lib.hid hn8
    replace q8 := Lib.hid q8
    clear hm h7 k8 e7
    go_wp2_with fail
    refine (c3.out _ hA hB).mono ?_; rintro e w9 ⟨v, rfl, hm⟩
    have k9 := hm.only
    obtain ⟨A9, c9, rfl, e9, q9, x9⟩ := ch_shape hm
    have h9 := h8.keep k9
    have z9 := k9.size
    replace x9 := Lib.hid x9
    have e79 := e78.kept k9 (by simp)
    have e89 := e8.kept k9 (by simp)
    replace hA := hA.kept k9 (by simp)
    replace hB := hB.kept k9 (by simp)
    replace hC := hC.kept k9 (by simp)
    obtain ⟨n9, hn9⟩ : ∃ n, n = (chgL x o p).length := ⟨_, rfl⟩
    rw [← hn9]
    replace hn9 := Lib.hid hn9
    replace q9 := Lib.hid q9
    clear hm h8 k9 e78 e8
    clear hA hB hC
    have st0 : Holds [] x [] ∧ Holds [] y [] ∧ Rest [] x y := ⟨holds_nil x, holds_nil y, rest_nil x y⟩
    go_wp2_with fail
    refine (hput.out x [] o ho.out _ _ _ _ _ _ _ _ _ _ h9 (by decide) (by decide) A7 c7 n7 hn7.out e79 q7.out).mono ?_; rintro e w10 ⟨M1, F10, rfl, ⟨g1, s1⟩, h10, o10, hF10⟩
    have st1 : Holds M1 x o ∧ Holds M1 y [] ∧ Rest M1 x y := ⟨st0.1.step right_nil ho.out s1, st0.2.1.other hx.out hy.out hxy.out s1, st0.2.2.step (.inl rfl) s1⟩
    have m1 : M1.length + 32 ≤ 159 := by have := few_rows g1.sorted st1.1 st1.2.1 st1.2.2; omega
    have e8a := e89.kept o10 (fun a ha hm => by have h1 := x8.out a ha; have h2 := hF6.out _ hm; omega)
    have e9a := e9.kept o10 (fun a ha hm => by have h1 := x9.out a ha; have h2 := hF6.out _ hm; omega)
    replace st1 := Lib.hid st1
    replace m1 := Lib.hid m1
    replace hF10 := Lib.hid hF10
    have zz10 := o10.size
    clear st0 g1 s1 h9 o10 e79 e89 e9
    go_wp2_with fail
    refine (hput.out y [] q hq.out _ _ _ _ _ _ _ _ _ _ h10 (by decide) m1.out A8 c8 n8 hn8.out e8a q8.out).mono ?_; rintro e w11 ⟨M2, F11, rfl, ⟨g2, s2⟩, h11, o11, hF11⟩
    have st2 : Holds M2 x o ∧ Holds M2 y q ∧ Rest M2 x y := ⟨st1.out.1.other hy.out hx.out (fun e => hxy.out e.symm) s2, st1.out.2.1.step right_nil hq.out s2, st1.out.2.2.step (.inr rfl) s2⟩
    have m2 : M2.length + 32 ≤ 159 := by have := few_rows g2.sorted st2.1 st2.2.1 st2.2.2; omega
    have e9b := e9a.kept o11 (fun a ha hm => by
      have h1 := x9.out a ha
      simp only [List.mem_cons] at hm
      have h2 := hF6.out mb (by simp)
      have h3 := hF6.out lp (by simp)
      rcases hm with hm | hm | hm
      · omega
      · omega
      · rcases hF10.out _ hm with hm | hm
        · have h4 := hF6.out a.block (by simp [hm])
          omega
        · omega)
    replace st2 := Lib.hid st2
    replace m2 := Lib.hid m2
    clear st1 m1 g2 s2 h10 o11 e8a e9a hF11
    go_wp2_with fail
    refine (hput.out x o p hp.out _ _ _ _ _ _ _ _ _ _ h11 (by decide) m2.out A9 c9 n9 hn9.out e9b q9.out).mono ?_; rintro e w12 ⟨M3, F12, rfl, ⟨g3, s3⟩, h12, o12, _⟩
    have st3 : Holds M3 x p ∧ Holds M3 y q := ⟨st2.out.1.step ho.out hp.out s3, st2.out.2.1.other hx.out hy.out hxy.out s3⟩
    obtain ⟨a1, a2⟩ := st3.1.load g3 hp.out
    obtain ⟨b1, b2⟩ := st3.2.load g3 hq.out
    replace a1 := Lib.hid a1
    replace a2 := Lib.hid a2
    replace b1 := Lib.hid b1
    replace b2 := Lib.hid b2
    clear st2 m2 g3 s3 h11 o12 e9b st3 z7 z8 z9 zz10
    have hcall1 := hload.out x hx.out _ _ _ _ _ _ _ _ _ _ h12
    rw [a1.out, a2.out] at hcall1
    unfold errL at hcall1
    replace hcall1 := Lib.hid hcall1
    go_wp2_with fail
    refine hcall1.out.mono ?_; rintro e w13 ⟨v, rfl, hm⟩
    have h13 := h12.keep hm.only
    obtain ⟨D1, d1, rfl, f1, _, _⟩ := mine_shape hm
    obtain ⟨u1, hu1⟩ : ∃ u, u = p.length := ⟨_, rfl⟩
    rw [← hu1]
    replace hu1 := Lib.hid hu1
    clear hm h12 hcall1
    have hcall2 := hload.out y hy.out _ _ _ _ _ _ _ _ _ _ h13
    rw [b1.out, b2.out] at hcall2
    unfold errL at hcall2
    replace hcall2 := Lib.hid hcall2
    go_wp2_with fail
    refine hcall2.out.mono ?_; rintro e w14 ⟨v, rfl, hm⟩
    have h14 := h13.keep hm.only
    have f2 := f1.kept hm.only (by simp)
    obtain ⟨D2, d2, rfl, t1, _, _⟩ := mine_shape hm
    obtain ⟨u2, hu2⟩ : ∃ u, u = q.length := ⟨_, rfl⟩
    rw [← hu2]
    replace hu2 := Lib.hid hu2
    clear hm h13 hcall2 f1
    have hB14 := hB4.out.kept h14.only (by simp)
    have hC14 := hC4.out.kept h14.only (by simp)
    have kk := k14.trans h14.only
    clear h14 k14
    go_wp2_with fail
    refine (alive_any _).mono ?_; rintro e w15 ⟨rfl, k15⟩
    have hB15 := hB14.kept k15 (by simp)
    have hC15 := hC14.kept k15 (by simp)
    have f15 := f2.kept k15 (by simp)
    have t15 := t1.kept k15 (by simp)
    have kk15 := kk.trans k15
    clear hB14 hC14 f2 t1 kk k15
    go_wp2_with fail
    refine (same1.out _ _ _ _ hu1.out f15 hB15).mono ?_; rintro e w16 ⟨rfl, k16⟩
    have hC16 := hC15.kept k16 (by simp)
    have t16 := t15.kept k16 (by simp)
    have kk16 := kk15.trans k16
    clear hB15 hC15 f15 t15 kk15 k16
    go_wp2_with fail
    refine (same2.out _ _ _ _ hu2.out t16 hC16).mono ?_; rintro e w17 ⟨rfl, k17⟩
    have kk17 := kk16.trans k17
    clear hC16 t16 kk16 k17
    go_wp2
    go_ret
    exact ⟨rfl, kk17⟩
  · have hcs : right o = false ∨ (right o = true ∧ (right p = false ∨ (right p = true ∧ right q = false))) := by
      cases h1 : right o with
      | false => exact .inl rfl
      | true =>
        refine .inr ⟨rfl, ?_⟩
        cases h2 : right p with
        | false => exact .inl rfl
        | true =>
          refine .inr ⟨rfl, ?_⟩
          cases h3 : right q with
          | false => rfl
          | true => exact (hall ⟨h1, h2, h3⟩).elim
    clear hna hnb hnc hla hlb hlc hall
    rcases hcs with ho | ⟨ho, hp | ⟨hp, hq⟩⟩
    · rw [ho] at r1
      replace ho := Lib.hid ho
      go_enter Tryz.func4, Tryz.ntmps4
      go_wp2_with fail
      refine (alive_any _).mono ?_; rintro e w1 ⟨rfl, k1⟩
      go_wp2_with fail
      refine (r1 _ (hA.kept k1 (by simp))).mono ?_; rintro e w2 ⟨rfl, k2⟩
      go_wp2_with fail
      refine (alive_any _).mono ?_; rintro e w3 ⟨rfl, k3⟩
      have kend := (k1.trans k2).trans k3
      go_wp2
      go_ret
      exact ⟨rfl, kend⟩
    · rw [ho] at r1
      rw [hp] at r2
      replace ho := Lib.hid ho
      replace hp := Lib.hid hp
      go_enter Tryz.func4, Tryz.ntmps4
      go_wp2_with fail
      refine (alive_any _).mono ?_; rintro e w1 ⟨rfl, k1⟩
      go_wp2_with fail
      refine (r1 _ (hA.kept k1 (by simp))).mono ?_; rintro e w2 ⟨rfl, k2⟩
      have k12 := k1.trans k2
      go_wp2_with fail
      refine (r2 _ (hB.kept k12 (by simp))).mono ?_; rintro e w3 ⟨rfl, k3⟩
      go_wp2_with fail
      refine (alive_any _).mono ?_; rintro e w4 ⟨rfl, k4⟩
      have kend := (k12.trans k3).trans k4
      go_wp2
      go_ret
      exact ⟨rfl, kend⟩
    · rw [ho] at r1
      rw [hp] at r2
      rw [hq] at r3
      replace ho := Lib.hid ho
      replace hp := Lib.hid hp
      replace hq := Lib.hid hq
      go_enter Tryz.func4, Tryz.ntmps4
      go_wp2_with fail
      refine (alive_any _).mono ?_; rintro e w1 ⟨rfl, k1⟩
      go_wp2_with fail
      refine (r1 _ (hA.kept k1 (by simp))).mono ?_; rintro e w2 ⟨rfl, k2⟩
      have k12 := k1.trans k2
      go_wp2_with fail
      refine (r2 _ (hB.kept k12 (by simp))).mono ?_; rintro e w3 ⟨rfl, k3⟩
      have k13 := k12.trans k3
      go_wp2_with fail
      refine (r3 _ (hC.kept k13 (by simp))).mono ?_; rintro e w4 ⟨rfl, k4⟩
      go_wp2_with fail
      refine (alive_any _).mono ?_; rintro e w5 ⟨rfl, k5⟩
      have kend := (k13.trans k4).trans k5
      go_wp2
      go_ret
      exact ⟨rfl, kend⟩
end Go.Proofs.YtchlcmgdfbabdaaGreatDoor.Pgs
