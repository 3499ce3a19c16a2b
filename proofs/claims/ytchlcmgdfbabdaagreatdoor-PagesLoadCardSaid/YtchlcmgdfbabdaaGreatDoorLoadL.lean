/- PagesLoad: the walk. -/
import Derived.Test.YtchlcmgdfbabdaaGreatDoorRload7
import Derived.Test.YtchlcmgdfbabdaaGreatDoorYes7
import Derived.Test.YtchlcmgdfbabdaaGreatDoorOpenC7
namespace Go.Proofs.YtchlcmgdfbabdaaGreatDoor.Pgs
open Go.RowKit Go.Maps

set_option maxRecDepth 100000 in
set_option maxHeartbeats 2000000 in
theorem pagesLoad_walk (w : World) (A : Option Addr) (c : Nat) (l : List Ch) (hA : Els chE 3 w A l) (hok : okayC l) (hl : l.length ≤ 9223372036854775807) (hc : l.length ≤ c) (x : Nat) (hx : x < 4294967296) :
    Calls Tryz.prog 3 #[.slice A l.length c, .int .u32 (x : Int)] w fun e w' => e = .returned (.bool true) ∧ Only [] w w' := by
  have hln := fun W => load_nil W x hx
  have hload := fun (w w1 : World) (F : List Nat) (rp mb lp p N c : Nat) (M : List Rw) (h : Rows5 w w1 F rp mb lp p N M c) => load_any h x hx
  have hrl := fun (w : World) (A : Option Addr) (c : Nat) (L : List Ch) (hA : Els chE 3 w A L) hl hks => rload_any w A c L hA hl hks x hx
  obtain ⟨n, hn⟩ : ∃ n, n = l.length := ⟨_, rfl⟩
  have hput := fun (w w1 : World) (F : List Nat) (rp mb lp p N k : Nat) (M : List Rw) (h : Rows5 w w1 F rp mb lp p N M k) (hk : k < 4294967295) (hb : Els chE 3 w1 A l) => h.put A c l hk hb hok hl hc
  rw [← hn] at hput ⊢
  replace hn := Lib.hid hn
  replace hln := Lib.hid hln
  replace hload := Lib.hid hload
  replace hrl := Lib.hid hrl
  replace hput := Lib.hid hput
  clear hl hc hok
  go_enter Tryz.func3, Tryz.ntmps3
  go_wp2_with fail
  refine (alive_any _).mono ?_; rintro e w1 ⟨rfl, k1⟩
  have hA1 := hA.kept k1 (by simp)
  have hnew := ownNew_any w1 w1 100 (by decide) (by decide) (Only.refl _ _)
  replace hnew := Lib.hid hnew
  clear hA
  go_wp2_with fail
  refine hnew.out.mono ?_; rintro e w2 ⟨p, F, rfl, hd2, _, _⟩
  clear hnew
  go_wp2_with fail
  refine (hd2.rows5 (N := 59) rfl (by decide)).mono ?_; rintro e w3 ⟨rp, mb, lp, F3, rfl, h3, _, _, _, _, _⟩
  clear hd2
  go_wp2_with fail
  refine (hln.out _).mono ?_; rintro e w4 ⟨v, rfl, hm⟩
  have h4 := h3.keep hm.only
  obtain ⟨A0, c0, rfl, _, _, _⟩ := mine_shape hm
  clear hm h3
  by_cases h40 : (40 : Int) < (n : Int)
  · have kend := k1.trans h4.only
    clear h4
    go_wp2_with fail
    refine (alive_any _).mono ?_; rintro e w5 ⟨rfl, k5⟩
    have kend2 := kend.trans k5
    go_wp2
    go_ret
    exact ⟨rfl, kend2⟩
  · go_wp2_with fail
    refine (hput.out _ _ _ _ _ _ _ _ _ _ h4 (by decide) (hA1.kept h4.only (by simp))).mono ?_; rintro e w5 ⟨x1, M1, F5, rfl, hp1, h5, _, _⟩
    clear h4
    by_cases hx1 : x1 = 0
    case neg =>
      have hx2 : (x1 == 0) = false := by rw [beq_eq_false_iff_ne]; exact hx1
      have hx3 : (x1 != 0) = true := by rw [bne_iff_ne]; exact hx1
      have kend := k1.trans h5.only
      clear hp1 h5
      go_wp2_with fail
      refine (alive_any _).mono ?_; rintro e w6 ⟨rfl, k6⟩
      have kend2 := kend.trans k6
      go_wp2
      go_ret
      exact ⟨rfl, kend2⟩
    subst hx1
    clear hp1
    have hgood := h5.good
    have hfew := h5.few
    have hMl := hgood.length
    have hks : ∀ e ∈ M1.map chOf, e.key.length ≤ 16 := fun e he => by
      obtain ⟨r, hr, rfl⟩ := List.mem_map.1 he
      exact (hgood.small r hr).2.1
    have hlen : (M1.map chOf).length ≤ 1024 := by rw [List.length_map]; omega
    have hau := all_under M1 x
    replace hau := Lib.hid hau
    replace hks := Lib.hid hks
    replace hlen := Lib.hid hlen
    clear hMl hgood hfew
    go_wp2_with fail
    refine (hload.out _ _ _ _ _ _ _ _ _ _ h5).mono ?_; rintro e w6 ⟨v, rfl, hm⟩
    have h6 := h5.keep hm.only
    obtain ⟨A1, c1, rfl, e1, _, _⟩ := mine_shape hm
    clear hm h5
    go_wp2_with fail
    refine h6.all.mono ?_; rintro e w7 ⟨v, rfl, hne⟩
    obtain ⟨B, cb, rfl, hcb, hB, k7, _⟩ := hne
    have h7 := h6.keep k7
    have e7 := e1.kept k7 (by simp)
    clear h6 e1 k7 hcb
    obtain ⟨b, hb⟩ : ∃ b, b = (M1.map chOf).length := ⟨_, rfl⟩
    have hcall := hrl.out _ B cb _ hB hlen.out hks.out
    rw [← hb] at hcall ⊢
    rw [hau.out] at hcall
    replace hb := Lib.hid hb
    go_wp2_with fail
    refine hcall.mono ?_; rintro e w8 ⟨v, rfl, hm⟩
    have h8 := h7.keep hm.only
    have e8 := e7.kept hm.only (by simp)
    obtain ⟨A2, c2, rfl, f8, _, _⟩ := mine_shape hm
    clear hm h7 e7 hB hcall hA1
    have kend := k1.trans h8.only
    have hlo : (ldL (underL M1 (headB x))).length ≤ 1048576 := by
      have h1 : (ldL (underL M1 (headB x))).length ≤ (underL M1 (headB x)).length := by
        unfold ldL
        split
        · unfold ldO; rw [List.length_map]; exact Nat.le_refl _
        · exact Nat.zero_le _
      have h2 : (underL M1 (headB x)).length ≤ (M1.map chOf).length := by
        unfold underL
        rw [List.length_map, List.length_map]
        exact List.length_filter_le _ _
      have := hlen.out
      omega
    obtain ⟨m, hm⟩ : ∃ m, m = (ldL (underL M1 (headB x))).length := ⟨_, rfl⟩
    have same1 := fun W (hb : Els pgE 2 W A1 (ldL (underL M1 (headB x)))) (hc : Els pgE 2 W A2 (ldL (underL M1 (headB x)))) => same_yes W A1 A2 c1 c2 m m _ hm hm hb hc (by omega)
    have hm0 : ldOk (underL M1 (headB x)) = false → m = 0 := fun h => by rw [hm]; unfold ldL; rw [h]; rfl
    rw [← hm]
    replace hm := Lib.hid hm
    replace hm0 := Lib.hid hm0
    replace hlo := Lib.hid hlo
    replace same1 := Lib.hid same1
    clear h8
    generalize ldL (underL M1 (headB x)) = O at *
    cases hk : ldOk (underL M1 (headB x)) with
    | false =>
      have m0 := hm0.out hk
      subst m0
      unfold errL
      replace hk := Lib.hid hk
      go_wp2_with fail
      refine (alive_any _).mono ?_; rintro e w9 ⟨rfl, k9⟩
      have kend2 := kend.trans k9
      clear hm0
      go_wp2
      go_ret
      exact ⟨rfl, kend2⟩
    | true =>
      unfold errL
      replace hk := Lib.hid hk
      clear hm0
      go_wp2_with fail
      refine (alive_any _).mono ?_; rintro e w9 ⟨rfl, k9⟩
      have kend2 := kend.trans k9
      have e9 := e8.kept k9 (by simp)
      have f9 := f8.kept k9 (by simp)
      clear k9 e8 f8 kend
      go_wp2_with fail
      refine (same1.out _ e9 f9).mono ?_; rintro e w10 ⟨rfl, k10⟩
      have kend3 := kend2.trans k10
      clear k10 kend2
      go_wp2
      go_ret
      exact ⟨rfl, kend3⟩
end Go.Proofs.YtchlcmgdfbabdaaGreatDoor.Pgs
