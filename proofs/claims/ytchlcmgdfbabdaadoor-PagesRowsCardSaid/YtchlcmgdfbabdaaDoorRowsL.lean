/- PagesRows: the walk. -/
import Derived.Test.YtchlcmgdfbabdaaDoorOpen7
import Derived.Test.YtchlcmgdfbabdaaDoorRr7
import Derived.Test.YtchlcmgdfbabdaaDoorYes8
import Derived.Laws.Concat
namespace Go.Proofs.YtchlcmgdfbabdaaDoor.Pgs
open Go.RowKit

set_option maxRecDepth 100000 in
set_option maxHeartbeats 2000000 in
theorem pagesRows_walk (w : World) (A B : Option Addr) (c d n m : Nat) (o p : List Pg) (hn : n = o.length) (hA : Els pgE 2 w A o) (hl : n ≤ 9223372036854775807) (hm : m = p.length) (hB : Els pgE 2 w B p) (hl' : m ≤ 9223372036854775807) (file : Int) (f0 : 0 ≤ file) (f1 : file < 4294967296) (page : Int) :
    Calls Tryd.prog 5 #[.int .u32 file, .int .i64 page, .slice A n c, .slice B m d] w fun e w' => e = .returned (.bool true) ∧ Only [] w w' := by
  by_cases hfew : ¬ (n ≤ 200 ∧ m ≤ 200)
  · have hg : decide ((200 : Int) < (n : Int)) = true ∨ (decide ((200 : Int) < (n : Int)) = false ∧ decide ((200 : Int) < (m : Int)) = true) := by
      by_cases h1 : 200 < n
      · exact .inl (decide_eq_true (by omega))
      · exact .inr ⟨decide_eq_false (by omega), decide_eq_true (by omega)⟩
    clear hfew hn hm
    rcases hg with hg | ⟨hg, hg'⟩
    all_goals
      go_enter Tryd.func5, Tryd.ntmps5
      have kk := Only.refl [] w
      go_wp2_with fail
      refine (alive_any _).mono ?_; rintro e w1 ⟨rfl, k1⟩
      replace hA := hA.kept k1 (by simp)
      replace hB := hB.kept k1 (by simp)
      replace kk := kk.trans k1
      clear k1
      go_wp2_with fail
      refine (alive_any _).mono ?_; rintro e w2 ⟨rfl, k2⟩
      replace hA := hA.kept k2 (by simp)
      replace hB := hB.kept k2 (by simp)
      replace kk := kk.trans k2
      clear k2
      have kk := Lib.hid kk
      go_wp2
      go_ret
      exact ⟨rfl, kk.out⟩
  · obtain ⟨hn2, hm2⟩ : n ≤ 200 ∧ m ≤ 200 := by omega
    obtain ⟨x, rfl⟩ : ∃ x : Nat, file = x := ⟨file.toNat, by omega⟩
    have hx : x < 4294967296 := by omega
    have hg : decide ((200 : Int) < (n : Int)) = false := decide_eq_false (by omega)
    have hg' : decide ((200 : Int) < (m : Int)) = false := decide_eq_false (by omega)
    have h3 := fun W (h : Els pgE 2 W A o) => rright_any W A c n o hn h hl
    have h4 := fun W (h : Els pgE 2 W B p) => rright_any W B d m p hm h hl'
    clear hfew f0 f1
    have hkey : (∃ (K : ByteArray), (∀ W, Calls Tryd.prog 23 #[.int .u32 (x : Int), .int .i64 page] W fun e w' => e = .returned (.string K) ∧ Only [] W w') ∧ (∀ W, Calls Tryd.prog 25 #[.int .u32 (x : Int), .int .i64 page] W fun e w' => e = .returned (.string K) ∧ Only [] W w') ∧ (decide (page < 0) = false ∧ decide ((31 : Int) < page) = false)) ∨
        ((∀ W, Calls Tryd.prog 23 #[.int .u32 (x : Int), .int .i64 page] W fun e w' => e = .returned (.string ⟨#[]⟩) ∧ Only [] W w') ∧ (decide (page < 0) = true ∨ (decide (page < 0) = false ∧ decide ((31 : Int) < page) = true))) := by
      by_cases hk : 0 ≤ page ∧ page < 32
      · obtain ⟨k, rfl⟩ : ∃ k : Nat, page = k := ⟨page.toNat, by omega⟩
        exact .inl ⟨strOf (keyB x k), fun W => key_any W x k hx (by omega), fun W => rkey_any W x k hx (by omega), decide_eq_false (by omega), decide_eq_false (by omega)⟩
      · refine .inr ⟨fun W => (key_no W x page hk).mono (by rintro e w1 ⟨rfl, rfl⟩; exact ⟨rfl, Only.refl _ _⟩), ?_⟩
        by_cases h0 : page < 0
        · exact .inl (decide_eq_true h0)
        · exact .inr ⟨decide_eq_false h0, decide_eq_true (by omega)⟩
    have hchg : (right o = true ∧ right p = true) ∨ (right o = false ∨ (right o = true ∧ right p = false)) := by
      cases right o <;> cases right p <;> simp
    have hno := fun W (h : Els pgE 2 W A o) (h' : Els pgE 2 W B p) (hh : ¬ (right o = true ∧ right p = true)) => changes_no W A B c d n m (x : Int) o p hn h hl hm h' hl' hh
    have hok := fun W (h : Els pgE 2 W A o) (h' : Els pgE 2 W B p) (hr : right o = true) (hq : right p = true) => changes_ok W A B c d n m x hx o p hn h hr hm h' hq
    have hrf := fun W (h : Els pgE 2 W A o) (h' : Els pgE 2 W B p) (hr : right o = true) (hq : right p = true) => rchanges_any W A B c d n m x hx o p ⟨hn, h, hr⟩ ⟨hm, h', hq⟩
    replace hno := Lib.hid hno
    replace hok := Lib.hid hok
    replace hrf := Lib.hid hrf
    clear hl hl' hn hm hx
    rcases hchg with ⟨hr, hq⟩ | hbad
    · have heq : chgF (headB x) (chunk (body o)) (chunk (body p)) 32 = chgF (headB x) (find o) (find p) 32 := chgF_congr _ 32 (fun j hj => chunk_body hr hj) (fun j hj => chunk_body hq hj)
      have h1 := fun W h h' => hok.out W h h' hr hq
      rw [heq] at h1
      have h2 := fun W h h' => hrf.out W h h' hr hq
      rw [hr] at h3
      rw [hq] at h4
      have hlen := chgF_len (headB x) (find o) (find p) 32
      obtain ⟨L, hL⟩ : ∃ L, L = chgF (headB x) (find o) (find p) 32 := ⟨_, rfl⟩
      rw [← hL] at h1 h2 hlen
      have same1 := fun W (B C : Option Addr) (cb cc : Nat) (hb : Els chE 3 W B L) (hc : Els chE 3 W C L) => sameCh_yes W B C cb cc L hb hc (by omega)
      replace hlen := Lib.hid hlen
      replace hr := Lib.hid hr
      replace hq := Lib.hid hq
      replace hL := Lib.hid hL
      replace same1 := Lib.hid same1
      have h1 := Lib.hid h1
      have h2 := Lib.hid h2
      rename_i h1' h2'
      clear h1' h2' hno hok hrf heq
      rcases hkey with ⟨K, j1, j2, d1, d2⟩ | ⟨j1, hd⟩
      · go_enter Tryd.func5, Tryd.ntmps5
        have kk := Only.refl [] w
        go_wp2_with fail
        refine (alive_any _).mono ?_; rintro e w1 ⟨rfl, k1⟩
        replace hA := hA.kept k1 (by simp)
        replace hB := hB.kept k1 (by simp)
        replace kk := kk.trans k1
        clear k1
        go_wp2_with fail
        refine (j1 _).mono ?_; rintro e w2 ⟨rfl, k2⟩
        replace hA := hA.kept k2 (by simp)
        replace hB := hB.kept k2 (by simp)
        replace kk := kk.trans k2
        clear k2
        go_wp2_with fail
        refine (h1.out _ hA hB).mono ?_; rintro e w3 ⟨v, rfl, hm⟩
        have k3 := hm.only
        obtain ⟨Al, cl, rfl, el, _, _⟩ := ch_shape hm
        clear hm
        replace hA := hA.kept k3 (by simp)
        replace hB := hB.kept k3 (by simp)
        replace kk := kk.trans k3
        clear k3
        go_wp2_with fail
        refine (j2 _).mono ?_; rintro e w4 ⟨rfl, k4⟩
        replace hA := hA.kept k4 (by simp)
        replace hB := hB.kept k4 (by simp)
        replace el := el.kept k4 (by simp)
        replace kk := kk.trans k4
        clear k4
        go_wp2_with fail
        refine (h3 _ hA).mono ?_; rintro e w5 ⟨rfl, k5⟩
        replace hA := hA.kept k5 (by simp)
        replace hB := hB.kept k5 (by simp)
        replace el := el.kept k5 (by simp)
        replace kk := kk.trans k5
        clear k5
        go_wp2_with fail
        refine (h4 _ hB).mono ?_; rintro e w6 ⟨rfl, k6⟩
        replace hA := hA.kept k6 (by simp)
        replace hB := hB.kept k6 (by simp)
        replace el := el.kept k6 (by simp)
        replace kk := kk.trans k6
        clear k6
        go_wp2_with fail
        refine (alive_any _).mono ?_; rintro e w7 ⟨rfl, k7⟩
        replace hA := hA.kept k7 (by simp)
        replace hB := hB.kept k7 (by simp)
        replace el := el.kept k7 (by simp)
        replace kk := kk.trans k7
        clear k7
        go_wp2_with fail
        refine (h2.out _ hA hB).mono ?_; rintro e w8 ⟨v, rfl, hm⟩
        have k8 := hm.only
        obtain ⟨Ar, cr, rfl, er, _, _⟩ := ch_shape hm
        clear hm
        replace hA := hA.kept k8 (by simp)
        replace hB := hB.kept k8 (by simp)
        replace el := el.kept k8 (by simp)
        replace kk := kk.trans k8
        clear k8
        go_wp2_with fail
        refine (same1.out _ _ _ _ _ el er).mono ?_; rintro e w9 ⟨rfl, k9⟩
        replace hA := hA.kept k9 (by simp)
        replace hB := hB.kept k9 (by simp)
        replace el := el.kept k9 (by simp)
        replace er := er.kept k9 (by simp)
        replace kk := kk.trans k9
        clear k9
        have kk := Lib.hid kk
        go_wp2
        go_ret
        exact ⟨rfl, kk.out⟩
      · rcases hd with d1 | ⟨d1, d2⟩
        all_goals
          go_enter Tryd.func5, Tryd.ntmps5
          have kk := Only.refl [] w
          go_wp2_with fail
          refine (alive_any _).mono ?_; rintro e w1 ⟨rfl, k1⟩
          replace hA := hA.kept k1 (by simp)
          replace hB := hB.kept k1 (by simp)
          replace kk := kk.trans k1
          clear k1
          go_wp2_with fail
          refine (j1 _).mono ?_; rintro e w2 ⟨rfl, k2⟩
          replace hA := hA.kept k2 (by simp)
          replace hB := hB.kept k2 (by simp)
          replace kk := kk.trans k2
          clear k2
          go_wp2_with fail
          refine (h1.out _ hA hB).mono ?_; rintro e w3 ⟨v, rfl, hm⟩
          have k3 := hm.only
          obtain ⟨Al, cl, rfl, el, _, _⟩ := ch_shape hm
          clear hm
          replace hA := hA.kept k3 (by simp)
          replace hB := hB.kept k3 (by simp)
          replace kk := kk.trans k3
          clear k3
          go_wp2_with fail
          refine (h3 _ hA).mono ?_; rintro e w4 ⟨rfl, k4⟩
          replace hA := hA.kept k4 (by simp)
          replace hB := hB.kept k4 (by simp)
          replace el := el.kept k4 (by simp)
          replace kk := kk.trans k4
          clear k4
          go_wp2_with fail
          refine (h4 _ hB).mono ?_; rintro e w5 ⟨rfl, k5⟩
          replace hA := hA.kept k5 (by simp)
          replace hB := hB.kept k5 (by simp)
          replace el := el.kept k5 (by simp)
          replace kk := kk.trans k5
          clear k5
          go_wp2_with fail
          refine (alive_any _).mono ?_; rintro e w6 ⟨rfl, k6⟩
          replace hA := hA.kept k6 (by simp)
          replace hB := hB.kept k6 (by simp)
          replace el := el.kept k6 (by simp)
          replace kk := kk.trans k6
          clear k6
          go_wp2_with fail
          refine (h2.out _ hA hB).mono ?_; rintro e w7 ⟨v, rfl, hm⟩
          have k7 := hm.only
          obtain ⟨Ar, cr, rfl, er, _, _⟩ := ch_shape hm
          clear hm
          replace hA := hA.kept k7 (by simp)
          replace hB := hB.kept k7 (by simp)
          replace el := el.kept k7 (by simp)
          replace kk := kk.trans k7
          clear k7
          go_wp2_with fail
          refine (same1.out _ _ _ _ _ el er).mono ?_; rintro e w8 ⟨rfl, k8⟩
          replace hA := hA.kept k8 (by simp)
          replace hB := hB.kept k8 (by simp)
          replace el := el.kept k8 (by simp)
          replace er := er.kept k8 (by simp)
          replace kk := kk.trans k8
          clear k8
          have kk := Lib.hid kk
          go_wp2
          go_ret
          exact ⟨rfl, kk.out⟩
    · have h1 := fun W h h' => hno.out W h h' (by rcases hbad with hb | ⟨_, hb⟩ <;> simp [hb])
      replace h1 := Lib.hid h1
      clear hno hok hrf
      rcases hkey with ⟨K, j1, j2, d1, d2⟩ | ⟨j1, hd⟩
      · rcases hbad with hr | ⟨hr, hq⟩
        · rw [hr] at h3
          replace hr := Lib.hid hr
          go_enter Tryd.func5, Tryd.ntmps5
          have kk := Only.refl [] w
          go_wp2_with fail
          refine (alive_any _).mono ?_; rintro e w1 ⟨rfl, k1⟩
          replace hA := hA.kept k1 (by simp)
          replace hB := hB.kept k1 (by simp)
          replace kk := kk.trans k1
          clear k1
          go_wp2_with fail
          refine (j1 _).mono ?_; rintro e w2 ⟨rfl, k2⟩
          replace hA := hA.kept k2 (by simp)
          replace hB := hB.kept k2 (by simp)
          replace kk := kk.trans k2
          clear k2
          go_wp2_with fail
          refine (h1.out _ hA hB).mono ?_; rintro e w3 ⟨rfl, k3⟩
          replace hA := hA.kept k3 (by simp)
          replace hB := hB.kept k3 (by simp)
          replace kk := kk.trans k3
          clear k3
          go_wp2_with fail
          refine (j2 _).mono ?_; rintro e w4 ⟨rfl, k4⟩
          replace hA := hA.kept k4 (by simp)
          replace hB := hB.kept k4 (by simp)
          replace kk := kk.trans k4
          clear k4
          go_wp2_with fail
          refine (h3 _ hA).mono ?_; rintro e w5 ⟨rfl, k5⟩
          replace hA := hA.kept k5 (by simp)
          replace hB := hB.kept k5 (by simp)
          replace kk := kk.trans k5
          clear k5
          go_wp2_with fail
          refine (alive_any _).mono ?_; rintro e w6 ⟨rfl, k6⟩
          replace hA := hA.kept k6 (by simp)
          replace hB := hB.kept k6 (by simp)
          replace kk := kk.trans k6
          clear k6
          have kk := Lib.hid kk
          go_wp2
          go_ret
          exact ⟨rfl, kk.out⟩
        · rw [hr] at h3
          rw [hq] at h4
          replace hq := Lib.hid hq
          replace hr := Lib.hid hr
          go_enter Tryd.func5, Tryd.ntmps5
          have kk := Only.refl [] w
          go_wp2_with fail
          refine (alive_any _).mono ?_; rintro e w1 ⟨rfl, k1⟩
          replace hA := hA.kept k1 (by simp)
          replace hB := hB.kept k1 (by simp)
          replace kk := kk.trans k1
          clear k1
          go_wp2_with fail
          refine (j1 _).mono ?_; rintro e w2 ⟨rfl, k2⟩
          replace hA := hA.kept k2 (by simp)
          replace hB := hB.kept k2 (by simp)
          replace kk := kk.trans k2
          clear k2
          go_wp2_with fail
          refine (h1.out _ hA hB).mono ?_; rintro e w3 ⟨rfl, k3⟩
          replace hA := hA.kept k3 (by simp)
          replace hB := hB.kept k3 (by simp)
          replace kk := kk.trans k3
          clear k3
          go_wp2_with fail
          refine (j2 _).mono ?_; rintro e w4 ⟨rfl, k4⟩
          replace hA := hA.kept k4 (by simp)
          replace hB := hB.kept k4 (by simp)
          replace kk := kk.trans k4
          clear k4
          go_wp2_with fail
          refine (h3 _ hA).mono ?_; rintro e w5 ⟨rfl, k5⟩
          replace hA := hA.kept k5 (by simp)
          replace hB := hB.kept k5 (by simp)
          replace kk := kk.trans k5
          clear k5
          go_wp2_with fail
          refine (h4 _ hB).mono ?_; rintro e w6 ⟨rfl, k6⟩
          replace hA := hA.kept k6 (by simp)
          replace hB := hB.kept k6 (by simp)
          replace kk := kk.trans k6
          clear k6
          go_wp2_with fail
          refine (alive_any _).mono ?_; rintro e w7 ⟨rfl, k7⟩
          replace hA := hA.kept k7 (by simp)
          replace hB := hB.kept k7 (by simp)
          replace kk := kk.trans k7
          clear k7
          have kk := Lib.hid kk
          go_wp2
          go_ret
          exact ⟨rfl, kk.out⟩
      · rcases hbad with hr | ⟨hr, hq⟩
        · rw [hr] at h3
          replace hr := Lib.hid hr
          rcases hd with d1 | ⟨d1, d2⟩
          all_goals
            go_enter Tryd.func5, Tryd.ntmps5
            have kk := Only.refl [] w
            go_wp2_with fail
            refine (alive_any _).mono ?_; rintro e w1 ⟨rfl, k1⟩
            replace hA := hA.kept k1 (by simp)
            replace hB := hB.kept k1 (by simp)
            replace kk := kk.trans k1
            clear k1
            go_wp2_with fail
            refine (j1 _).mono ?_; rintro e w2 ⟨rfl, k2⟩
            replace hA := hA.kept k2 (by simp)
            replace hB := hB.kept k2 (by simp)
            replace kk := kk.trans k2
            clear k2
            go_wp2_with fail
            refine (h1.out _ hA hB).mono ?_; rintro e w3 ⟨rfl, k3⟩
            replace hA := hA.kept k3 (by simp)
            replace hB := hB.kept k3 (by simp)
            replace kk := kk.trans k3
            clear k3
            go_wp2_with fail
            refine (h3 _ hA).mono ?_; rintro e w4 ⟨rfl, k4⟩
            replace hA := hA.kept k4 (by simp)
            replace hB := hB.kept k4 (by simp)
            replace kk := kk.trans k4
            clear k4
            go_wp2_with fail
            refine (alive_any _).mono ?_; rintro e w5 ⟨rfl, k5⟩
            replace hA := hA.kept k5 (by simp)
            replace hB := hB.kept k5 (by simp)
            replace kk := kk.trans k5
            clear k5
            have kk := Lib.hid kk
            go_wp2
            go_ret
            exact ⟨rfl, kk.out⟩
        · rw [hr] at h3
          rw [hq] at h4
          replace hq := Lib.hid hq
          replace hr := Lib.hid hr
          rcases hd with d1 | ⟨d1, d2⟩
          all_goals
            go_enter Tryd.func5, Tryd.ntmps5
            have kk := Only.refl [] w
            go_wp2_with fail
            refine (alive_any _).mono ?_; rintro e w1 ⟨rfl, k1⟩
            replace hA := hA.kept k1 (by simp)
            replace hB := hB.kept k1 (by simp)
            replace kk := kk.trans k1
            clear k1
            go_wp2_with fail
            refine (j1 _).mono ?_; rintro e w2 ⟨rfl, k2⟩
            replace hA := hA.kept k2 (by simp)
            replace hB := hB.kept k2 (by simp)
            replace kk := kk.trans k2
            clear k2
            go_wp2_with fail
            refine (h1.out _ hA hB).mono ?_; rintro e w3 ⟨rfl, k3⟩
            replace hA := hA.kept k3 (by simp)
            replace hB := hB.kept k3 (by simp)
            replace kk := kk.trans k3
            clear k3
            go_wp2_with fail
            refine (h3 _ hA).mono ?_; rintro e w4 ⟨rfl, k4⟩
            replace hA := hA.kept k4 (by simp)
            replace hB := hB.kept k4 (by simp)
            replace kk := kk.trans k4
            clear k4
            go_wp2_with fail
            refine (h4 _ hB).mono ?_; rintro e w5 ⟨rfl, k5⟩
            replace hA := hA.kept k5 (by simp)
            replace hB := hB.kept k5 (by simp)
            replace kk := kk.trans k5
            clear k5
            go_wp2_with fail
            refine (alive_any _).mono ?_; rintro e w6 ⟨rfl, k6⟩
            replace hA := hA.kept k6 (by simp)
            replace hB := hB.kept k6 (by simp)
            replace kk := kk.trans k6
            clear k6
            have kk := Lib.hid kk
            go_wp2
            go_ret
            exact ⟨rfl, kk.out⟩

end Go.Proofs.YtchlcmgdfbabdaaDoor.Pgs
