/- Whether a state may be. -/
import Derived.Test.YtalkhhjfplahkaaGreatKTrt14
import Derived.Test.YtalkhhjfplahkaaGreatKWrt14
import Derived.Test.YtalkhhjfplahkaaGreatKSrt14
import Derived.Test.YtalkhhjfplahkaaGreatKKrt14
namespace Go.Proofs.YtalkhhjfplahkaaGreat
open Go.RowKit

theorem says_bool {P : Prop} {e : Ending} (h : Says P e) : (P ∧ e = .returned (.bool true)) ∨ (¬ P ∧ e = .returned (.bool false)) := by
  obtain ⟨r, rfl, hr⟩ := h
  cases r with
  | true => exact .inl ⟨hr.1 rfl, rfl⟩
  | false => exact .inr ⟨fun p => (by have := hr.2 p; cases this), rfl⟩

set_option maxRecDepth 100000 in
set_option maxHeartbeats 8000000 in
theorem right_state (w : World) (s : Sta) (p : Sp) (h : StM w s p) : Calls Tryz.prog 12 #[staV s p] w fun e w' => Says (RightS s) e ∧ Only [] w w' := by
  have k0 : Only [] w (w.alloc (.cells #[.int .u32 s.boot, .int .u32 s.next, .slice p.tA s.tree.length p.tc, .slice p.oA s.opens.length p.oc, .slice p.lA s.locks.length p.lc, .slice p.wA s.works.length p.wc, .slice p.sA s.seats.length p.sc] 29)) := (Only.refl [] w).alloc _
  have bx := Sx.new w s p
  have h1 := fun W (kW : Only [] w W) => treeRight_any W s p (h.kept kW)
  have h2 := fun W (kW : Only [] w W) => opensRight_any W s p (h.kept kW)
  have h3 := fun W (kW : Only [] w W) => locksRight_any W s p (h.kept kW)
  have h4 := fun W (kW : Only [] w W) => worksRight_any W s p (h.kept kW)
  have h5 := fun W (kW : Only [] w W) => seatsRight_any W s p (h.kept kW)
  have n1 : ¬ TreeR s → ¬ RightS s := fun e r => e r.tree
  have n2 : ¬ OpensR s → ¬ RightS s := fun e r => e r.opens
  have n3 : ¬ LocksR s → ¬ RightS s := fun e r => e r.locks
  have n4 : ¬ WorksR s → ¬ RightS s := fun e r => e r.works
  have n5 : ¬ SeatsR s → ¬ RightS s := fun e r => e r.seats
  have yes : TreeR s → OpensR s → LocksR s → WorksR s → SeatsR s → RightS s := fun a b c d e => ⟨a, b, c, d, e⟩
  generalize TreeR s = P1 at *
  generalize OpensR s = P2 at *
  generalize LocksR s = P3 at *
  generalize WorksR s = P4 at *
  generalize SeatsR s = P5 at *
  generalize RightS s = R at *
  unfold staV at h1 h2 h3 h4 h5 ⊢
  obtain ⟨sb, sn, t, so, sl, sw, ss⟩ := s
  obtain ⟨tA, tc, oA, oc, lA, lc, lv, wA, wc, sA, sc⟩ := p
  simp only at k0 bx h1 h2 h3 h4 h5 ⊢
  have KB := fun W kW => bx.at (S := []) (w' := W) kW (by simp)
  simp only at KB
  obtain ⟨c0, c1, c2, c3, c4, c5, c6⟩ := KB _ (Only.refl _ _)
  replace KB := Lib.hid KB
  replace h1 := Lib.hid h1
  replace h2 := Lib.hid h2
  replace h3 := Lib.hid h3
  replace h4 := Lib.hid h4
  replace h5 := Lib.hid h5
  replace n1 := Lib.hid n1
  replace n2 := Lib.hid n2
  replace n3 := Lib.hid n3
  replace n4 := Lib.hid n4
  replace n5 := Lib.hid n5
  replace yes := Lib.hid yes
  clear h bx
  go_enter Tryz.func12, Tryz.ntmps12
  go_wp2_with fail
  refine (h1.out _ k0).mono ?_; rintro e w1 ⟨hs, k1⟩
  clear c0 c1 c2 c3 c4 c5 c6
  obtain ⟨c0, c1, c2, c3, c4, c5, c6⟩ := KB.out _ k1
  rcases says_bool hs with ⟨p1, rfl⟩ | ⟨p1, rfl⟩
  rotate_left
  · have hn := Lib.hid (n1.out p1)
    clear n1 n2 n3 n4 n5 yes p1 hs
    go_wp2
    go_ret
    exact ⟨Says.no hn.out, k0.trans k1⟩
  replace p1 := Lib.hid p1
  clear hs
  go_wp2_with fail
  refine (h2.out _ (k0.trans k1)).mono ?_; rintro e w2 ⟨hs, k2⟩
  replace k2 := k1.trans k2
  clear c0 c1 c2 c3 c4 c5 c6
  obtain ⟨c0, c1, c2, c3, c4, c5, c6⟩ := KB.out _ k2
  rcases says_bool hs with ⟨p2, rfl⟩ | ⟨p2, rfl⟩
  rotate_left
  · have hn := Lib.hid (n2.out p2)
    clear n1 n2 n3 n4 n5 yes p2 hs
    go_wp2
    go_ret
    exact ⟨Says.no hn.out, k0.trans k2⟩
  replace p2 := Lib.hid p2
  clear hs
  go_wp2_with fail
  refine (h3.out _ (k0.trans k2)).mono ?_; rintro e w3 ⟨hs, k3⟩
  replace k3 := k2.trans k3
  clear c0 c1 c2 c3 c4 c5 c6
  obtain ⟨c0, c1, c2, c3, c4, c5, c6⟩ := KB.out _ k3
  rcases says_bool hs with ⟨p3, rfl⟩ | ⟨p3, rfl⟩
  rotate_left
  · have hn := Lib.hid (n3.out p3)
    clear n1 n2 n3 n4 n5 yes p3 hs
    go_wp2
    go_ret
    exact ⟨Says.no hn.out, k0.trans k3⟩
  replace p3 := Lib.hid p3
  clear hs
  go_wp2_with fail
  refine (h4.out _ (k0.trans k3)).mono ?_; rintro e w4 ⟨hs, k4⟩
  replace k4 := k3.trans k4
  clear c0 c1 c2 c3 c4 c5 c6
  obtain ⟨c0, c1, c2, c3, c4, c5, c6⟩ := KB.out _ k4
  rcases says_bool hs with ⟨p4, rfl⟩ | ⟨p4, rfl⟩
  rotate_left
  · have hn := Lib.hid (n4.out p4)
    clear n1 n2 n3 n4 n5 yes p4 hs
    go_wp2
    go_ret
    exact ⟨Says.no hn.out, k0.trans k4⟩
  replace p4 := Lib.hid p4
  clear hs
  go_wp2_with fail
  refine (h5.out _ (k0.trans k4)).mono ?_; rintro e w5 ⟨hs, k5⟩
  replace k5 := k4.trans k5
  rcases says_bool hs with ⟨p5, rfl⟩ | ⟨p5, rfl⟩
  rotate_left
  · have hn := Lib.hid (n5.out p5)
    clear n1 n2 n3 n4 n5 yes p5 hs
    go_wp2
    go_ret
    exact ⟨Says.no hn.out, k0.trans k5⟩
  have hy := Lib.hid (yes.out p1.out p2.out p3.out p4.out p5)
  clear n1 n2 n3 n4 n5 yes hs
  replace p5 := Lib.hid p5
  go_wp2
  go_ret
  exact ⟨Says.yes hy.out, k0.trans k5⟩

end Go.Proofs.YtalkhhjfplahkaaGreat
