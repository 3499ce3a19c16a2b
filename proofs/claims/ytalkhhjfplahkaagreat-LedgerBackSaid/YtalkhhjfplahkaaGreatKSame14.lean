/- Locks, states compared. -/
import Derived.Test.YtalkhhjfplahkaaGreatKLeq14
namespace Go.Proofs.YtalkhhjfplahkaaGreat
open Go.RowKit
set_option linter.unusedVariables false

set_option maxRecDepth 100000 in
set_option maxHeartbeats 8000000 in
theorem sameLock_any (w : World) (x y : Lv) (hx : Els holE 2 w x.A x.L.hs) (hy : Els holE 2 w y.A y.L.hs) (hl : x.L.hs.length ≤ 1048576) (hm : y.L.hs.length ≤ 1048576) :
    Calls Tryz.prog 26 #[lkV x.L (.slice x.A x.L.hs.length x.c), lkV y.L (.slice y.A y.L.hs.length y.c)] w fun e w' => Says (x.L = y.L) e ∧ Only [] w w' := by
  have hE := fun W (kW : Only [] w W) => equal_hol W x.A y.A x.c y.c x.L.hs y.L.hs (hx.kept kW (by simp)) (hy.kept kW (by simp)) hl hm
  have hiff : x.L = y.L ↔ (x.L.file = y.L.file ∧ x.L.epoch = y.L.epoch ∧ x.L.used = y.L.used ∧ x.L.cut = y.L.cut ∧ x.L.fenced = y.L.fenced ∧ x.L.gone = y.L.gone ∧ x.L.hs = y.L.hs) := by
    cases x.L; cases y.L; simp only [Lk.mk.injEq]
  generalize (x.L = y.L) = R at *
  obtain ⟨⟨x0, x1, x2, x3, x4, x5, xl⟩, xA, xd⟩ := x
  obtain ⟨⟨y0, y1, y2, y3, y4, y5, yl⟩, yA, yd⟩ := y
  simp only [lkV] at hE hiff ⊢
  generalize (xl = yl) = P at *
  have k0 : Only [] w ((w.alloc (.cells #[.int .u32 x0, .int .u32 x1, .int .u32 x2, .int .u32 x3, .bool x4, .bool x5, .slice xA xl.length xd] 45)).alloc (.cells #[.int .u32 y0, .int .u32 y1, .int .u32 y2, .int .u32 y3, .bool y4, .bool y5, .slice yA yl.length yd] 45)) := ((Only.refl [] w).alloc _).alloc _
  have hiff := Lib.hid hiff
  replace hE := Lib.hid hE
  clear hx hy hl hm
  by_cases h0 : x0 = y0
  rotate_left
  · have hn : Hid (¬ R) := fun r => h0 (hiff.out.1 r).1
    have d0 : (x0 == y0) = false := by simpa using h0
    replace h0 := Lib.hid h0
    go_enter Tryz.func26, Tryz.ntmps26
    go_wp2
    go_ret
    exact ⟨Says.no hn.out, k0⟩
  have d0 : (x0 == y0) = true := by simpa using h0
  replace h0 := Lib.hid h0
  by_cases h1 : x1 = y1
  rotate_left
  · have hn : Hid (¬ R) := fun r => h1 (hiff.out.1 r).2.1
    have d1 : (x1 == y1) = false := by simpa using h1
    replace h1 := Lib.hid h1
    go_enter Tryz.func26, Tryz.ntmps26
    go_wp2
    go_ret
    exact ⟨Says.no hn.out, k0⟩
  have d1 : (x1 == y1) = true := by simpa using h1
  replace h1 := Lib.hid h1
  by_cases h2 : x2 = y2
  rotate_left
  · have hn : Hid (¬ R) := fun r => h2 (hiff.out.1 r).2.2.1
    have d2 : (x2 == y2) = false := by simpa using h2
    replace h2 := Lib.hid h2
    go_enter Tryz.func26, Tryz.ntmps26
    go_wp2
    go_ret
    exact ⟨Says.no hn.out, k0⟩
  have d2 : (x2 == y2) = true := by simpa using h2
  replace h2 := Lib.hid h2
  by_cases h3 : x3 = y3
  rotate_left
  · have hn : Hid (¬ R) := fun r => h3 (hiff.out.1 r).2.2.2.1
    have d3 : (x3 == y3) = false := by simpa using h3
    replace h3 := Lib.hid h3
    go_enter Tryz.func26, Tryz.ntmps26
    go_wp2
    go_ret
    exact ⟨Says.no hn.out, k0⟩
  have d3 : (x3 == y3) = true := by simpa using h3
  replace h3 := Lib.hid h3
  by_cases h4 : x4 = y4
  rotate_left
  · have hn : Hid (¬ R) := fun r => h4 (hiff.out.1 r).2.2.2.2.1
    have d4 : (x4 == y4) = false := by simpa using h4
    replace h4 := Lib.hid h4
    go_enter Tryz.func26, Tryz.ntmps26
    go_wp2
    go_ret
    exact ⟨Says.no hn.out, k0⟩
  have d4 : (x4 == y4) = true := by simpa using h4
  replace h4 := Lib.hid h4
  by_cases h5 : x5 = y5
  rotate_left
  · have hn : Hid (¬ R) := fun r => h5 (hiff.out.1 r).2.2.2.2.2.1
    have d5 : (x5 == y5) = false := by simpa using h5
    replace h5 := Lib.hid h5
    go_enter Tryz.func26, Tryz.ntmps26
    go_wp2
    go_ret
    exact ⟨Says.no hn.out, k0⟩
  have d5 : (x5 == y5) = true := by simpa using h5
  replace h5 := Lib.hid h5
  have hi2 : Hid (R ↔ P) := ⟨fun r => (hiff.out.1 r).2.2.2.2.2.2, fun p => hiff.out.2 ⟨h0.out, h1.out, h2.out, h3.out, h4.out, h5.out, p⟩⟩
  go_enter Tryz.func26, Tryz.ntmps26
  go_wp2_with fail
  refine (hE.out _ k0).mono ?_; rintro e w1 ⟨hs, k1⟩
  obtain ⟨r, rfl, hr⟩ := hs
  replace hr := Lib.hid hr
  go_wp2
  go_ret
  exact ⟨⟨_, rfl, by rw [hi2.out]; exact hr.out⟩, k0.trans k1⟩

set_option maxRecDepth 100000 in
set_option maxHeartbeats 8000000 in
theorem equal_lks (w : World) (A B : Option Addr) (c d na nb : Nat) (l m : List Lv) (hna : na = l.length) (hnb : nb = m.length) (ha : Els lvE 7 w A l) (hb : Els lvE 7 w B m) (hl : l.length ≤ 1048576) (hm : m.length ≤ 1048576)
    (hla : ∀ x ∈ l, LvOk w x ∧ x.L.hs.length ≤ 1048576) (hlb : ∀ x ∈ m, LvOk w x ∧ x.L.hs.length ≤ 1048576) :
    Calls Tryz.prog 25 #[.slice A na c, .slice B nb d, .func (.func 26) #[] #[]] w fun e w' => Says (l.map (·.L) = m.map (·.L)) e ∧ Only [] w w' := by
  by_cases hne : na = nb
  rotate_left
  · have hn : Hid (¬ l.map (·.L) = m.map (·.L)) := fun h => hne (by have := congrArg List.length h; simp only [List.length_map] at this; omega)
    have d0 : ((na : Int) != (nb : Int)) = true := by simp; omega
    have d1 : ¬ (na : Int) = (nb : Int) := by omega
    clear ha hb hla hlb hna hnb hl hm hne
    go_enter Tryz.func25, Tryz.ntmps25
    go_wp2
    go_ret
    exact ⟨Says.no hn.out, Only.refl _ _⟩
  subst hne
  have hlI : (na : Int) ≤ 1048576 := by omega
  replace hna := Lib.hid hna
  replace hnb := Lib.hid hnb
  go_enter Tryz.func25, Tryz.ntmps25
  go_wp2_with fail
  go_loopw [17] (fun i wr => ∃ n : Nat, n ≤ na ∧ i = .int .i64 n ∧ Hid ((l.take n).map (·.L) = (m.take n).map (·.L)) ∧ Only [] w wr) (fun i _ => na - (intOf i).toNat)
  case atStart => exact ⟨0, Nat.zero_le _, rfl, rfl, Only.refl _ _⟩
  case round =>
    obtain ⟨n, hn, rfl, he, hk⟩ := hrel
    by_cases hlt : n < na
    rotate_left
    · have hy : Hid (l.map (·.L) = m.map (·.L)) := by
        have := he.out
        rwa [List.take_of_length_le (by have := hna.out; omega), List.take_of_length_le (by have := hnb.out; omega)] at this
      go_wp2
      go_ret
      exact ⟨Says.yes hy.out, hk⟩
    have hlt1 : n < l.length := by have := hna.out; omega
    have hlt2 : n < m.length := by have := hnb.out; omega
    obtain ⟨g, o, rfl, hg, hat⟩ := ha.get hlt1
    obtain ⟨g2, o2, rfl, hg2, hat2⟩ := hb.get hlt2
    obtain ⟨e0, e1, e2, e3, e4, e5, e6⟩ := lvs_at (hat.kept hk (by simp)) hlt1
    have hkx : Hid (∀ W, Only [] w W → _) := fun W kW => lvs_at (hat2.kept kW (by simp)) hlt2
    have hx : l[n]? = some l[n] := List.getElem?_eq_getElem hlt1
    have hy : m[n]? = some m[n] := List.getElem?_eq_getElem hlt2
    have ox := hla l[n] (List.getElem_mem hlt1)
    have oy := hlb m[n] (List.getElem_mem hlt2)
    generalize l[n] = x at *
    generalize m[n] = y at *
    have hS := fun W (kW : Only [] w W) => sameLock_any W x y (ox.1.els.kept kW (by simp)) (oy.1.els.kept kW (by simp)) ox.2 oy.2
    have hyes : x.L = y.L → (l.take (n + 1)).map (·.L) = (m.take (n + 1)).map (·.L) := fun e => by
      rw [map_take hx, map_take hy, he.out, e]
    have hno : ¬ x.L = y.L → ¬ l.map (·.L) = m.map (·.L) := fun e h => by
      have h1 : (l.map (·.L))[n]? = some x.L := by rw [List.getElem?_map, hx]; rfl
      have h2 : (m.map (·.L))[n]? = some y.L := by rw [List.getElem?_map, hy]; rfl
      rw [h, h2] at h1
      exact e (Option.some.inj h1).symm
    obtain ⟨⟨x0, x1, x2, x3, x4, x5, xl⟩, xA, xd⟩ := x
    obtain ⟨⟨y0, y1, y2, y3, y4, y5, yl⟩, yA, yd⟩ := y
    generalize hEL : ((⟨x0, x1, x2, x3, x4, x5, xl⟩ : Lk) = ⟨y0, y1, y2, y3, y4, y5, yl⟩) = E at *
    replace hEL := Lib.hid hEL
    have hkx2 := hkx.out
    simp only [lkV] at hS e0 e1 e2 e3 e4 e5 e6 hkx2
    have k1 := hk.alloc (.cells #[.int .u32 x0, .int .u32 x1, .int .u32 x2, .int .u32 x3, .bool x4, .bool x5, .slice xA xl.length xd] 45)
    have k2 := k1.alloc (.cells #[.int .u32 y0, .int .u32 y1, .int .u32 y2, .int .u32 y3, .bool y4, .bool y5, .slice yA yl.length yd] 45)
    obtain ⟨f0, f1, f2, f3, f4, f5, f6⟩ := hkx2 _ k1
    replace hS := Lib.hid hS
    replace hx := Lib.hid hx
    replace hy := Lib.hid hy
    replace hyes := Lib.hid hyes
    replace hno := Lib.hid hno
    replace ox := Lib.hid ox
    replace oy := Lib.hid oy
    clear hat hat2 ha hb hkx hkx2
    go_wp2_with fail
    refine (hS.out _ k2).mono ?_; rintro e w3 ⟨hs, k3⟩
    clear e0 e1 e2 e3 e4 e5 e6 f0 f1 f2 f3 f4 f5 f6
    rcases says_bool hs with ⟨hE, rfl⟩ | ⟨hE, rfl⟩
    · have hnx := Lib.hid (hyes.out hE)
      replace hE := Lib.hid hE
      clear hs
      go_wp2
      go_roundw
      case rel => exact ⟨n + 1, by omega, by go_num, hnx, k2.trans k3⟩
      case measure => simp [intOf]; omega
    · have hnx := Lib.hid (hno.out hE)
      replace hE := Lib.hid hE
      clear hs
      go_wp2
      go_ret
      exact ⟨Says.no hnx.out, k2.trans k3⟩

theorem sta_ext (s u : Sta) : s = u ↔ (s.boot = u.boot ∧ s.next = u.next ∧ s.tree = u.tree ∧ s.opens = u.opens ∧ s.locks = u.locks ∧ s.works = u.works ∧ s.seats = u.seats) := by
  cases s; cases u; simp only [Sta.mk.injEq]

set_option maxRecDepth 100000 in
set_option maxHeartbeats 8000000 in
theorem same_state (w : World) (s u : Sta) (p q : Sp) (h : StM w s p) (k : StM w u q) : Calls Tryz.prog 8 #[staV s p, staV u q] w fun e w' => Says (s = u) e ∧ Only [] w w' := by
  have h1 := fun W (kW : Only [] w W) => equal_nd W p.tA q.tA p.tc q.tc s.tree u.tree (h.tree.kept kW (by simp)) (k.tree.kept kW (by simp)) h.tl k.tl
  have h2 := fun W (kW : Only [] w W) => equal_op W p.oA q.oA p.oc q.oc s.opens u.opens (h.opens.kept kW (by simp)) (k.opens.kept kW (by simp)) h.ol k.ol
  have h3 := fun W (kW : Only [] w W) => equal_lks W p.lA q.lA p.lc q.lc s.locks.length u.locks.length p.lv q.lv h.llen k.llen (h.locks.kept kW (by simp)) (k.locks.kept kW (by simp)) (by rw [← h.llen]; exact h.ll) (by rw [← k.llen]; exact k.ll) (fun x hx => ⟨⟨(h.lvs x hx).els.kept kW (by simp), (h.lvs x hx).cap⟩, h.lh x hx⟩) (fun x hx => ⟨⟨(k.lvs x hx).els.kept kW (by simp), (k.lvs x hx).cap⟩, k.lh x hx⟩)
  have h4 := fun W (kW : Only [] w W) => equal_wk W p.wA q.wA p.wc q.wc s.works u.works (h.works.kept kW (by simp)) (k.works.kept kW (by simp)) h.wl k.wl
  have h5 := fun W (kW : Only [] w W) => equal_sea W p.sA q.sA p.sc q.sc s.seats u.seats (h.seats.kept kW (by simp)) (k.seats.kept kW (by simp)) h.sl k.sl
  rw [← h.lks, ← k.lks] at h3
  have hiff := sta_ext s u
  generalize (s = u) = R at *
  have b1 := Blk.new w 29 (staA s p)
  have b1x : Sx ((w.alloc (.cells (staA s p) 29)).alloc (.cells (staA u q) 29)) w.heap.size s p := b1.alloc _
  have b2x : Sx ((w.alloc (.cells (staA s p) 29)).alloc (.cells (staA u q) 29)) (w.heap.size + 1) u q := by
    have := Blk.new (w.alloc (.cells (staA s p) 29)) 29 (staA u q)
    rw [show (w.alloc (.cells (staA s p) 29)).heap.size = w.heap.size + 1 by simp] at this
    exact this
  have k0 : Only [] w ((w.alloc (.cells (staA s p) 29)).alloc (.cells (staA u q) 29)) := ((Only.refl [] w).alloc _).alloc _
  unfold staV
  unfold staA at b1x b2x k0
  clear b1
  have KA := fun W kW => b1x.at (S := []) (w' := W) kW (by simp)
  have KB := fun W kW => b2x.at (S := []) (w' := W) kW (by simp)
  clear b1x b2x h k
  obtain ⟨sb, sn, t, so, sl, sw, ss⟩ := s
  obtain ⟨tA, tc, oA, oc, lA, lc, lv, wA, wc, sA, sc⟩ := p
  obtain ⟨ub, un, ut, uo, ul, uw, us⟩ := u
  obtain ⟨qA, qc, pA, pc, mA, mc, mv, xA, xc, yA, yc⟩ := q
  simp only at h1 h2 h3 h4 h5 hiff k0 KA KB ⊢
  replace hiff := Lib.hid hiff
  generalize (t = ut) = P1 at *
  generalize (so = uo) = P2 at *
  generalize (sl = ul) = P3 at *
  generalize (sw = uw) = P4 at *
  generalize (ss = us) = P5 at *
  obtain ⟨c0, c1, c2, c3, c4, c5, c6⟩ := KA _ (Only.refl _ _)
  obtain ⟨d0, d1, d2, d3, d4, d5, d6⟩ := KB _ (Only.refl _ _)
  have KA := Lib.hid KA
  have KB := Lib.hid KB
  replace h1 := Lib.hid h1
  replace h2 := Lib.hid h2
  replace h3 := Lib.hid h3
  replace h4 := Lib.hid h4
  replace h5 := Lib.hid h5
  by_cases e0 : sb = ub
  rotate_left
  · have hn : Hid (¬ R) := fun r => e0 (hiff.out.1 r).1
    have z0 : (sb == ub) = false := by simpa using e0
    replace e0 := Lib.hid e0
    go_enter Tryz.func8, Tryz.ntmps8
    go_wp2
    go_ret
    exact ⟨Says.no hn.out, k0⟩
  have z0 : (sb == ub) = true := by simpa using e0
  replace e0 := Lib.hid e0
  by_cases e1 : sn = un
  rotate_left
  · have hn : Hid (¬ R) := fun r => e1 (hiff.out.1 r).2.1
    have z1 : (sn == un) = false := by simpa using e1
    replace e1 := Lib.hid e1
    go_enter Tryz.func8, Tryz.ntmps8
    go_wp2
    go_ret
    exact ⟨Says.no hn.out, k0⟩
  have z1 : (sn == un) = true := by simpa using e1
  replace e1 := Lib.hid e1
  go_enter Tryz.func8, Tryz.ntmps8
  go_wp2_with fail
  refine (h1.out _ k0).mono ?_; rintro e w1 ⟨hs, k1⟩
  clear c0 c1 c2 c3 c4 c5 c6 d0 d1 d2 d3 d4 d5 d6
  obtain ⟨c0, c1, c2, c3, c4, c5, c6⟩ := KA.out _ k1
  obtain ⟨d0, d1, d2, d3, d4, d5, d6⟩ := KB.out _ k1
  rcases says_bool hs with ⟨p1, rfl⟩ | ⟨p1, rfl⟩
  rotate_left
  · have hn : Hid (¬ R) := fun r => p1 (hiff.out.1 r).2.2.1
    replace p1 := Lib.hid p1
    clear hs
    go_wp2
    go_ret
    exact ⟨Says.no hn.out, k0.trans k1⟩
  replace p1 := Lib.hid p1
  clear hs
  go_wp2_with fail
  refine (h2.out _ (k0.trans k1)).mono ?_; rintro e w2 ⟨hs, k2⟩
  clear c0 c1 c2 c3 c4 c5 c6 d0 d1 d2 d3 d4 d5 d6
  replace k2 := k1.trans k2
  obtain ⟨c0, c1, c2, c3, c4, c5, c6⟩ := KA.out _ k2
  obtain ⟨d0, d1, d2, d3, d4, d5, d6⟩ := KB.out _ k2
  rcases says_bool hs with ⟨p2, rfl⟩ | ⟨p2, rfl⟩
  rotate_left
  · have hn : Hid (¬ R) := fun r => p2 (hiff.out.1 r).2.2.2.1
    replace p2 := Lib.hid p2
    clear hs
    go_wp2
    go_ret
    exact ⟨Says.no hn.out, k0.trans k2⟩
  replace p2 := Lib.hid p2
  clear hs
  go_wp2_with fail
  refine (h3.out _ (k0.trans k2)).mono ?_; rintro e w3 ⟨hs, k3⟩
  clear c0 c1 c2 c3 c4 c5 c6 d0 d1 d2 d3 d4 d5 d6
  replace k3 := k2.trans k3
  obtain ⟨c0, c1, c2, c3, c4, c5, c6⟩ := KA.out _ k3
  obtain ⟨d0, d1, d2, d3, d4, d5, d6⟩ := KB.out _ k3
  rcases says_bool hs with ⟨p3, rfl⟩ | ⟨p3, rfl⟩
  rotate_left
  · have hn : Hid (¬ R) := fun r => p3 (hiff.out.1 r).2.2.2.2.1
    replace p3 := Lib.hid p3
    clear hs
    go_wp2
    go_ret
    exact ⟨Says.no hn.out, k0.trans k3⟩
  replace p3 := Lib.hid p3
  clear hs
  go_wp2_with fail
  refine (h4.out _ (k0.trans k3)).mono ?_; rintro e w4 ⟨hs, k4⟩
  clear c0 c1 c2 c3 c4 c5 c6 d0 d1 d2 d3 d4 d5 d6
  replace k4 := k3.trans k4
  obtain ⟨c0, c1, c2, c3, c4, c5, c6⟩ := KA.out _ k4
  obtain ⟨d0, d1, d2, d3, d4, d5, d6⟩ := KB.out _ k4
  rcases says_bool hs with ⟨p4, rfl⟩ | ⟨p4, rfl⟩
  rotate_left
  · have hn : Hid (¬ R) := fun r => p4 (hiff.out.1 r).2.2.2.2.2.1
    replace p4 := Lib.hid p4
    clear hs
    go_wp2
    go_ret
    exact ⟨Says.no hn.out, k0.trans k4⟩
  replace p4 := Lib.hid p4
  clear hs
  go_wp2_with fail
  refine (h5.out _ (k0.trans k4)).mono ?_; rintro e w5 ⟨hs, k5⟩
  clear c0 c1 c2 c3 c4 c5 c6 d0 d1 d2 d3 d4 d5 d6
  replace k5 := k4.trans k5
  obtain ⟨c0, c1, c2, c3, c4, c5, c6⟩ := KA.out _ k5
  obtain ⟨d0, d1, d2, d3, d4, d5, d6⟩ := KB.out _ k5
  rcases says_bool hs with ⟨p5, rfl⟩ | ⟨p5, rfl⟩
  rotate_left
  · have hn : Hid (¬ R) := fun r => p5 (hiff.out.1 r).2.2.2.2.2.2
    replace p5 := Lib.hid p5
    clear hs
    go_wp2
    go_ret
    exact ⟨Says.no hn.out, k0.trans k5⟩
  replace p5 := Lib.hid p5
  clear hs
  have hy : Hid R := hiff.out.2 ⟨e0.out, e1.out, p1.out, p2.out, p3.out, p4.out, p5.out⟩
  go_wp2
  go_ret
  exact ⟨Says.yes hy.out, k0.trans k5⟩

end Go.Proofs.YtalkhhjfplahkaaGreat
