/- How a client holds: the program's Mode, the document's; a new file's lock; locks compared. -/
import Derived.Test.YtnmmdnecojgccaaRg12
import Derived.Test.YtnmmdnecojgccaaJoin12
namespace Go.Proofs.Ytnmmdnecojgccaa
open Go.RowKit
set_option linter.unusedVariables false

set_option maxRecDepth 100000 in
set_option maxHeartbeats 4000000 in
theorem mode_of (w : World) (L : Lk) (A : Option Addr) (c : Nat) (cl : Int) (hb : Els holE 2 w A L.hs) (hl : L.hs.length ≤ 9223372036854775807) :
    Calls Try.prog 14 #[lkV L (.slice A L.hs.length c), .int .u32 cl] w fun e w' => e = .returned (.int .u32 (modeL L cl)) ∧ Only [] w w' := by
  have hR := fun W (k : Only [] w W) => right_any W L A c (hb.kept k (by simp)) hl
  unfold modeL
  by_cases hr : RightP L
  rotate_left
  · rw [if_neg hr]
    rw [decide_eq_false hr] at hR
    obtain ⟨f, ep, u, ct, fe, go, l⟩ := L
    have k1 := (Only.refl [] w).alloc (.cells #[.int .u32 f, .int .u32 ep, .int .u32 u, .int .u32 ct, .bool fe, .bool go, .slice A l.length c] 25)
    simp only [lkV] at hR ⊢
    replace hR := Lib.hid hR
    replace hr := Lib.hid hr
    go_enter Try.func14, Try.ntmps14
    go_wp2_with fail
    refine (hR.out _ k1).mono ?_; rintro e w1 ⟨rfl, k2⟩
    go_wp2
    go_ret
    exact ⟨rfl, k1.trans k2⟩
  rw [if_pos hr]
  rw [decide_eq_true hr] at hR
  have hlen := hr.len
  have hri := hr.rise
  have hP := fun W (k : Only [] w W) => place_any W L A c cl (hb.kept k (by simp)) hr.rise (by have := hr.len; omega)
  have hpos := fun x => findC_pos hri (c := cl) (x := x)
  obtain ⟨f, ep, u, ct, fe, go, l⟩ := L
  have k1 := (Only.refl [] w).alloc (.cells #[.int .u32 f, .int .u32 ep, .int .u32 u, .int .u32 ct, .bool fe, .bool go, .slice A l.length c] 25)
  have b1 := Lx.new w f ep u ct fe go l (.slice A l.length c)
  simp only at hb hlen hpos
  simp only [lkV] at hR hP ⊢
  replace hR := Lib.hid hR
  replace hr := Lib.hid hr
  clear hl hri
  cases hf : findC l cl with
  | none =>
    rw [modeH_none hf]
    rw [hf] at hP
    replace hP := Lib.hid hP
    replace hf := Lib.hid hf
    clear hpos
    go_enter Try.func14, Try.ntmps14
    go_wp2_with fail
    refine (hR.out _ k1).mono ?_; rintro e w1 ⟨rfl, k2⟩
    obtain ⟨c0, c1, c2, c3, c4, c5, c6⟩ := b1.at k2 (by simp)
    have k3 := k1.trans k2
    go_wp2_with fail
    refine (hP.out _ k3).mono ?_; rintro e w3 ⟨rfl, k4⟩
    clear c0 c1 c2 c3 c4 c5 c6
    go_wp2
    go_ret
    exact ⟨rfl, k3.trans k4⟩
  | some x =>
    rw [modeH_some hf]
    have hx := hpos x hf
    rw [hf] at hP
    generalize posC l cl = p at *
    have hlt : p < l.length := (List.getElem?_eq_some_iff.1 hx).1
    obtain ⟨g, o, rfl, hg, hat⟩ := hb.get hlt
    have hat2 := fun W (k : Only [] w W) => (hols_at (hat.kept k (by simp)) hlt).2
    have hxe : l[p] = x := (List.getElem?_eq_some_iff.1 hx).2
    simp only [hxe] at hat2
    obtain ⟨x0, x1⟩ := x
    simp only at hat2 ⊢
    have hpl : (p : Int) < (l.length : Int) := by omega
    replace hP := Lib.hid hP
    replace hf := Lib.hid hf
    replace hx := Lib.hid hx
    replace hxe := Lib.hid hxe
    clear hpos hat hb
    go_enter Try.func14, Try.ntmps14
    go_wp2_with fail
    refine (hR.out _ k1).mono ?_; rintro e w1 ⟨rfl, k2⟩
    obtain ⟨c0, c1, c2, c3, c4, c5, c6⟩ := b1.at k2 (by simp)
    have k3 := k1.trans k2
    go_wp2_with fail
    refine (hP.out _ k3).mono ?_; rintro e w3 ⟨rfl, k4⟩
    clear c0 c1 c2 c3 c4 c5 c6
    obtain ⟨c0, c1, c2, c3, c4, c5, c6⟩ := b1.at (k2.trans k4) (by simp)
    have e1 := hat2 _ (k3.trans k4)
    clear hat2
    go_wp2
    go_ret
    exact ⟨rfl, k3.trans k4⟩

set_option maxRecDepth 100000 in
set_option maxHeartbeats 4000000 in
theorem rmode_of (w : World) (L : Lk) (A : Option Addr) (c : Nat) (cl : Int) (hb : Els holE 2 w A L.hs) (hl : L.hs.length ≤ 1000) :
    Calls Try.prog 16 #[lkV L (.slice A L.hs.length c), .int .u32 cl] w fun e w' => e = .returned (.int .u32 (modeH L.hs cl)) ∧ Only [] w w' := by
  obtain ⟨f, ep, u, ct, fe, go, l⟩ := L
  have k1 := (Only.refl [] w).alloc (.cells #[.int .u32 f, .int .u32 ep, .int .u32 u, .int .u32 ct, .bool fe, .bool go, .slice A l.length c] 25)
  have b1 := Lx.new w f ep u ct fe go l (.slice A l.length c)
  simp only at hb hl
  simp only [lkV]
  obtain ⟨R, hR⟩ : ∃ R, R = modeH l cl := ⟨_, rfl⟩
  rw [← hR]
  have hst : ∀ n x, l[n]? = some x → findC (l.take n) cl = none → x.client = cl → R = x.mode := fun n x hx hn hc => by
    rw [hR]
    refine modeH_some ?_
    have h1 := List.take_append_drop (n + 1) l
    rw [get_snoc hx] at h1
    unfold findC at hn ⊢
    rw [← h1, List.find?_append, List.find?_append, hn]
    simp [isC, hc]
  have hen : findC l cl = none → R = 0 := fun h => by rw [hR]; exact modeH_none h
  have hnx : ∀ n x, l[n]? = some x → findC (l.take n) cl = none → x.client ≠ cl → findC (l.take (n + 1)) cl = none := fun n x hx hn hc => by
    refine findC_none_of fun y hy => ?_
    rw [get_snoc hx, List.mem_append, List.mem_singleton] at hy
    rcases hy with hy | rfl
    · exact findC_none hn y hy
    · exact hc
  clear hR
  replace hst := Lib.hid hst
  replace hen := Lib.hid hen
  replace hnx := Lib.hid hnx
  go_enter Try.func16, Try.ntmps16
  go_wp2_with fail
  generalize hwb : w.alloc (.cells #[.int .u32 f, .int .u32 ep, .int .u32 u, .int .u32 ct, .bool fe, .bool go, .slice A l.length c] 25) = wb at *
  replace hwb := Lib.hid hwb
  go_loopw [5] (fun i wr => ∃ n : Nat, n ≤ l.length ∧ i = .int .i64 n ∧ Hid (findC (l.take n) cl = none) ∧ Only [] wb wr) (fun i _ => l.length - (intOf i).toNat)
  case atStart => exact ⟨0, Nat.zero_le _, rfl, rfl, Only.refl _ _⟩
  case round =>
    obtain ⟨n, hn, rfl, hf, hk⟩ := hrel
    have hkw := k1.trans hk
    obtain ⟨c0, c1, c2, c3, c4, c5, c6⟩ := b1.at hk (by simp)
    by_cases hlt : n < l.length
    rotate_left
    · obtain rfl := hen.out (by have h := hf.out; rw [List.take_of_length_le (by omega)] at h; exact h)
      go_wp2
      go_ret
      exact ⟨rfl, hkw⟩
    obtain ⟨g, o, rfl, hg, hat⟩ := hb.get hlt
    obtain ⟨e0, e1⟩ := hols_at (hat.kept hkw (by simp)) hlt
    have hx : l[n]? = some l[n] := List.getElem?_eq_getElem hlt
    generalize l[n] = x at *
    have hsx := hst.out n x hx hf.out
    have hnxx := hnx.out n x hx hf.out
    obtain ⟨x0, x1⟩ := x
    simp only at e0 e1 hsx hnxx
    replace hx := Lib.hid hx
    clear hat
    by_cases hc : x0 = cl
    · obtain rfl := hsx hc
      have d1 : (x0 == cl) = true := by simpa using hc
      replace hc := Lib.hid hc
      clear hnxx hsx
      go_wp2
      go_ret
      exact ⟨rfl, hkw⟩
    · have hnx1 := Lib.hid (hnxx hc)
      have d1 : (x0 == cl) = false := by simpa using hc
      replace hc := Lib.hid hc
      clear hnxx hsx
      go_wp2_with fail
      go_roundw
      case rel => exact ⟨n + 1, by omega, by go_num, hnx1.out, hk⟩
      case measure => simp [intOf]; omega

theorem fresh_any (w : World) (x : Int) : Calls Try.prog 12 #[.int .u32 x] w fun e w' => e = .returned (lkV ⟨x, 1, 0, 0, false, false, []⟩ (.slice none 0 0)) ∧ Only [] w w' := by
  have bz := Lx.zero w
  have k1 := (Only.refl [] w).alloc (.cells #[.int .u32 0, .int .u32 0, .int .u32 0, .int .u32 0, .bool false, .bool false, .slice none 0 0] 25)
  go_enter Try.func12, Try.ntmps12
  go_wp2_with (refine wpList_store_lk ⟨x, 1, 0, 0, false, false, []⟩ noL (.slice none 0 0) _ rfl rfl _ _ rfl w.heap.size rfl rfl bz ?_; intro w5 b5 k5)
  refine bodyPost_ret (v := lkV ⟨x, 1, 0, 0, false, false, []⟩ (.slice none 0 0)) (results_lk rfl _ _ w.heap.size rfl _ _ b5) rfl ?_
  exact ⟨rfl, k1.far k5 (Nat.le_refl _)⟩

set_option maxRecDepth 100000 in
set_option maxHeartbeats 2000000 in
theorem rsame_yes (w : World) (L : Lk) (A B : Option Addr) (c d : Nat) (hA : Els holE 2 w A L.hs) (hB : Els holE 2 w B L.hs) (hl : L.hs.length ≤ 1024) :
    Calls Try.prog 11 #[lkV L (.slice A L.hs.length c), lkV L (.slice B L.hs.length d)] w fun e w' => e = .returned (.bool true) ∧ Only [] w w' := by
  obtain ⟨f, ep, u, ct, fe, go, l⟩ := L
  simp only at hA hB hl
  simp only [lkV]
  obtain ⟨n, hn⟩ : ∃ n, n = l.length := ⟨_, rfl⟩
  rw [← hn] at hl ⊢
  have k1 := ((Only.refl [] w).alloc (.cells #[.int .u32 f, .int .u32 ep, .int .u32 u, .int .u32 ct, .bool fe, .bool go, .slice A n c] 25)).alloc (.cells #[.int .u32 f, .int .u32 ep, .int .u32 u, .int .u32 ct, .bool fe, .bool go, .slice B n d] 25)
  have b1 := (Lx.new w f ep u ct fe go l (.slice A n c)).alloc (.cells #[.int .u32 f, .int .u32 ep, .int .u32 u, .int .u32 ct, .bool fe, .bool go, .slice B n d] 25)
  have b2 := Lx.new (w.alloc (.cells #[.int .u32 f, .int .u32 ep, .int .u32 u, .int .u32 ct, .bool fe, .bool go, .slice A n c] 25)) f ep u ct fe go l (.slice B n d)
  rw [show (w.alloc (.cells #[.int .u32 f, .int .u32 ep, .int .u32 u, .int .u32 ct, .bool fe, .bool go, .slice A n c] 25)).heap.size = w.heap.size + 1 by simp] at b2
  replace hn := Lib.hid hn
  go_enter Try.func11, Try.ntmps11
  go_wp2_with fail
  generalize hwb : (w.alloc (.cells #[.int .u32 f, .int .u32 ep, .int .u32 u, .int .u32 ct, .bool fe, .bool go, .slice A n c] 25)).alloc (.cells #[.int .u32 f, .int .u32 ep, .int .u32 u, .int .u32 ct, .bool fe, .bool go, .slice B n d] 25) = wb at *
  replace hwb := Lib.hid hwb
  go_loopw [5] (fun i wr => ∃ k : Nat, k ≤ n ∧ i = .int .i64 k ∧ Only [] wb wr) (fun i _ => n - (intOf i).toNat)
  case atStart => exact ⟨0, by omega, rfl, Only.refl _ _⟩
  case round =>
    obtain ⟨k, hk, rfl, ho⟩ := hrel
    obtain ⟨c0, c1, c2, c3, c4, c5, c6⟩ := b1.at ho (by simp)
    obtain ⟨d0, d1, d2, d3, d4, d5, d6⟩ := b2.at ho (by simp)
    by_cases hlt : k < n
    · have hk' : k < l.length := by have := hn.out; omega
      obtain ⟨g, o, rfl, _, hat⟩ := hA.get hk'
      obtain ⟨g', o', rfl, _, hat'⟩ := hB.get hk'
      obtain ⟨e0, e1⟩ := hols_at (hat.kept (k1.trans ho) (by simp)) hk'
      obtain ⟨f0, f1⟩ := hols_at (hat'.kept (k1.trans ho) (by simp)) hk'
      generalize l[k] = x at *
      obtain ⟨x0, x1⟩ := x
      simp only at e0 e1 f0 f1
      clear hat hat' hA hB
      go_wp2_with fail
      go_quiet (fail)
      go_wp2_with fail
      go_roundw
      case rel => exact ⟨k + 1, by omega, by go_num, ho.drewN _⟩
      case measure => simp [intOf]; omega
    · clear hA hB
      go_wp2
      go_ret
      exact ⟨rfl, k1.trans ho⟩
end Go.Proofs.Ytnmmdnecojgccaa
