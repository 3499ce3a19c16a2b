/- The document's With, Without, Above. -/
import Derived.Test.YteiekfccfddmjaaDoorRem10
namespace Go.Proofs.YteiekfccfddmjaaDoor
open Go.RowKit

theorem Mine.joined {w w1 w2 : World} {v v' : Value} {l ys : List Nd} (h : Mine ndE 5 28 w w1 v l) (h1 : w2.ownsRow 0 28 5 v' (l.length + ys.length) (encs ndE (l ++ ys))) (h2 : w1.grownBy w2 v.ownBlock) (h3 : v'.ownBlock = v.ownBlock ∨ v'.ownBlock = some w1.heap.size) : Mine ndE 5 28 w w2 v' (l ++ ys) := by
  refine ⟨by rw [List.length_append]; exact h1, fun g hg => ?_, h.only.grown h2 (fun j hj => .inr (h.new j hj))⟩
  rcases h3 with h3 | h3
  · exact h.new g (by rw [← h3]; exact hg)
  · rw [h3] at hg
    injection hg with hg
    have := h.only.size
    omega
theorem Bx.els {w : World} {g : Nat} {x : Nd} (h : Bx w g x) : Els ndE 5 w (some ⟨g, 0, none⟩) [x] := by
  refine .inr ⟨g, 0, rfl, h.lt, fun i hi j v hv => ?_⟩
  obtain rfl : i = 0 := by simp at hi; omega
  have := Blk.cell h j
  rw [show 0 + 0 * 5 + j = j by omega, this, ← hv]
  simp [ndA, ndE]
theorem size_nd2 : ∀ w, (Go.sizeOf 28).run Tryd.prog w = .ok 5 w := size_nd'

set_option maxRecDepth 100000 in
set_option maxHeartbeats 4000000 in
theorem without_any (w : World) (A : Option Addr) (c : Nat) (l : List Nd) (k : Nat) (hb : Els ndE 5 w A l) (hc : l.length ≤ c) (hl : l.length ≤ 1000) (hk : k < l.length) :
    Calls Tryd.prog 58 #[.slice A l.length c, .int .i64 k] w fun e w' => MineAns w w' e (l.take k ++ l.drop (k + 1)) := by
  have hhd := run_head (P := Tryd.prog) 22 28 Tryd.underlying22 size_nd2 A l.length c k (k : Int) rfl (by omega)
  have htl := run_tail (P := Tryd.prog) 22 28 Tryd.underlying22 size_nd2 A l.length c (k + 1) ((k : Int) + 1) (by simp) (by omega)
  have h1 : Els ndE 5 w (tailA A c 0 5) (l.take k) := hb.head
  have h2 : Els ndE 5 w (tailA A c (k + 1) 5) (l.drop (k + 1)) := hb.tail hc (by omega)
  have n1 : (l.take k).length = k := by rw [List.length_take]; omega
  have n2 : (l.drop (k + 1)).length = l.length - (k + 1) := List.length_drop
  have hwr : IntKind.i64.wrap ((k : Int) + 1) = (k : Int) + 1 := wrap_one k (by omega)
  generalize l.take k = l1 at *
  generalize l.drop (k + 1) = l2 at *
  generalize tailA A c 0 5 = A1 at *
  generalize tailA A c (k + 1) 5 = A2 at *
  have m0 := Mine.start ndE 5 28 (Only.refl [] w)
  have hk9 : k ≤ 1000 := by omega
  replace hk := Lib.hid hk
  go_enter Tryd.func58, Tryd.ntmps58
  go_wp2_with (at_builtin; first
    | (refine wpList_append_any ndE_length (by decide) ndE_one rfl (.tmp 6) (.tmp 9) 22 rfl 28 _ 32 Tryd.underlying22 info_nd rfl _ 0 [] rfl m0.own A1 c l1 (by rw [n1]; exact rfl) h1 (by unfold maxLen; omega) (by omega) ?_
       intro vv w6 h6 g6 a6
       have m1 : Hid (Mine ndE 5 28 w w6 vv ([] ++ l1)) := m0.joined h6 g6 a6
       have h2' := h2.kept m1.out.only (by simp)
       rw [List.nil_append] at m1
       clear h6 g6 a6 m0 h1 h2 hhd hb)
    | (go_must (refine wpList_append_any ndE_length (by decide) ndE_one rfl (.tmp 11) (.tmp 15) 22 rfl 28 _ 32 Tryd.underlying22 info_nd rfl _ l1.length l1 rfl m1.out.own A2 (c - (k + 1)) l2 (by rw [n2]; exact rfl) h2' (by unfold maxLen; omega) (by omega) ?_)
       intro v2 w7 h7 g7 a7
       have m2 : Hid (Mine ndE 5 28 w w7 v2 (l1 ++ l2)) := m1.out.joined h7 g7 a7
       clear h7 g7 a7 m1 h2' htl))
  go_ret
  exact ⟨_, rfl, m2.out⟩

set_option maxRecDepth 100000 in
set_option maxHeartbeats 4000000 in
theorem with_any (w : World) (A : Option Addr) (c : Nat) (l : List Nd) (x : Nd) (hb : Els ndE 5 w A l) (hc : l.length ≤ c) (hl : l.length ≤ 1000) (hr : l.Pairwise (fun a b => a.id < b.id)) :
    Calls Tryd.prog 55 #[.slice A l.length c, ndV x] w fun e w' => MineAns w w' e (l.take (posN l x.id) ++ x :: l.drop (posN l x.id)) := by
  have hlI : (l.length : Int) ≤ 1000 := by omega
  obtain ⟨x0, x1, x2, x3, x4⟩ := x
  simp only
  have hyv : ndV ⟨x0, x1, x2, x3, x4⟩ = .agg #[.int .u32 x0, .int .u32 x1, .string (strOf x2), .bool x3, .int .u32 x4] := rfl
  rw [hyv]
  have hpo := posN_le l x0
  have hlt : ∀ j y, l[j]? = some y → (y.id < x0 ↔ j < posN l x0) := fun j y h => posN_iff hr h
  obtain ⟨po, hpq⟩ : ∃ po, po = posN l x0 := ⟨_, rfl⟩
  rw [← hpq] at hpo hlt ⊢
  clear hpq hr
  have hhd := run_head (P := Tryd.prog) 22 28 Tryd.underlying22 size_nd2 A l.length c po (po : Int) rfl (by omega)
  have htl := run_tail (P := Tryd.prog) 22 28 Tryd.underlying22 size_nd2 A l.length c po (po : Int) rfl (by omega)
  have h1 : Els ndE 5 w (tailA A c 0 5) (l.take po) := hb.head
  have h2 : Els ndE 5 w (tailA A c po 5) (l.drop po) := hb.tail hc hpo
  have n1 : (l.take po).length = po := by rw [List.length_take]; omega
  have n2 : (l.drop po).length = l.length - po := List.length_drop
  have hk0 : Only [] w (w.alloc (.cells #[.int .u32 x0, .int .u32 x1, .string (strOf x2), .bool x3, .int .u32 x4] 28)) := (Only.refl [] w).alloc _
  have bx := Bx.new w ⟨x0, x1, x2, x3, x4⟩
  simp only at bx
  generalize l.take po = l1 at *
  generalize l.drop po = l2 at *
  have n9 : l1.length ≤ 1000 ∧ l2.length ≤ 1000 := ⟨by omega, by omega⟩
  have n8 : l1.length = po := n1
  obtain ⟨n9, n7⟩ := n9
  replace n8 := Lib.hid n8
  replace hhd := Lib.hid hhd
  replace htl := Lib.hid htl
  replace h1 := Lib.hid h1
  replace h2 := Lib.hid h2
  replace n1 := Lib.hid n1
  replace n2 := Lib.hid n2
  replace hlt := Lib.hid hlt
  go_enter Tryd.func55, Tryd.ntmps55
  go_wp2_with fail
  generalize (w.alloc (.cells #[.int .u32 x0, .int .u32 x1, .string (strOf x2), .bool x3, .int .u32 x4] 28)) = w0 at *
  generalize w.heap.size = gx at *
  go_loopw [5] (fun i wr => ∃ k m : Nat, k ≤ po ∧ i = .int .i64 k ∧ wr = w0.drewN m) (fun i _ => po - (intOf i).toNat)
  case atStart => exact ⟨0, 0, by omega, rfl, rfl⟩
  case round =>
    obtain ⟨k, m, hk, rfl, rfl⟩ := hrel
    obtain ⟨c0, c1, c2, c3, c4⟩ := bx.cells
    try simp only at c0 c1 c2 c3 c4
    by_cases hlt2 : k < po
    · have hk' : k < l.length := by omega
      have hkI : (k : Int) < (l.length : Int) := by omega
      have hki := (hlt.out k _ (List.getElem?_eq_getElem hk')).2 hlt2
      obtain ⟨g, o, rfl, _, hat⟩ := hb.get hk'
      obtain ⟨d0, d1, d2, d3, d4⟩ := nds_at (hat.kept hk0 (by simp)) hk'
      generalize l[k] = f at *
      obtain ⟨f0, f1, f2, f3, f4⟩ := f
      simp only at d0 d1 d2 d3 d4 hki
      have hd1 : decide ((k : Int) < (l.length : Int)) = true := decide_eq_true hkI
      have hd2 : decide (f0 < x0) = true := decide_eq_true hki
      clear hat hb
      go_wp2_with fail
      go_quiet (fail)
      go_wp2_with fail
      go_roundw
      case rel => exact ⟨k + 1, _, by omega, by go_num, rfl⟩
      case measure => simp [intOf]; omega
    · obtain rfl : k = po := by omega
      have hex : ∀ (Q : Prop), (k < l.length → (∃ g o, A = some ⟨g, o, none⟩ ∧ w0.cell? ⟨g, o + k * 5, none⟩ = some (.int .u32 (l[k]!).id) ∧ decide ((l[k]!).id < x0) = false) → Q) → (k = l.length → Q) → Q := fun Q q1 q2 => by
        by_cases hkl : k < l.length
        · obtain ⟨g, o, hA, _, hat⟩ := hb.get hkl
          have d := (nds_at (hat.kept hk0 (by simp)) hkl).1
          have e : l[k]! = l[k] := by simp [hkl]
          have := hlt.out k _ (List.getElem?_eq_getElem hkl)
          exact q1 hkl ⟨g, o, hA, by rw [e]; exact d, by rw [e]; exact decide_eq_false (fun q => by have := this.1 q; omega)⟩
        · exact q2 (by omega)
      refine hex _ (fun hkl hq => ?_) (fun hkl => ?_)
      · obtain ⟨g, o, hA, d0, d1⟩ := hq
        have hkI : (k : Int) < (l.length : Int) := by omega
        have hd1 : decide ((k : Int) < (l.length : Int)) = true := decide_eq_true hkI
        generalize l[k]!.id = f0 at *
        clear hex hb
        go_wp2_with fail
        go_quiet (fail)
        replace hA := Lib.hid hA
        replace hhd := hhd.out
        replace htl := htl.out
        go_wp2_with (at_builtin; first
          | (refine wpList_append_any ndE_length (by decide) ndE_one rfl (.tmp 23) (.tmp 26) 22 rfl 28 _ 32 Tryd.underlying22 info_nd rfl _ 0 [] rfl (Mine.start ndE 5 28 (hk0.drewN _)).own (tailA A c 0 5) c l1 (by rw [n1.out]; exact rfl) (h1.out.kept (hk0.drewN _) (by simp)) (by unfold maxLen; omega) (by omega) ?_
             intro vv w6 h6 g6 a6
             have g6' : (w0.drewN _).grownBy w6 none := g6
             have k06 : Only [] w0 w6 := ((Only.refl [] w0).drewN _).grown g6' (fun j hj => by cases hj)
             have m1 : Hid (Mine ndE 5 28 w w6 vv ([] ++ l1)) := Lib.hid ((Mine.start ndE 5 28 (hk0.drewN _)).joined h6 g6 a6)
             have h2' := h2.out.kept m1.out.only (by simp)
             rw [List.nil_append] at m1
             obtain ⟨y0, y1, y2, y3, y4⟩ := (bx.kept k06 (by simp)).cells
             (try simp only at y0 y1 y2 y3 y4)
             have bn : Hid (Bx (w6.alloc (.cells #[.int .u32 x0, .int .u32 x1, .string (strOf x2), .bool x3, .int .u32 x4] 28)) w6.heap.size ⟨x0, x1, x2, x3, x4⟩) := Lib.hid (Bx.new w6 ⟨x0, x1, x2, x3, x4⟩)
             have kn : Only [] w6 (w6.alloc (.cells #[.int .u32 x0, .int .u32 x1, .string (strOf x2), .bool x3, .int .u32 x4] 28)) := (Only.refl [] w6).alloc _
             clear h6 g6 g6' a6 hhd k06)
          | (refine wpList_append_any ndE_length (by decide) ndE_one rfl (.tmp 28) (.tmp 30) 22 rfl 28 _ 32 Tryd.underlying22 info_nd rfl _ l1.length l1 rfl (m1.out.keep kn).own (some ⟨w6.heap.size, 0, none⟩) 1 [⟨x0, x1, x2, x3, x4⟩] rfl bn.out.els (by simp only [List.length_cons, List.length_nil]; unfold maxLen; omega) (by simp only [List.length_cons, List.length_nil]; omega) ?_
             intro v2 w7 h7 g7 a7
             have m2 : Hid (Mine ndE 5 28 w w7 v2 (l1 ++ [⟨x0, x1, x2, x3, x4⟩])) := (m1.out.keep kn).joined h7 g7 a7
             have n3 : (l1 ++ [(⟨x0, x1, x2, x3, x4⟩ : Nd)]).length = k + 1 := by simp only [List.length_append, List.length_cons, List.length_nil]; rw [n8.out]
             have h2'' := h2.out.kept m2.out.only (by simp)
             clear h7 g7 a7 m1 h2' bn kn y0 y1 y2 y3 y4)
          | (go_must (refine wpList_append_any ndE_length (by decide) ndE_one rfl (.tmp 32) (.tmp 35) 22 rfl 28 _ 32 Tryd.underlying22 info_nd rfl _ _ _ rfl m2.out.own (tailA A c k 5) (c - k) l2 (by rw [n2.out]; exact rfl) h2'' (by rw [n3]; unfold maxLen; omega) (by rw [n3]; omega) ?_)
             intro v3 w8 h8 g8 a8
             have m3 : Hid (Mine ndE 5 28 w w8 v3 ((l1 ++ [⟨x0, x1, x2, x3, x4⟩]) ++ l2)) := m2.out.joined h8 g8 a8
             clear h8 g8 a8 m2 h2'' htl))
        go_ret
        refine ⟨_, rfl, ?_⟩
        have := m3.out
        rwa [List.append_assoc] at this
      · have hkI : ¬ (k : Int) < (l.length : Int) := by omega
        have hd1 : decide ((k : Int) < (l.length : Int)) = false := decide_eq_false hkI
        have hk10 : k ≤ 1000 := by omega
        have hkN : ¬ k < l.length := by omega
        have hd1N : decide (k < l.length) = false := decide_eq_false hkN
        replace hkl := Lib.hid hkl
        clear hex hb
        go_wp2_with fail
        go_quiet (fail)
        replace hhd := hhd.out
        replace htl := htl.out
        go_wp2_with (at_builtin; first
          | (refine wpList_append_any ndE_length (by decide) ndE_one rfl (.tmp 23) (.tmp 26) 22 rfl 28 _ 32 Tryd.underlying22 info_nd rfl _ 0 [] rfl (Mine.start ndE 5 28 (hk0.drewN _)).own (tailA A c 0 5) c l1 (by rw [n1.out]; exact rfl) (h1.out.kept (hk0.drewN _) (by simp)) (by unfold maxLen; omega) (by omega) ?_
             intro vv w6 h6 g6 a6
             have g6' : (w0.drewN _).grownBy w6 none := g6
             have k06 : Only [] w0 w6 := ((Only.refl [] w0).drewN _).grown g6' (fun j hj => by cases hj)
             have m1 : Hid (Mine ndE 5 28 w w6 vv ([] ++ l1)) := Lib.hid ((Mine.start ndE 5 28 (hk0.drewN _)).joined h6 g6 a6)
             have h2' := h2.out.kept m1.out.only (by simp)
             rw [List.nil_append] at m1
             obtain ⟨y0, y1, y2, y3, y4⟩ := (bx.kept k06 (by simp)).cells
             (try simp only at y0 y1 y2 y3 y4)
             have bn : Hid (Bx (w6.alloc (.cells #[.int .u32 x0, .int .u32 x1, .string (strOf x2), .bool x3, .int .u32 x4] 28)) w6.heap.size ⟨x0, x1, x2, x3, x4⟩) := Lib.hid (Bx.new w6 ⟨x0, x1, x2, x3, x4⟩)
             have kn : Only [] w6 (w6.alloc (.cells #[.int .u32 x0, .int .u32 x1, .string (strOf x2), .bool x3, .int .u32 x4] 28)) := (Only.refl [] w6).alloc _
             clear h6 g6 g6' a6 hhd k06)
          | (refine wpList_append_any ndE_length (by decide) ndE_one rfl (.tmp 28) (.tmp 30) 22 rfl 28 _ 32 Tryd.underlying22 info_nd rfl _ l1.length l1 rfl (m1.out.keep kn).own (some ⟨w6.heap.size, 0, none⟩) 1 [⟨x0, x1, x2, x3, x4⟩] rfl bn.out.els (by simp only [List.length_cons, List.length_nil]; unfold maxLen; omega) (by simp only [List.length_cons, List.length_nil]; omega) ?_
             intro v2 w7 h7 g7 a7
             have m2 : Hid (Mine ndE 5 28 w w7 v2 (l1 ++ [⟨x0, x1, x2, x3, x4⟩])) := (m1.out.keep kn).joined h7 g7 a7
             have n3 : (l1 ++ [(⟨x0, x1, x2, x3, x4⟩ : Nd)]).length = k + 1 := by simp only [List.length_append, List.length_cons, List.length_nil]; rw [n8.out]
             have h2'' := h2.out.kept m2.out.only (by simp)
             clear h7 g7 a7 m1 h2' bn kn y0 y1 y2 y3 y4)
          | (go_must (refine wpList_append_any ndE_length (by decide) ndE_one rfl (.tmp 32) (.tmp 35) 22 rfl 28 _ 32 Tryd.underlying22 info_nd rfl _ _ _ rfl m2.out.own (tailA A c k 5) (c - k) l2 (by rw [n2.out]; exact rfl) h2'' (by rw [n3]; unfold maxLen; omega) (by rw [n3]; omega) ?_)
             intro v3 w8 h8 g8 a8
             have m3 : Hid (Mine ndE 5 28 w w8 v3 ((l1 ++ [⟨x0, x1, x2, x3, x4⟩]) ++ l2)) := m2.out.joined h8 g8 a8
             clear h8 g8 a8 m2 h2'' htl))
        go_ret
        refine ⟨_, rfl, ?_⟩
        have := m3.out
        rwa [List.append_assoc] at this
end Go.Proofs.YteiekfccfddmjaaDoor
