/- The document's device: New, and an act of it. -/
import Derived.Test.YtihoebmfanelkaaRef3
namespace Go.Proofs.Ytihoebmfanelkaa
open Go.RowKit

theorem strCells_rep (k : Nat) (b : List UInt8) : strCells (List.replicate k b) ++ [.string (strOf b)] = strCells (List.replicate (k + 1) b) := by
  rw [List.replicate_succ']
  simp [strCells]

set_option maxRecDepth 100000 in
set_option maxHeartbeats 2000000 in
theorem rnew_any (w : World) (N : Nat) (h1 : 1 ≤ N) (h2 : N ≤ 1024) :
    Calls Try.prog 11 #[.int .i64 (N : Int)] w fun e w' => ∃ p G, e = .returned (.pointer (some ⟨p, 0, none⟩)) ∧ Ref w' p G (fresh N) ∧ Only [] w w' ∧ ∀ i ∈ G, w.heap.size ≤ i ∧ i < w'.heap.size := by
  obtain ⟨ti, ht1, ht2, ht3, ht4⟩ := info_parts info_text
  replace ht1 := Lib.hid ht1
  replace ht2 := Lib.hid ht2
  replace ht3 := Lib.hid ht3
  replace ht4 := Lib.hid ht4
  obtain ⟨p, hp⟩ : ∃ p, p = w.heap.size := ⟨_, rfl⟩
  have b0 : Blk (w.alloc (.cells #[.slice none 0 0, .slice none 0 0, .int .i64 (-1), .bool false] 44)) p 44 #[.slice none 0 0, .slice none 0 0, .int .i64 (-1), .bool false] := by rw [hp]; exact Blk.new w _ _
  have k0 : Only [] w (w.alloc (.cells #[.slice none 0 0, .slice none 0 0, .int .i64 (-1), .bool false] 44)) := (Only.refl [] w).alloc _
  have hpw : w.heap.size ≤ p := by omega
  go_enter Try.func11, Try.ntmps11
  go_wp2_with fail
  rw [← hp]
  generalize w.alloc (.cells #[.slice none 0 0, .slice none 0 0, .int .i64 (-1), .bool false] 44) = W at *
  replace hp := Lib.hid hp
  go_loopw [5] (fun i wr => ∃ k : Nat, k ≤ N ∧ i = .int .i64 k ∧ ∃ vf, Blk wr p 44 #[vf, .slice none 0 0, .int .i64 (-1), .bool false] ∧ wr.ownsRow 0 9 1 vf k (strCells (List.replicate k (rep 256 0))) ∧ vf.ownBlock ≠ some p ∧ (∀ g, vf.ownBlock = some g → w.heap.size ≤ g) ∧ Only [] w wr) (fun i _ => N - (intOf i).toNat)
  case atStart => exact ⟨0, Nat.zero_le _, rfl, .slice none 0 0, b0, World.ownsRow_nil _ 0 _ 1, by simp [Value.ownBlock], by simp [Value.ownBlock], k0⟩
  case round =>
    clear b0 k0
    obtain ⟨k, hk, rfl, vf, hb, hown, hne, hnew, hkept⟩ := hrel
    by_cases hlt : k < N
    · have t0 := hb.cell 0
      simp only [List.getElem?_toArray, List.getElem?_cons_zero] at t0
      obtain ⟨x, hx⟩ : ∃ x, x = strOf (rep 256 0) := ⟨_, rfl⟩
      have hnot : ∀ W, Calls Try.prog 27 #[] W fun e w' => e = .returned (.string x) ∧ Only [] W w' := fun W => by rw [hx]; exact noughts_any W
      have hone : ∀ u ∈ [Value.string x], u.oneCell' = true := by
        intro u hu
        simp at hu
        subst hu
        rfl
      replace hnot := Lib.hid hnot
      replace hx := Lib.hid hx
      go_wp2_with fail
      go_region_law (first
        | (refine step_append_lies _ rfl (.tmp 22) (.tmp 24) 41 rfl 0 9 ti (.string ⟨#[]⟩) 1 16 Try.underlying41 ht1.out ht2.out ht3.out ht4.out rfl (by decide) vf k _ rfl owna ⟨wb.heap.size, 0, none⟩ 1 1 [.string x] rfl rfl news hone (by decide) (by unfold maxLen; omega) (by omega) (Nat.zero_le _) _ rfl ?_; intro g cp w5 hown5 hgrow hat hlt5; have b5 := (hgrow.block p bpa.lt (fun e => hne e.symm)).trans bpa; have e1 := (Blk.cell b5 0).trans ((Blk.cell bpa 0).symm.trans t2); have e2 := Blk.free b5 0)
        | (go_simp; go_at_call 27; refine (hnot.out _).mono ?_; rintro e wb ⟨rfl, kb⟩; replace kb := kb.undrew; have t1 := kb.cell t0 (by simp); have ka := kb.alloc (.cells #[.string x] 9); have t2 := ka.cell t0 (by simp); have owna := ownsRow_kept hown ka (by simp); have news := World.news_of_block (Blk.new wb 9 #[.string x]); have bpa := hb.kept ka (by simp)))
      all_goals
        have hown6 : w5.ownsRow 0 9 1 (.slice (some ⟨g, 0, none⟩) (k + 1) cp) (k + 1) (strCells (List.replicate (k + 1) (rep 256 0))) := by
          rw [← strCells_rep, ← hx.out]
          exact hown5
        have hgw : vf.ownBlock = some g ∨ w.heap.size ≤ g ∧ wr.heap.size ≤ g := by
          rcases hat with h | h
          · exact .inl h
          · have := ka.size
            have := hkept.size
            exact .inr (by omega)
        have hgp : g ≠ p := by
          rcases hgw with h | h
          · rintro rfl; exact hne h
          · have := hb.lt; omega
        have kset : Only [p] w5 (w5.setCell ⟨p, 0, none⟩ (.slice (some ⟨g, 0, none⟩) (k + 1) cp)) := Only.set w5 [p] (by simp) _
        have b6 := Blk.set b5 0 (.slice (some ⟨g, 0, none⟩) (k + 1) cp)
        simp only [List.setIfInBounds_toArray, List.set_cons_zero] at b6
        have own6 := ownsRow_kept' hown6 kset (by simpa [Value.ownBlock] using hgp)
        have k6 : Only [] w (w5.setCell ⟨p, 0, none⟩ (.slice (some ⟨g, 0, none⟩) (k + 1) cp)) := ((hkept.trans ka).grown hgrow (fun j hj => .inr (hnew j hj))).then kset (by simp; exact hpw)
        have hnew6 : ∀ g', (Value.slice (some ⟨g, 0, none⟩) (k + 1) cp).ownBlock = some g' → w.heap.size ≤ g' := by
          intro g' hg'
          simp only [Value.ownBlock, Option.some.injEq] at hg'
          subst hg'
          rcases hgw with h | h
          · exact hnew _ h
          · exact h.1
        replace b6 := Lib.hid b6
        replace own6 := Lib.hid own6
        replace k6 := Lib.hid k6
        replace hnew6 := Lib.hid hnew6
        clear hown5 hown6 hgrow hat b5 bpa kset owna news t0 t1 t2 hb hown hnew hgw
        go_wp2
        go_roundw
        case rel => exact ⟨k + 1, by omega, by go_num, _, b6.out, own6.out, by simpa [Value.ownBlock] using hgp, hnew6.out, k6.out⟩
        case measure => simp [intOf]; omega
    · have hkN : k = N := by omega
      have hge : (N : Int) ≤ k := by omega
      have hfin : ∃ G, Ref wr p G (fresh N) ∧ ∀ i ∈ G, w.heap.size ≤ i ∧ i < wr.heap.size := by
        subst hkN
        refine ⟨p :: vf.ownBlock.toList, ⟨vf, .slice none 0 0, hb, ?_, World.ownsRow_nil _ 0 _ 2, ⟨hne, by simp [Value.ownBlock], by simp [Value.ownBlock]⟩, ⟨by simp, fun g hg => by simp [hg], by simp [Value.ownBlock]⟩, fresh_fine k h1 h2⟩, fun i hi => ?_⟩
        · rw [fresh_firm]
          exact hown
        · simp at hi
          rcases hi with rfl | hi
          · exact ⟨hpw, hb.lt⟩
          · exact ⟨hnew i hi, (hown.lt i hi).2⟩
      obtain ⟨G, hr, hG⟩ := hfin
      replace hr := Lib.hid hr
      replace hG := Lib.hid hG
      clear hb hown
      go_wp2
      go_ret
      exact ⟨p, G, rfl, hr.out, hkept, hG.out⟩

end Go.Proofs.Ytihoebmfanelkaa
