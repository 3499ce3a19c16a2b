/- The walk of DeviceSome. -/
import Derived.Test.YtohkfeolfemcnaaSome
import Derived.Test.YtohkfeolfemcnaaSizes
namespace Go.Proofs.Ytohkfeolfemcnaa
open Go.RowKit

theorem info_str : (Try.prog.info? 9).map (fun i => (i.zero, i.size, i.bytes)) = some (some (.string ⟨#[]⟩), 1, 16) := by kernel_rfl

set_option maxRecDepth 100000 in
set_option maxHeartbeats 4000000 in
theorem deviceSome_walk (w : World) (A : Option Addr) (c : Nat) (l : List Deed) (h : Acts w w.heap.size A l) (hl : l.length ≤ 9223372036854775807) (keep : Nat) (hkeep : keep < 18446744073709551616) :
    Calls Try.prog 6 #[.slice A l.length c, .int .u64 (keep : Int)] w fun e w' => e = .returned (.bool true) ∧ Only [] w w' := by
  have hc4 : clamp 4 = 4 := by decide
  obtain ⟨ti, ht1, ht2, ht3, ht4⟩ := info_parts info_str
  replace ht1 := Lib.hid ht1
  replace ht2 := Lib.hid ht2
  replace ht3 := Lib.hid ht3
  replace ht4 := Lib.hid ht4
  go_enter Try.func6, Try.ntmps6
  go_wp2_with fail
  refine (alive_any w).mono ?_
  rintro e w1 ⟨rfl, g1⟩
  go_wp2_with fail
  refine (Run.new w w1 4 (by decide) (by decide) g1).mono ?_
  rintro e w2 ⟨p, rfl, hr0⟩
  rw [hc4] at hr0
  go_wp2_with fail
  obtain ⟨q, hq⟩ : ∃ q, q = w2.heap.size := ⟨_, rfl⟩
  rw [← hq]
  have rq : RunQ w (w2.alloc (.cells #[.slice none 0 0, .slice none 0 0, .slice none 0 0, .slice none 0 0] 55)) [q] p (fresh 4) := hr0.q.turn ((Only.refl [] w2).alloc _) (fun i hi => by
    simp at hi
    subst hi
    refine ⟨.inr (by omega), by rw [hq]; simp⟩)
  have bq : May (w2.alloc (.cells #[.slice none 0 0, .slice none 0 0, .slice none 0 0, .slice none 0 0] 55)) [q] q (fun _ => .slice none 0 0) (fun j => if j < 0 then [rep 256 0] else []) := by
    refine ⟨by simp, by rw [hq]; exact Blk.new w2 _ _, fun k _ => ⟨World.ownsRow_nil _ 0 _ 1, by simp [Value.ownBlock], by simp [Value.ownBlock], by simp [Value.ownBlock]⟩⟩
  generalize w2.alloc (.cells #[.slice none 0 0, .slice none 0 0, .slice none 0 0, .slice none 0 0] 55) = W at *
  replace hq := Lib.hid hq
  go_loopw [7] (fun i wr => ∃ k : Nat, k ≤ 4 ∧ i = .int .i64 k ∧ ∃ Q V, May wr Q q V (fun j => if j < k then [rep 256 0] else []) ∧ RunQ w wr Q p (fresh 4)) (fun i _ => 4 - (intOf i).toNat)
  case atStart => exact ⟨0, by omega, rfl, [q], _, bq, rq⟩
  case round =>
    clear bq rq hr0
    obtain ⟨k, hk, rfl, Q, V, hm, hr⟩ := hrel
    by_cases hlt : k < 4
    · have t0 := hm.cell hlt
      have t1 := hm.2.1.free k
      obtain ⟨hown, _, hVQ, _⟩ := hm.2.2 k hlt
      simp only [show ¬ k < k by omega, if_false] at hown
      have kd : Only [] wr wr.drew := (Only.refl [] wr).drew
      have hset := (hr.only kd).1.run.settled (k : Int)
      obtain ⟨_, _, f3⟩ := fresh_in 4 k (by omega)
      rw [f3] at hset
      obtain ⟨x, hx⟩ : ∃ x, x = strOf (rep 256 0) := ⟨_, rfl⟩
      rw [← hx] at hset
      replace hx := Lib.hid hx
      have ka : Only [] wr (wr.alloc (.cells #[.string x] 9)).drew   := ((Only.refl [] wr).alloc _).drew
      have t2 := ka.cell t0 (by simp)
      have owna := ownsRow_kept hown ka (by simp)
      have news := World.news_of_block ((Blk.new wr 9 #[.string x]).kept ((Only.refl [] _).drew) (by simp))
      have hone : ∀ u ∈ [Value.string x], u.oneCell' = true := by
        intro u hu
        simp at hu
        subst hu
        rfl
      have hqV : (V k).ownBlock ≠ some q := (hm.2.2 k hlt).2.1
      have hql : q < (wr.alloc (.cells #[.string x] 9)).drew.heap.size := Nat.lt_of_lt_of_le hm.2.1.lt ka.size
      have hbqa : Blk (wr.alloc (.cells #[.string x] 9)).drew q 55 #[V 0, V 1, V 2, V 3] := hm.2.1.kept ka (by simp)
      replace hset := Lib.hid hset
      go_wp2_with fail
      go_region_law (first
        | (refine step_append_lies _ rfl (.tmp 29) (.tmp 33) 35 rfl 0 9 ti (.string ⟨#[]⟩) 1 16 Try.underlying35 ht1.out ht2.out ht3.out ht4.out rfl (by decide) (V k) 0 [] rfl owna ⟨wr.heap.size, 0, none⟩ 1 1 [.string x] rfl rfl news hone (by decide) (by decide) (by decide) (Nat.zero_le _) _ rfl ?_; intro g cp w5 hown5 hgrow hat hlt5; have b5 := (hgrow.block q hql (fun e => hqV e.symm)).trans hbqa; have e1 := (Blk.cell b5 k).trans ((Blk.cell hbqa k).symm.trans t2); have e2 := Blk.free b5 k)
        | (go_simp; go_at_call 19; refine hset.out.mono ?_; rintro e w' ⟨rfl, rfl⟩))
      all_goals
        obtain ⟨Q2, hm2, hr2, _⟩ := May.grow (l := [rep 256 0]) hm hr hlt ka (by simpa [strCells, hx.out] using hown5) hgrow hat hlt5
        rw [first_put] at hm2
        replace hm2 := Lib.hid hm2
        replace hr2 := Lib.hid hr2
        clear hown5 hgrow hat b5 e1 e2 hm hr hset owna news t0 t1 t2 hbqa
        go_wp2
        go_roundw
        case rel => exact ⟨k + 1, by omega, by go_num, _, _, hm2.out, hr2.out⟩
        case measure => simp [intOf]; omega
    · have hge : (4 : Int) ≤ k := by omega
      have hs0 := Lib.hid (might_begin k (by omega))
      generalize (fun j => if j < k then [rep 256 0] else []) = M0 at *
      clear hk
      go_wp2_with fail
      go_loopw [8] (fun i wr => ∃ k : Nat, k ≤ l.length ∧ k ≤ 100 ∧ i = .int .i64 k ∧ ∃ s Q V M, Might k s M ∧ May wr Q q V M ∧ RunQ w wr Q p s) (fun i _ => l.length - (intOf i).toNat)
      case atStart => exact ⟨0, by omega, by omega, rfl, _, Q, V, M0, hs0.out, hm, hr⟩
      case round =>
        clear hs0 hm hr
        obtain ⟨k, hk, hk2, rfl, s, Q, V, M, hs, hm, hr⟩ := hrel
        by_cases hlt : k < l.length ∧ k < 100
        · obtain ⟨hlt, hlt2⟩ := hlt
          obtain ⟨g, o, rfl, c0, c1, c2, c3⟩ := h.get hlt
          have hx := h.2 _ (List.getElem_mem hlt)
          generalize l[k] = x at *
          have hfew := hs.few
          have hlong : s.late.length < 1048576 := by omega
          obtain ⟨kind, at_, b, kp⟩ := x
          simp only at c0 c1 c2 c3
          have d0 := hr.cell c0
          have d1 := hr.cell c1
          have d2 := hr.cell c2
          have d3 := hr.cell c3
          obtain ⟨xq, hxq⟩ : ∃ xq, xq = wr.heap.size := ⟨_, rfl⟩
          obtain ⟨W1, hW1⟩ : ∃ W1, W1 = wr.alloc (.cells #[.int .i64 kind, .int .i64 at_, .int .u8 (b.toNat : Int), .int .u64 (kp : Int)] 33) := ⟨_, rfl⟩
          have kW : Only [] wr W1 := by rw [hW1]; exact (Only.refl [] wr).alloc _
          have bx : Blk W1 xq 33 #[.int .i64 kind, .int .i64 at_, .int .u8 (b.toNat : Int), .int .u64 (kp : Int)] := by rw [hW1, hxq]; exact Blk.new wr _ _
          have hQ0 : ∀ i ∈ Q, i < wr.heap.size := by
            obtain ⟨F, _, _, _, h4⟩ := id hr
            exact fun i hi => (h4 i hi).2
          have hxQ : xq ∉ Q := fun hm => by have := hQ0 _ hm; omega
          have hr1 : RunQ w W1 (xq :: Q) p s := hr.turn (kW.more (by simp)) (fun i hi => by
            simp at hi
            rcases hi with rfl | hi
            · exact ⟨.inr (by omega), bx.lt⟩
            · exact ⟨.inl hi, Nat.lt_of_lt_of_le (hQ0 i hi) kW.size⟩)
          have hm1 : May W1 (xq :: Q) q V M := (hm.kept (hr.only kW).2).wide (fun i hi => by simp [hi])
          have b0 := bx.cell 0
          have b1 := bx.cell 1
          have b2 := bx.cell 2
          have b3 := bx.cell 3
          simp only [List.getElem?_toArray, List.getElem?_cons_zero, List.getElem?_cons_succ] at b0 b1 b2 b3
          have hdo := Lib.hid (hr1.do ⟨kind, at_, b, kp⟩ hx hlong)
          have hVQ : ∀ j, j < 4 → ∀ g, (V j).ownBlock = some g → g ∈ Q := fun j hj => (hm.2.2 j hj).2.2.1
          have hqQ := hm.1
          replace hVQ := Lib.hid hVQ
          clear hr1 hm hr hQ0 kW
          replace hW1 := Lib.hid hW1
          replace hxq := Lib.hid hxq
          go_wp2_with fail
          rw [← hW1.out, ← hxq.out]
          refine hdo.out.mono ?_
          rintro e w4 ⟨rfl, hr4, hk4⟩
          have bx4 := hk4.blk bx (by simp)
          have hm4 := hm1.kept hk4
          clear hk4 hm1 bx b0 b1 b2 b3 hdo
          have b0 := bx4.cell 0
          have b1 := bx4.cell 1
          have b2 := bx4.cell 2
          simp only [List.getElem?_toArray, List.getElem?_cons_zero, List.getElem?_cons_succ] at b0 b1 b2
          by_cases r0 : kind.tmod 5 = 0
          · by_cases er0 : actErr s ⟨kind, at_, b, kp⟩ = 0
            · obtain ⟨m, hatm, hm5, hs'⟩ := hs.write ⟨kind, at_, b, kp⟩ r0 er0
              simp only at hatm hs'
              subst hatm
              rw [er0]
              clear er0
              generalize actSt s ⟨kind, (m : Int), b, kp⟩ = t at *
              rw [addAt_put] at hs'
              replace hs' := Lib.hid hs'
              go_wp2_with fail
              have hown4 := (hm4.2.2 m hm5).1
              have hqV : (V m).ownBlock ≠ some q := (hm4.2.2 m hm5).2.1
              have hxV : (V m).ownBlock ≠ some xq := fun e => hxQ (hVQ.out m hm5 xq e)
              have hxq2 : xq ≠ q := fun e => hxQ (e ▸ hqQ)
              have hMm := hs.size m
              have hone : ∀ u ∈ [Value.string (strOf (rep 256 b))], u.oneCell' = true := by
                intro u hu
                simp at hu
                subst hu
                rfl
              have t0 := hm4.cell hm5
              have t0d : w4.drew.cell? ⟨q, m, none⟩ = some (V m) := t0
              refine wp_region_held_drew (S := fun w' => w'.cell? ⟨xq, 1, none⟩ = some (.int .i64 (m : Int)) ∧ w'.cell? ⟨xq, 2, none⟩ = some (.int .u8 (b.toNat : Int))) (by kernel_rfl) ⟨b1, b2⟩ (fun hHeld => ?_)
              refine held_take 0 (.pointer (some ⟨xq, 1, none⟩)) rfl (by kernel_rfl) (by kernel_rfl) (by kernel_rfl) (fun _ _ _ h => h) hHeld (Or.inl ⟨by rfl, fun w' hSw => by (try dsimp only at hSw); go_simp⟩) ?_
              simp only [Act.put, List.setIfInBounds_toArray, List.set_cons_zero, List.set_cons_succ]
              refine held_take 1 (.int .i64 (m : Int)) rfl (by kernel_rfl) (by kernel_rfl) (by kernel_rfl) (fun _ _ _ h => h) hHeld (Or.inl ⟨by rfl, fun w' hSw => by (try dsimp only at hSw); go_simp⟩) ?_
              simp only [Act.put, List.setIfInBounds_toArray, List.set_cons_zero, List.set_cons_succ]
              refine held_take 2 (.pointer (some ⟨xq, 1, none⟩)) rfl (by kernel_rfl) (by kernel_rfl) (by kernel_rfl) (fun _ _ _ h => h) hHeld (Or.inl ⟨by rfl, fun w' hSw => by (try dsimp only at hSw); go_simp⟩) ?_
              simp only [Act.put, List.setIfInBounds_toArray, List.set_cons_zero, List.set_cons_succ]
              refine held_take 3 (.int .i64 (m : Int)) rfl (by kernel_rfl) (by kernel_rfl) (by kernel_rfl) (fun _ _ _ h => h) hHeld (Or.inl ⟨by rfl, fun w' hSw => by (try dsimp only at hSw); go_simp⟩) ?_
              simp only [Act.put, List.setIfInBounds_toArray, List.set_cons_zero, List.set_cons_succ]
              refine held_take 4 (.pointer (some ⟨q, m, none⟩)) rfl (by kernel_rfl) (by kernel_rfl) (by kernel_rfl) (fun _ _ _ h => h) hHeld (Or.inl ⟨by rfl, fun w' hSw => by (try dsimp only at hSw); go_simp⟩) ?_
              simp only [Act.put, List.setIfInBounds_toArray, List.set_cons_zero, List.set_cons_succ]
              refine held_take 6 (.pointer (some ⟨xq, 2, none⟩)) rfl (by kernel_rfl) (by kernel_rfl) (by kernel_rfl) (fun _ _ _ h => h) hHeld (Or.inl ⟨by rfl, fun w' hSw => by (try dsimp only at hSw); go_simp⟩) ?_
              simp only [Act.put, List.setIfInBounds_toArray, List.set_cons_zero, List.set_cons_succ]
              refine held_take 7 (.int .u8 (b.toNat : Int)) rfl (by kernel_rfl) (by kernel_rfl) (by kernel_rfl) (fun _ _ _ h => h) hHeld (Or.inl ⟨by rfl, fun w' hSw => by (try dsimp only at hSw); go_simp⟩) ?_
              simp only [Act.put, List.setIfInBounds_toArray, List.set_cons_zero, List.set_cons_succ]
              refine held_step2 5 8 rfl rfl (by kernel_rfl) (fun K hK => ?_) (fun K hK => ?_)
              · go_simp
                refine hK.out _ _ hHeld (fun hHeld => ?_)
                clear hK K
                refine held_step 8 rfl (by kernel_rfl) (fun K hK => ?_)
                go_simp
                go_at_call 20
                refine (block_any _ b 256 (by decide)).mono ?_
                rintro e wb ⟨rfl, kb⟩
                replace kb := kb.undrew
                go_wp2_with fail
                refine hK.out _ _ ⟨kb.cell b1 (by simp), kb.cell b2 (by simp)⟩ (fun hHeld => ?_)
                clear hK K
                have t1 := kb.cell t0 (by simp)
                have ka := kb.alloc (.cells #[.string (strOf (rep 256 b))] 9)
                have t2 := ka.cell t0 (by simp)
                have sa : (wb.alloc (.cells #[.string (strOf (rep 256 b))] 9)).cell? ⟨xq, 1, none⟩ = some (.int .i64 (m : Int)) ∧ (wb.alloc (.cells #[.string (strOf (rep 256 b))] 9)).cell? ⟨xq, 2, none⟩ = some (.int .u8 (b.toNat : Int)) := ⟨ka.cell b1 (by simp), ka.cell b2 (by simp)⟩
                have owna := ownsRow_kept hown4 ka (by simp)
                have news := World.news_of_block (Blk.new wb 9 #[.string (strOf (rep 256 b))])
                have bqa := hm4.2.1.kept ka (by simp)
                refine held_step 9 rfl (by kernel_rfl) (fun K hK => ?_)
                go_simp
                refine hK.out _ _ sa (fun hHeld => ?_)
                clear hK K
                refine held_step 10 rfl (by kernel_rfl) (fun K hK => ?_)
                refine step_append_lies _ rfl (.tmp 77) (.tmp 81) 35 rfl 0 9 ti (.string ⟨#[]⟩) 1 16 Try.underlying35 ht1.out ht2.out ht3.out ht4.out rfl (by decide) (V m) (M m).length _ rfl owna ⟨wb.heap.size, 0, none⟩ 1 1 [.string (strOf (rep 256 b))] rfl rfl news hone (by decide) (by unfold maxLen; omega) (by omega) (Nat.zero_le _) _ rfl ?_
                intro g5 cp w5 hown5 hgrow hat hlt5
                obtain ⟨Q2, hm6, hr6, _⟩ := May.grow (l := M m ++ [rep 256 b]) hm4 hr4 hm5 ka (by
                  rw [← strCells_snoc]
                  simpa using hown5) hgrow hat hlt5
                have b5 := (hgrow.block q bqa.lt (fun e => hqV e.symm)).trans bqa
                have e1 := (Blk.cell b5 m).trans ((Blk.cell bqa m).symm.trans t2)
                have e2 := Blk.free b5 m
                have hxl : xq < (wb.alloc (.cells #[.string (strOf (rep 256 b))] 9)).heap.size := (bx4.kept ka (by simp)).lt
                have s5 : w5.cell? ⟨xq, 1, none⟩ = some (.int .i64 (m : Int)) ∧ w5.cell? ⟨xq, 2, none⟩ = some (.int .u8 (b.toNat : Int)) := ⟨(hgrow.cell_far ⟨xq, 1, none⟩ hxl (fun e => hxV e.symm)).trans sa.1, (hgrow.cell_far ⟨xq, 2, none⟩ hxl (fun e => hxV e.symm)).trans sa.2⟩
                refine hK.out _ _ s5 (fun hHeld => ?_)
                clear hK K
                simp only [Act.put, List.setIfInBounds_toArray, List.set_cons_zero, List.set_cons_succ]
                refine held_take 11 (.pointer (some ⟨q, m, none⟩)) rfl (by kernel_rfl) (by kernel_rfl) (by kernel_rfl) (fun _ _ _ h => h) hHeld (Or.inl ⟨by rfl, fun w' hSw => by (try dsimp only at hSw); go_simp⟩) ?_
                simp only [Act.put, List.setIfInBounds_toArray, List.set_cons_zero, List.set_cons_succ]
                refine held_step 12 rfl (by kernel_rfl) (fun K hK => ?_)
                have kset : Only [q] w5 (w5.setCell ⟨q, m, none⟩ (.slice (some ⟨g5, 0, none⟩) ((M m).length + 1) cp)) := Only.set w5 [q] (by simp) _
                have s6 : (w5.setCell ⟨q, m, none⟩ (.slice (some ⟨g5, 0, none⟩) ((M m).length + 1) cp)).cell? ⟨xq, 1, none⟩ = some (.int .i64 (m : Int)) ∧ (w5.setCell ⟨q, m, none⟩ (.slice (some ⟨g5, 0, none⟩) ((M m).length + 1) cp)).cell? ⟨xq, 2, none⟩ = some (.int .u8 (b.toNat : Int)) := ⟨kset.cell s5.1 (by simpa using hxq2), kset.cell s5.2 (by simpa using hxq2)⟩
                go_simp
                refine hK.out _ _ s6 (fun hHeld => ?_)
                clear hK K
                refine wpAnyH_done (by kernel_rfl) ?_ _
                replace hm6 := Lib.hid hm6
                replace hr6 := Lib.hid hr6
                clear hown5 hgrow hat b5 e1 e2 hm4 hr4 owna news t0 t0d t1 t2 bqa s5 s6 sa hHeld kset ka kb
                go_wp2
                go_roundw
                case rel => exact ⟨k + 1, by omega, by omega, by go_num, t, Q2, _, _, hs'.out, hm6.out, hr6.out⟩
                case measure => simp [intOf]; omega
              · go_simp
                go_at_call 20
                refine (block_any _ b 256 (by decide)).mono ?_
                rintro e wb ⟨rfl, kb⟩
                replace kb := kb.undrew
                go_wp2_with fail
                refine hK.out _ _ ⟨kb.cell b1 (by simp), kb.cell b2 (by simp)⟩ (fun hHeld => ?_)
                clear hK K
                have t1 := kb.cell t0 (by simp)
                have ka := kb.alloc (.cells #[.string (strOf (rep 256 b))] 9)
                have t2 := ka.cell t0 (by simp)
                have sa : (wb.alloc (.cells #[.string (strOf (rep 256 b))] 9)).cell? ⟨xq, 1, none⟩ = some (.int .i64 (m : Int)) ∧ (wb.alloc (.cells #[.string (strOf (rep 256 b))] 9)).cell? ⟨xq, 2, none⟩ = some (.int .u8 (b.toNat : Int)) := ⟨ka.cell b1 (by simp), ka.cell b2 (by simp)⟩
                have owna := ownsRow_kept hown4 ka (by simp)
                have news := World.news_of_block (Blk.new wb 9 #[.string (strOf (rep 256 b))])
                have bqa := hm4.2.1.kept ka (by simp)
                refine held_step2 5 9 rfl rfl (by kernel_rfl) (fun K hK => ?_) (fun K hK => ?_)
                · go_simp
                  refine hK.out _ _ hHeld (fun hHeld => ?_)
                  clear hK K
                  refine held_step 9 rfl (by kernel_rfl) (fun K hK => ?_)
                  go_simp
                  refine hK.out _ _ sa (fun hHeld => ?_)
                  clear hK K
                  refine held_step 10 rfl (by kernel_rfl) (fun K hK => ?_)
                  refine step_append_lies _ rfl (.tmp 77) (.tmp 81) 35 rfl 0 9 ti (.string ⟨#[]⟩) 1 16 Try.underlying35 ht1.out ht2.out ht3.out ht4.out rfl (by decide) (V m) (M m).length _ rfl owna ⟨wb.heap.size, 0, none⟩ 1 1 [.string (strOf (rep 256 b))] rfl rfl news hone (by decide) (by unfold maxLen; omega) (by omega) (Nat.zero_le _) _ rfl ?_
                  intro g5 cp w5 hown5 hgrow hat hlt5
                  obtain ⟨Q2, hm6, hr6, _⟩ := May.grow (l := M m ++ [rep 256 b]) hm4 hr4 hm5 ka (by
                    rw [← strCells_snoc]
                    simpa using hown5) hgrow hat hlt5
                  have b5 := (hgrow.block q bqa.lt (fun e => hqV e.symm)).trans bqa
                  have e1 := (Blk.cell b5 m).trans ((Blk.cell bqa m).symm.trans t2)
                  have e2 := Blk.free b5 m
                  have hxl : xq < (wb.alloc (.cells #[.string (strOf (rep 256 b))] 9)).heap.size := (bx4.kept ka (by simp)).lt
                  have s5 : w5.cell? ⟨xq, 1, none⟩ = some (.int .i64 (m : Int)) ∧ w5.cell? ⟨xq, 2, none⟩ = some (.int .u8 (b.toNat : Int)) := ⟨(hgrow.cell_far ⟨xq, 1, none⟩ hxl (fun e => hxV e.symm)).trans sa.1, (hgrow.cell_far ⟨xq, 2, none⟩ hxl (fun e => hxV e.symm)).trans sa.2⟩
                  refine hK.out _ _ s5 (fun hHeld => ?_)
                  clear hK K
                  simp only [Act.put, List.setIfInBounds_toArray, List.set_cons_zero, List.set_cons_succ]
                  refine held_take 11 (.pointer (some ⟨q, m, none⟩)) rfl (by kernel_rfl) (by kernel_rfl) (by kernel_rfl) (fun _ _ _ h => h) hHeld (Or.inl ⟨by rfl, fun w' hSw => by (try dsimp only at hSw); go_simp⟩) ?_
                  simp only [Act.put, List.setIfInBounds_toArray, List.set_cons_zero, List.set_cons_succ]
                  refine held_step 12 rfl (by kernel_rfl) (fun K hK => ?_)
                  have kset : Only [q] w5 (w5.setCell ⟨q, m, none⟩ (.slice (some ⟨g5, 0, none⟩) ((M m).length + 1) cp)) := Only.set w5 [q] (by simp) _
                  have s6 : (w5.setCell ⟨q, m, none⟩ (.slice (some ⟨g5, 0, none⟩) ((M m).length + 1) cp)).cell? ⟨xq, 1, none⟩ = some (.int .i64 (m : Int)) ∧ (w5.setCell ⟨q, m, none⟩ (.slice (some ⟨g5, 0, none⟩) ((M m).length + 1) cp)).cell? ⟨xq, 2, none⟩ = some (.int .u8 (b.toNat : Int)) := ⟨kset.cell s5.1 (by simpa using hxq2), kset.cell s5.2 (by simpa using hxq2)⟩
                  go_simp
                  refine hK.out _ _ s6 (fun hHeld => ?_)
                  clear hK K
                  refine wpAnyH_done (by kernel_rfl) ?_ _
                  replace hm6 := Lib.hid hm6
                  replace hr6 := Lib.hid hr6
                  clear hown5 hgrow hat b5 e1 e2 hm4 hr4 owna news t0 t0d t1 t2 bqa s5 s6 sa hHeld kset ka kb
                  go_wp2
                  go_roundw
                  case rel => exact ⟨k + 1, by omega, by omega, by go_num, t, Q2, _, _, hs'.out, hm6.out, hr6.out⟩
                  case measure => simp [intOf]; omega
                · go_simp
                  refine hK.out _ _ sa (fun hHeld => ?_)
                  clear hK K
                  refine held_step 5 rfl (by kernel_rfl) (fun K hK => ?_)
                  go_simp
                  refine hK.out _ _ sa (fun hHeld => ?_)
                  clear hK K
                  refine held_step 10 rfl (by kernel_rfl) (fun K hK => ?_)
                  refine step_append_lies _ rfl (.tmp 77) (.tmp 81) 35 rfl 0 9 ti (.string ⟨#[]⟩) 1 16 Try.underlying35 ht1.out ht2.out ht3.out ht4.out rfl (by decide) (V m) (M m).length _ rfl owna ⟨wb.heap.size, 0, none⟩ 1 1 [.string (strOf (rep 256 b))] rfl rfl news hone (by decide) (by unfold maxLen; omega) (by omega) (Nat.zero_le _) _ rfl ?_
                  intro g5 cp w5 hown5 hgrow hat hlt5
                  obtain ⟨Q2, hm6, hr6, _⟩ := May.grow (l := M m ++ [rep 256 b]) hm4 hr4 hm5 ka (by
                    rw [← strCells_snoc]
                    simpa using hown5) hgrow hat hlt5
                  have b5 := (hgrow.block q bqa.lt (fun e => hqV e.symm)).trans bqa
                  have e1 := (Blk.cell b5 m).trans ((Blk.cell bqa m).symm.trans t2)
                  have e2 := Blk.free b5 m
                  have hxl : xq < (wb.alloc (.cells #[.string (strOf (rep 256 b))] 9)).heap.size := (bx4.kept ka (by simp)).lt
                  have s5 : w5.cell? ⟨xq, 1, none⟩ = some (.int .i64 (m : Int)) ∧ w5.cell? ⟨xq, 2, none⟩ = some (.int .u8 (b.toNat : Int)) := ⟨(hgrow.cell_far ⟨xq, 1, none⟩ hxl (fun e => hxV e.symm)).trans sa.1, (hgrow.cell_far ⟨xq, 2, none⟩ hxl (fun e => hxV e.symm)).trans sa.2⟩
                  refine hK.out _ _ s5 (fun hHeld => ?_)
                  clear hK K
                  simp only [Act.put, List.setIfInBounds_toArray, List.set_cons_zero, List.set_cons_succ]
                  refine held_take 11 (.pointer (some ⟨q, m, none⟩)) rfl (by kernel_rfl) (by kernel_rfl) (by kernel_rfl) (fun _ _ _ h => h) hHeld (Or.inl ⟨by rfl, fun w' hSw => by (try dsimp only at hSw); go_simp⟩) ?_
                  simp only [Act.put, List.setIfInBounds_toArray, List.set_cons_zero, List.set_cons_succ]
                  refine held_step 12 rfl (by kernel_rfl) (fun K hK => ?_)
                  have kset : Only [q] w5 (w5.setCell ⟨q, m, none⟩ (.slice (some ⟨g5, 0, none⟩) ((M m).length + 1) cp)) := Only.set w5 [q] (by simp) _
                  have s6 : (w5.setCell ⟨q, m, none⟩ (.slice (some ⟨g5, 0, none⟩) ((M m).length + 1) cp)).cell? ⟨xq, 1, none⟩ = some (.int .i64 (m : Int)) ∧ (w5.setCell ⟨q, m, none⟩ (.slice (some ⟨g5, 0, none⟩) ((M m).length + 1) cp)).cell? ⟨xq, 2, none⟩ = some (.int .u8 (b.toNat : Int)) := ⟨kset.cell s5.1 (by simpa using hxq2), kset.cell s5.2 (by simpa using hxq2)⟩
                  go_simp
                  refine hK.out _ _ s6 (fun hHeld => ?_)
                  clear hK K
                  refine wpAnyH_done (by kernel_rfl) ?_ _
                  replace hm6 := Lib.hid hm6
                  replace hr6 := Lib.hid hr6
                  clear hown5 hgrow hat b5 e1 e2 hm4 hr4 owna news t0 t0d t1 t2 bqa s5 s6 sa hHeld kset ka kb
                  go_wp2
                  go_roundw
                  case rel => exact ⟨k + 1, by omega, by omega, by go_num, t, Q2, _, _, hs'.out, hm6.out, hr6.out⟩
                  case measure => simp [intOf]; omega
            · have hs' := Lib.hid (hs.unwritten ⟨kind, at_, b, kp⟩ r0 er0)
              obtain ⟨er, her⟩ : ∃ er, er = actErr s ⟨kind, at_, b, kp⟩ := ⟨_, rfl⟩
              rw [← her] at er0 ⊢
              replace her := Lib.hid her
              generalize actSt s ⟨kind, at_, b, kp⟩ = t at *
              replace hm4 := Lib.hid hm4
              replace hr4 := Lib.hid hr4
              go_wp2
              go_roundw
              case rel => exact ⟨k + 1, by omega, by omega, by go_num, t, _, V, M, hs'.out, hm4.out, hr4.out⟩
              case measure => simp [intOf]; omega
          · by_cases hset : (kind.tmod 5 = 1 ∧ actErr s ⟨kind, at_, b, kp⟩ = 0) ∨ kind.tmod 5 = 3
            · obtain ⟨t1, t2, t3⟩ := hs.settles ⟨kind, at_, b, kp⟩ hset
              rcases hset with ⟨r1, er0⟩ | r3
              · generalize actErr s ⟨kind, at_, b, kp⟩ = er at *
                generalize actSt s ⟨kind, at_, b, kp⟩ = t at *
                subst er0
                have hMs := hs.size
                clear hs
                go_wp2_with fail
                go_loopw [11] (fun i wr => ∃ j : Nat, j ≤ 4 ∧ i = .int .i64 j ∧ ∃ Q V M, May wr Q q V M ∧ RunQ w wr Q p t ∧ (∀ i, i < j → M i = [t.firm.getD i []]) ∧ ∀ i, (M i).length ≤ k + 2) (fun i _ => 4 - (intOf i).toNat)
                case atStart => exact ⟨0, by omega, rfl, _, V, M, hm4, hr4, by omega, fun i => by have := hMs i; omega⟩
                case round =>
                  clear hm4 hr4 hMs bx4 b0 b1 b2
                  obtain ⟨j, hj, rfl, Q2, V2, M2, hm5, hr5, hM5, hS5⟩ := hrel
                  by_cases hlt5 : j < 4
                  · have hrd := hr5.run.read (j : Int)
                    obtain ⟨f1, f2⟩ := calm_read t t1 t2 t3 j hlt5
                    rw [f1, f2] at hrd
                    obtain ⟨d, hd⟩ : ∃ d, d = t.firm.getD j [] := ⟨_, rfl⟩
                    rw [← hd] at hrd
                    have hM6 := Lib.hid (renew_first hd hM5)
                    have hS6 := Lib.hid (renew_size (j := j) (d := d) hS5)
                    replace hrd := Lib.hid hrd
                    have u0 := hm5.cell hlt5
                    have ka : Only [] wr ((wr.alloc (.cells #[] 9)).alloc (.cells #[.string (strOf d)] 9)) := ((Only.refl [] wr).alloc _).alloc _
                    have owna := ownsRow_kept (owns_empty wr 9) ((Only.refl [] _).alloc (.cells #[.string (strOf d)] 9)) (by simp)
                    have news := World.news_of_block (Blk.new (wr.alloc (.cells #[] 9)) 9 #[.string (strOf d)])
                    have news2 : ∀ j u, (#[Value.string (strOf d)]).toList[j]? = some u → ((wr.alloc (.cells #[] 9)).alloc (.cells #[.string (strOf d)] 9)).cell? ((⟨wr.heap.size + 1, 0, none⟩ : Addr).add j) = some u := by simpa using news
                    have hone : ∀ u ∈ [Value.string (strOf d)], u.oneCell' = true := by
                      intro u hu
                      simp at hu
                      subst hu
                      rfl
                    have hwq : q < wr.heap.size := hm5.2.1.lt
                    have bqa := hm5.2.1.kept ka (by simp)
                    have u2 := ka.cell u0 (by simp)
                    clear news hd f1 f2 hM5 hS5
                    go_wp2_with fail
                    refine hrd.out.mono ?_
                    rintro e w6 ⟨rfl, rfl⟩
                    go_wp2_with (at_builtin; refine wpList_append_lies _ rfl (.tmp 110) (.tmp 112) 35 rfl 0 9 ti (.string ⟨#[]⟩) 1 16 Try.underlying35 ht1.out ht2.out ht3.out ht4.out rfl (by decide) (.slice (some ⟨w6.heap.size, 0, none⟩) 0 0) 0 [] rfl owna ⟨w6.heap.size + 1, 0, none⟩ 1 1 [.string (strOf d)] rfl rfl news2 hone (by decide) (by decide) (by decide) (Nat.zero_le _) _ rfl ?go)
                    case go =>
                      intro g5 cp w5 hown5 hgrow hat hlt6
                      obtain ⟨Q3, hm6, hr6, _⟩ := May.renew (l := [d]) (g0 := w6.heap.size) hm5 hr5 hlt5 ka (by simpa [strCells] using hown5) (Nat.le_refl _) hgrow (by
                        rcases hat with e | e
                        · left
                          simpa [Value.ownBlock] using e
                        · exact .inr (by simpa using e)) hlt6
                      have b5 := (hgrow.block q bqa.lt (fun e => by
                        simp [Value.ownBlock] at e
                        omega)).trans bqa
                      have e1 := (Blk.cell b5 j).trans ((Blk.cell bqa j).symm.trans u2)
                      have e2 := Blk.free b5 j
                      replace hm6 := Lib.hid hm6
                      replace hr6 := Lib.hid hr6
                      clear hown5 hgrow hat b5 hm5 hr5 owna news2 u0 u2 bqa ka hrd
                      go_wp2
                      go_roundw
                      case rel => exact ⟨j + 1, by omega, by go_num, Q3, _, _, hm6.out, hr6.out, hM6.out, hS6.out⟩
                      case measure => simp [intOf]; omega
                  · have hge5 : (4 : Int) ≤ j := by omega
                    have hs' := Lib.hid (might_single t1 t3 (fun i hi => hM5 i (by omega)) hS5)
                    replace hm5 := Lib.hid hm5
                    replace hr5 := Lib.hid hr5
                    clear hM5 hS5
                    go_wp2
                    go_roundw
                    case rel => exact ⟨k + 1, by omega, by omega, by go_num, t, Q2, V2, M2, hs'.out, hm5.out, hr5.out⟩
                    case measure => simp [intOf]; omega
              · generalize actErr s ⟨kind, at_, b, kp⟩ = er at *
                generalize actSt s ⟨kind, at_, b, kp⟩ = t at *
                have hMs := hs.size
                clear hs
                go_wp2_with fail
                go_loopw [11] (fun i wr => ∃ j : Nat, j ≤ 4 ∧ i = .int .i64 j ∧ ∃ Q V M, May wr Q q V M ∧ RunQ w wr Q p t ∧ (∀ i, i < j → M i = [t.firm.getD i []]) ∧ ∀ i, (M i).length ≤ k + 2) (fun i _ => 4 - (intOf i).toNat)
                case atStart => exact ⟨0, by omega, rfl, _, V, M, hm4, hr4, by omega, fun i => by have := hMs i; omega⟩
                case round =>
                  clear hm4 hr4 hMs bx4 b0 b1 b2
                  obtain ⟨j, hj, rfl, Q2, V2, M2, hm5, hr5, hM5, hS5⟩ := hrel
                  by_cases hlt5 : j < 4
                  · have hrd := hr5.run.read (j : Int)
                    obtain ⟨f1, f2⟩ := calm_read t t1 t2 t3 j hlt5
                    rw [f1, f2] at hrd
                    obtain ⟨d, hd⟩ : ∃ d, d = t.firm.getD j [] := ⟨_, rfl⟩
                    rw [← hd] at hrd
                    have hM6 := Lib.hid (renew_first hd hM5)
                    have hS6 := Lib.hid (renew_size (j := j) (d := d) hS5)
                    replace hrd := Lib.hid hrd
                    have u0 := hm5.cell hlt5
                    have ka : Only [] wr ((wr.alloc (.cells #[] 9)).alloc (.cells #[.string (strOf d)] 9)) := ((Only.refl [] wr).alloc _).alloc _
                    have owna := ownsRow_kept (owns_empty wr 9) ((Only.refl [] _).alloc (.cells #[.string (strOf d)] 9)) (by simp)
                    have news := World.news_of_block (Blk.new (wr.alloc (.cells #[] 9)) 9 #[.string (strOf d)])
                    have news2 : ∀ j u, (#[Value.string (strOf d)]).toList[j]? = some u → ((wr.alloc (.cells #[] 9)).alloc (.cells #[.string (strOf d)] 9)).cell? ((⟨wr.heap.size + 1, 0, none⟩ : Addr).add j) = some u := by simpa using news
                    have hone : ∀ u ∈ [Value.string (strOf d)], u.oneCell' = true := by
                      intro u hu
                      simp at hu
                      subst hu
                      rfl
                    have hwq : q < wr.heap.size := hm5.2.1.lt
                    have bqa := hm5.2.1.kept ka (by simp)
                    have u2 := ka.cell u0 (by simp)
                    clear news hd f1 f2 hM5 hS5
                    go_wp2_with fail
                    refine hrd.out.mono ?_
                    rintro e w6 ⟨rfl, rfl⟩
                    go_wp2_with (at_builtin; refine wpList_append_lies _ rfl (.tmp 110) (.tmp 112) 35 rfl 0 9 ti (.string ⟨#[]⟩) 1 16 Try.underlying35 ht1.out ht2.out ht3.out ht4.out rfl (by decide) (.slice (some ⟨w6.heap.size, 0, none⟩) 0 0) 0 [] rfl owna ⟨w6.heap.size + 1, 0, none⟩ 1 1 [.string (strOf d)] rfl rfl news2 hone (by decide) (by decide) (by decide) (Nat.zero_le _) _ rfl ?go)
                    case go =>
                      intro g5 cp w5 hown5 hgrow hat hlt6
                      obtain ⟨Q3, hm6, hr6, _⟩ := May.renew (l := [d]) (g0 := w6.heap.size) hm5 hr5 hlt5 ka (by simpa [strCells] using hown5) (Nat.le_refl _) hgrow (by
                        rcases hat with e | e
                        · left
                          simpa [Value.ownBlock] using e
                        · exact .inr (by simpa using e)) hlt6
                      have b5 := (hgrow.block q bqa.lt (fun e => by
                        simp [Value.ownBlock] at e
                        omega)).trans bqa
                      have e1 := (Blk.cell b5 j).trans ((Blk.cell bqa j).symm.trans u2)
                      have e2 := Blk.free b5 j
                      replace hm6 := Lib.hid hm6
                      replace hr6 := Lib.hid hr6
                      clear hown5 hgrow hat b5 hm5 hr5 owna news2 u0 u2 bqa ka hrd
                      go_wp2
                      go_roundw
                      case rel => exact ⟨j + 1, by omega, by go_num, Q3, _, _, hm6.out, hr6.out, hM6.out, hS6.out⟩
                      case measure => simp [intOf]; omega
                  · have hge5 : (4 : Int) ≤ j := by omega
                    have hs' := Lib.hid (might_single t1 t3 (fun i hi => hM5 i (by omega)) hS5)
                    replace hm5 := Lib.hid hm5
                    replace hr5 := Lib.hid hr5
                    clear hM5 hS5
                    go_wp2
                    go_roundw
                    case rel => exact ⟨k + 1, by omega, by omega, by go_num, t, Q2, V2, M2, hs'.out, hm5.out, hr5.out⟩
                    case measure => simp [intOf]; omega
            · have hs' := Lib.hid (hs.rest ⟨kind, at_, b, kp⟩ r0 hset)
              have r3 : ¬ kind.tmod 5 = 3 := fun e => hset (.inr e)
              by_cases r1 : kind.tmod 5 = 1
              · have er0 : ¬ actErr s ⟨kind, at_, b, kp⟩ = 0 := fun e => hset (.inl ⟨r1, e⟩)
                clear hset
                obtain ⟨er, her⟩ : ∃ er, er = actErr s ⟨kind, at_, b, kp⟩ := ⟨_, rfl⟩
                rw [← her] at er0 ⊢
                replace her := Lib.hid her
                generalize actSt s ⟨kind, at_, b, kp⟩ = t at *
                replace hm4 := Lib.hid hm4
                replace hr4 := Lib.hid hr4
                go_wp2
                go_roundw
                case rel => exact ⟨k + 1, by omega, by omega, by go_num, t, _, V, M, hs'.out, hm4.out, hr4.out⟩
                case measure => simp [intOf]; omega
              · clear hset
                obtain ⟨er, her⟩ : ∃ er, er = actErr s ⟨kind, at_, b, kp⟩ := ⟨_, rfl⟩
                rw [← her]
                replace her := Lib.hid her
                generalize actSt s ⟨kind, at_, b, kp⟩ = t at *
                replace hm4 := Lib.hid hm4
                replace hr4 := Lib.hid hr4
                go_wp2
                go_roundw
                case rel => exact ⟨k + 1, by omega, by omega, by go_num, t, _, V, M, hs'.out, hm4.out, hr4.out⟩
                case measure => simp [intOf]; omega
        · have hcr := Lib.hid (hr.crash keep hkeep)
          have hlast := Lib.hid (fun (j : Nat) (hj : j < 4) => hs.last keep j hj)
          have hlate : (crashed s keep).late.length = 0 := rfl
          clear hr hs
          rcases (show (k < l.length ∧ (100 : Int) ≤ k) ∨ (l.length : Int) ≤ k by omega) with ⟨hge1, hge2⟩ | hge1
          all_goals
            go_wp2_with fail
            refine hcr.out.mono ?_
            rintro e w4 ⟨rfl, hr4, hk4⟩
            have hm4 := hm.kept hk4
            clear hk4 hcr
            generalize crashed s keep = t4 at *
            go_wp2_with fail
            go_loopw [14] (fun i wr => ∃ j : Nat, j ≤ 4 ∧ i = .int .i64 j ∧ May wr Q q V M ∧ RunQ w wr Q p t4) (fun i _ => 4 - (intOf i).toNat)
            case atStart => exact ⟨0, by omega, rfl, hm4, hr4⟩
            case round =>
              clear hm4 hr4
              obtain ⟨j, hj, rfl, hm5, hr5⟩ := hrel
              by_cases hlt4 : j < 4
              · obtain ⟨b, hb, f1, f2, f3⟩ := hlast.out j hlt4
                have hrd := hr5.run.read (j : Int)
                rw [f1, f2] at hrd
                have hset := hr5.run.settled (j : Int)
                rw [f3] at hset
                clear f1 f2 f3
                have hown := (hm5.2.2 j hlt4).1
                obtain ⟨A5, c5, hV5⟩ := ownsRow_slice hown
                have u0 := hm5.cell hlt4
                rw [hV5] at hown u0
                have hlen : (M j).length ≤ 9223372036854775807 := by
                  rcases hown.2 with ⟨_, h0⟩ | ⟨_, _, _, _, _, _, h1, h2, _⟩
                  · omega
                  · simp only [maxLen] at h2; omega
                obtain ⟨y, hy⟩ : ∃ y, y = M j := ⟨_, rfl⟩
                rw [← hy] at hown u0 hlen hb
                replace hy := Lib.hid hy
                replace hV5 := Lib.hid hV5
                replace hrd := Lib.hid hrd
                replace hset := Lib.hid hset
                replace hb := Lib.hid hb
                go_wp2_with fail
                refine hrd.out.mono ?_
                rintro e w6 ⟨rfl, rfl⟩
                go_wp2_with fail
                go_loopw [17, 18] (fun t i wr => ∃ n : Nat, n ≤ y.length ∧ i = .int .i64 n ∧ (∃ tb : Bool, t = .bool tb ∧ (tb = false → ∀ z ∈ y.take n, z ≠ b)) ∧ wr = w6) (fun _ i _ => y.length - (intOf i).toNat)
                case atStart => exact ⟨0, by omega, rfl, ⟨false, rfl, by simp⟩, rfl⟩
                case round =>
                  obtain ⟨n, hn, rfl, ⟨tb, rfl, htb⟩, hwr⟩ := hrel
                  by_cases hlt6 : n < y.length
                  · subst hwr
                    obtain ⟨g5, cap5, hv5, _, _⟩ := hown.form (by omega)
                    rw [hv5] at u0 hown
                    clear hv5
                    have hcell := hown.cells rfl n (.string (strOf y[n])) (by simp [strCells, hlt6])
                    rw [addr_add, Nat.zero_add] at hcell
                    cases tb with
                    | true =>
                      go_wp2
                      go_roundw
                      case rel => exact ⟨n + 1, by omega, by go_num, ⟨true, rfl, by simp⟩, by trivial⟩
                      case measure => simp [intOf]; omega
                    | false =>
                      by_cases hz : y[n] = b
                      · rw [hz] at hcell
                        go_wp2
                        go_roundw
                        case rel => exact ⟨n + 1, by omega, by go_num, ⟨true, rfl, by simp⟩, by trivial⟩
                        case measure => simp [intOf]; omega
                      · have hne := strOf_beq hz
                        have hall := Lib.hid (take_ne hlt6 (htb rfl) hz)
                        generalize strOf y[n] = zz at *
                        replace hz := Lib.hid hz
                        go_wp2
                        go_roundw
                        case rel => exact ⟨n + 1, by omega, by go_num, ⟨false, rfl, fun _ => hall.out⟩, by trivial⟩
                        case measure => simp [intOf]; omega
                  · have hnl : n = y.length := by omega
                    subst hnl
                    have htrue : tb = true := by
                      cases tb with
                      | true => rfl
                      | false =>
                        have := htb rfl b (by rw [List.take_of_length_le (Nat.le_refl _)]; exact hb.out)
                        exact absurd rfl this
                    subst htrue
                    subst hwr
                    go_wp2_with fail
                    refine hset.out.mono ?_
                    rintro e w7 ⟨rfl, rfl⟩
                    go_wp2
                    go_roundw
                    case rel => exact ⟨j + 1, by omega, by go_num, hm5, hr5⟩
                    case measure => simp [intOf]; omega
              · have hge4 : (4 : Int) ≤ j := by omega
                go_wp2_with fail
                refine (alive_any _).mono ?_
                rintro e w6 ⟨rfl, k6⟩
                have hr6 := (hr5.only k6).1
                go_wp2_with fail
                refine (hr6.run.unsettled).mono ?_
                rintro e w7 ⟨rfl, rfl⟩
                rw [hlate]
                go_wp2
                go_ret
                exact ⟨rfl, hr6.acts⟩

end Go.Proofs.Ytohkfeolfemcnaa
