/- The walk of DeviceFirm itself. -/
import Derived.Test.YtohkfeolfemcnaaFirm
namespace Go.Proofs.Ytohkfeolfemcnaa
open Go.RowKit

set_option maxRecDepth 100000 in
set_option maxHeartbeats 4000000 in
theorem deviceFirm_walk (w : World) (A : Option Addr) (c : Nat) (l : List Deed) (h : Acts w w.heap.size A l) (hl : l.length ≤ 9223372036854775807) (A2 : Option Addr) (c2 : Nat) (l2 : List Deed) (h2 : Acts w w.heap.size A2 l2) (hl2 : l2.length ≤ 9223372036854775807) :
    Calls Try.prog 5 #[.slice A l.length c, .slice A2 l2.length c2] w fun e w' => e = .returned (.bool true) ∧ Only [] w w' := by
  have hc4 : clamp 4 = 4 := by decide
  obtain ⟨n2, hn2⟩ : ∃ n, n = l2.length := ⟨_, rfl⟩
  rw [← hn2] at hl2 ⊢
  replace hn2 := Lib.hid hn2
  go_enter Try.func5, Try.ntmps5
  go_wp2_with fail
  refine (alive_any w).mono ?_
  rintro e w1 ⟨rfl, g1⟩
  go_wp2_with fail
  refine (Run.new w w1 4 (by decide) (by decide) g1).mono ?_
  rintro e w2 ⟨p, rfl, hr0⟩
  rw [hc4] at hr0
  go_wp2_with fail
  go_loopw [6] (fun i wr => ∃ k : Nat, k ≤ l.length ∧ k ≤ 100 ∧ i = .int .i64 k ∧ ∃ s : St, s.firm.length = 4 ∧ s.late.length ≤ k ∧ Run w wr p s) (fun i _ => l.length - (intOf i).toNat)
  case atStart => exact ⟨0, by omega, by omega, rfl, _, fresh_firm 4, by simp [fresh], hr0⟩
  case round =>
    clear hr0
    obtain ⟨k, hk, hk2, rfl, s, hs4, hsl, hr⟩ := hrel
    by_cases hlt : k < l.length ∧ k < 100
    · obtain ⟨hlt, hlt2⟩ := hlt
      obtain ⟨g, o, rfl, c0, c1, c2, c3⟩ := h.get hlt
      have hx := h.2 _ (List.getElem_mem hlt)
      generalize l[k] = x at *
      have hs' := act_firm s x
      have hs'' := act_late s x
      have hdo := hr.do x hx (by omega)
      obtain ⟨kind, at_, b, kp⟩ := x
      simp only at c0 c1 c2 c3
      have d0 := hr.cell c0
      have d1 := hr.cell c1
      have d2 := hr.cell c2
      have d3 := hr.cell c3
      replace hs' := Lib.hid hs'
      replace hs'' := Lib.hid hs''
      replace hdo := Lib.hid hdo
      clear hx
      go_wp2_with fail
      refine hdo.out.mono ?_
      rintro e w4 ⟨rfl, hr4⟩
      clear hdo hr
      replace hr4 := Lib.hid hr4
      go_wp2
      go_roundw
      case rel => exact ⟨k + 1, by omega, by omega, by go_num, _, by rw [hs'.out]; exact hs4, by have := hs''.out; omega, hr4.out⟩
      case measure => simp [intOf]; omega
    · obtain ⟨e1, e2, e3, e4⟩ := calm s hs4
      have hcr := Lib.hid (hr.crash 0 (by decide))
      clear hr
      rcases (show (k < l.length ∧ (100 : Int) ≤ k) ∨ (l.length : Int) ≤ k by omega) with ⟨hge0, hge⟩ | hge
      all_goals
        go_wp2_with fail
        refine hcr.out.mono ?_
        rintro e w4 ⟨rfl, hr4⟩
        clear hcr
        go_wp2_with fail
        refine (hr4.barrier).mono ?_
        rintro e w5 ⟨rfl, hr5⟩
        rw [e1]
        clear hr4
        generalize barred (crashed s 0) = s2 at *
        clear e1 hs4 hsl
        go_wp2_with fail
        obtain ⟨q, hq⟩ : ∃ q, q = w5.heap.size := ⟨_, rfl⟩
        rw [← hq]
        have rq : RunQ w (w5.alloc (.cells (strCells [[], [], [], []]).toArray 52)) [q] p s2 := hr5.q.turn ((Only.refl [] w5).alloc _) (fun i hi => by
          simp at hi
          subst hi
          refine ⟨.inr (by omega), by rw [hq]; simp⟩)
        have bq : Blk (w5.alloc (.cells (strCells [[], [], [], []]).toArray 52)) q 52 (strCells [[], [], [], []]).toArray := by rw [hq]; exact Blk.new w5 _ _
        generalize hW : w5.alloc (.cells (strCells [[], [], [], []]).toArray 52) = W at rq bq
        have hW' : w5.alloc (.cells #[.string ⟨#[]⟩, .string ⟨#[]⟩, .string ⟨#[]⟩, .string ⟨#[]⟩] 52) = W := hW
        rw [hW']
        clear hW hW' hr5
        replace hq := Lib.hid hq
        go_loopw [8] (fun i wr => ∃ k : Nat, k ≤ 4 ∧ i = .int .i64 k ∧ ∃ L : List (List UInt8), L.length = 4 ∧ (∀ j, j < k → L.getD j [] = s2.firm.getD j []) ∧ Blk wr q 52 (strCells L).toArray ∧ RunQ w wr [q] p s2) (fun i _ => 4 - (intOf i).toNat)
        case atStart => exact ⟨0, by omega, rfl, _, rfl, by omega, bq, rq⟩
        case round =>
          clear rq bq
          obtain ⟨k, hk, rfl, L, hL, hall, hb, hr⟩ := hrel
          by_cases hlt2 : k < 4
          · have hrd := hr.run.read (k : Int)
            obtain ⟨f1, f2⟩ := calm_read s2 e2 e3 e4 k hlt2
            rw [f1, f2] at hrd
            obtain ⟨d, hd⟩ : ∃ d, d = s2.firm.getD k [] := ⟨_, rfl⟩
            rw [← hd] at hrd
            have t0 := strCells_at hb (by rw [hL]; exact hlt2)
            have t1 := hb.free k
            have hb5 := hb.set k (.string (strOf d))
            simp only [List.setIfInBounds_toArray, strCells_set] at hb5
            have hr5 : RunQ w (wr.setCell ⟨q, k, none⟩ (.string (strOf d))) [q] p s2 := hr.turn (Only.set wr [q] (by simp) _) (fun i hi => ⟨.inl hi, by simp at hi; subst hi; exact hb5.lt⟩)
            have hall' : ∀ j, j < k + 1 → (L.set k d).getD j [] = s2.firm.getD j [] := by
              intro j hj
              rw [List.getD_eq_getElem?_getD, List.getElem?_set, hL]
              by_cases e : k = j
              · subst e
                simp only [hlt2, if_true, hd]
                rfl
              · simp only [e, if_false]
                rw [← List.getD_eq_getElem?_getD]
                exact hall j (by omega)
            replace hall' := Lib.hid hall'
            replace hb5 := Lib.hid hb5
            replace hr5 := Lib.hid hr5
            replace hrd := Lib.hid hrd
            replace hd := Lib.hid hd
            clear hall hr hb f1 f2
            go_wp2_with fail
            refine hrd.out.mono ?_
            rintro e w6 ⟨rfl, rfl⟩
            go_wp2
            go_roundw
            case rel => exact ⟨k + 1, by omega, by go_num, _, by simpa using hL, hall'.out, hb5.out, hr5.out⟩
            case measure => simp [intOf]; omega
          · have hge4 : (4 : Int) ≤ k := by omega
            have hs0 := Lib.hid (Held.start s2 L e2 e4 hL (fun j hj => hall j (by omega)))
            clear hall hk e2 e3 e4
            go_wp2_with fail
            obtain ⟨q2, hq2⟩ : ∃ q2, q2 = wr.heap.size := ⟨_, rfl⟩
            rw [← hq2]
            have hqq : q ≠ q2 := by have := hb.lt; omega
            have rq2 : RunQ w (wr.alloc (.cells (boolCells [false, false, false, false]).toArray 53)) [q2, q] p s2 := hr.turn ((Only.refl [q] wr).alloc _) (fun i hi => by
              simp at hi
              rcases hi with rfl | rfl
              · exact ⟨.inr (by omega), by rw [hq2]; simp⟩
              · exact ⟨.inl (by simp), by have := hb.lt; simp; omega⟩)
            have bq2 : Blk (wr.alloc (.cells (boolCells [false, false, false, false]).toArray 53)) q2 53 (boolCells [false, false, false, false]).toArray := by rw [hq2]; exact Blk.new wr _ _
            have hb2 := hb.alloc (.cells (boolCells [false, false, false, false]).toArray 53)
            generalize hW : wr.alloc (.cells (boolCells [false, false, false, false]).toArray 53) = W2 at rq2 bq2 hb2
            have hW' : wr.alloc (.cells #[.bool false, .bool false, .bool false, .bool false] 53) = W2 := hW
            rw [hW']
            clear hW hW' hr hb
            replace hq2 := Lib.hid hq2
            go_loopw [12] (fun i wr => ∃ k : Nat, k ≤ n2 ∧ k ≤ 100 ∧ i = .int .i64 k ∧ ∃ (s : St) (B : List Bool), Held k s L B ∧ Blk wr q 52 (strCells L).toArray ∧ Blk wr q2 53 (boolCells B).toArray ∧ RunQ w wr [q2, q] p s) (fun i _ => n2 - (intOf i).toNat)
            case atStart => exact ⟨0, by omega, by omega, rfl, s2, _, hs0.out, hb2, bq2, rq2⟩
            case round =>
              clear hs0 hb2 bq2 rq2
              obtain ⟨k, hk, hk2, rfl, s, B, hs, hb, hm, hr⟩ := hrel
              by_cases hlt5 : k < n2 ∧ k < 100
              · obtain ⟨hlt5, hlt6⟩ := hlt5
                have hlt7 : k < l2.length := by rw [← hn2.out]; exact hlt5
                obtain ⟨g, o, rfl, c0, c1, c2, c3⟩ := h2.get hlt7
                have hx := h2.2 _ (List.getElem_mem hlt7)
                generalize l2[k] = x at *
                have hs' := Lib.hid (hs.act x)
                have hfew := hs.few
                have hlong : s.late.length < 1048576 := by omega
                obtain ⟨kind, at_, b, kp⟩ := x
                simp only at c0 c1 c2 c3
                have d0 := hr.cell c0
                have d1 := hr.cell c1
                have d2 := hr.cell c2
                have d3 := hr.cell c3
                by_cases m1 : kind.tmod 5 = 0
                · by_cases m2 : 0 ≤ at_
                  · by_cases m3 : at_ < 4
                    · have hmk : marks B ⟨kind, at_, b, kp⟩ = B.set at_.toNat true := by simp [marks, m1, m2, m3]
                      rw [hmk] at hs'
                      clear hmk
                      obtain ⟨m, rfl⟩ := Int.eq_ofNat_of_zero_le m2
                      have hm4 : m < 4 := by omega
                      simp only [Int.toNat_natCast] at hs'
                      have t0 := boolCells_at hm (i := m) (by rw [hs.lenB]; exact hm4)
                      have t1 := hm.free m
                      have kset : Only [q2] wr (wr.setCell ⟨q2, m, none⟩ (.bool true)) := Only.set wr [q2] (by simp) _
                      have hmB := hm.set m (.bool true)
                      simp only [List.setIfInBounds_toArray, boolCells_set] at hmB
                      have hbB := hb.kept kset (by simpa using hqq)
                      have hr5 : RunQ w (wr.setCell ⟨q2, m, none⟩ (.bool true)) [q2, q] p s := hr.turn (kset.more (by simp)) (fun i hi => ⟨.inl hi, by
                        simp at hi
                        rcases hi with rfl | rfl
                        · exact hmB.lt
                        · exact hbB.lt⟩)
                      have d0' := hr5.cell c0
                      have d1' := hr5.cell c1
                      have d2' := hr5.cell c2
                      have d3' := hr5.cell c3
                      have hdo := Lib.hid (hr5.do ⟨kind, m, b, kp⟩ hx hlong)
                      replace hbB := Lib.hid hbB
                      replace hmB := Lib.hid hmB
                      clear hr hr5 hb hm kset
                      go_wp2_with fail
                      refine hdo.out.mono ?_
                      rintro e w7 ⟨rfl, hr7, hk7⟩
                      have hb7 := Lib.hid (hk7.blk hbB.out (by simp))
                      have hm7 := Lib.hid (hk7.blk hmB.out (by simp))
                      replace hr7 := Lib.hid hr7
                      clear hk7 hdo
                      go_wp2
                      go_roundw
                      case rel => exact ⟨k + 1, by omega, by omega, by go_num, _, _, hs'.out, hb7.out, hm7.out, hr7.out⟩
                      case measure => simp [intOf]; omega
                    · have hmk : marks B ⟨kind, at_, b, kp⟩ = B := by simp [marks, m3]
                      rw [hmk] at hs'
                      clear hmk
                      have hdo := Lib.hid (hr.do ⟨kind, at_, b, kp⟩ hx hlong)
                      have hbB := Lib.hid hb
                      have hmB := Lib.hid hm
                      clear hr hb hm
                      go_wp2_with fail
                      refine hdo.out.mono ?_
                      rintro e w7 ⟨rfl, hr7, hk7⟩
                      have hb7 := Lib.hid (hk7.blk hbB.out (by simp))
                      have hm7 := Lib.hid (hk7.blk hmB.out (by simp))
                      replace hr7 := Lib.hid hr7
                      clear hk7 hdo
                      go_wp2
                      go_roundw
                      case rel => exact ⟨k + 1, by omega, by omega, by go_num, _, _, hs'.out, hb7.out, hm7.out, hr7.out⟩
                      case measure => simp [intOf]; omega
                  · have hmk : marks B ⟨kind, at_, b, kp⟩ = B := by simp [marks, m2]
                    rw [hmk] at hs'
                    clear hmk
                    have hdo := Lib.hid (hr.do ⟨kind, at_, b, kp⟩ hx hlong)
                    have hbB := Lib.hid hb
                    have hmB := Lib.hid hm
                    clear hr hb hm
                    go_wp2_with fail
                    refine hdo.out.mono ?_
                    rintro e w7 ⟨rfl, hr7, hk7⟩
                    have hb7 := Lib.hid (hk7.blk hbB.out (by simp))
                    have hm7 := Lib.hid (hk7.blk hmB.out (by simp))
                    replace hr7 := Lib.hid hr7
                    clear hk7 hdo
                    go_wp2
                    go_roundw
                    case rel => exact ⟨k + 1, by omega, by omega, by go_num, _, _, hs'.out, hb7.out, hm7.out, hr7.out⟩
                    case measure => simp [intOf]; omega
                · have hmk : marks B ⟨kind, at_, b, kp⟩ = B := by simp [marks, m1]
                  rw [hmk] at hs'
                  clear hmk
                  have hdo := Lib.hid (hr.do ⟨kind, at_, b, kp⟩ hx hlong)
                  have hbB := Lib.hid hb
                  have hmB := Lib.hid hm
                  clear hr hb hm
                  go_wp2_with fail
                  refine hdo.out.mono ?_
                  rintro e w7 ⟨rfl, hr7, hk7⟩
                  have hb7 := Lib.hid (hk7.blk hbB.out (by simp))
                  have hm7 := Lib.hid (hk7.blk hmB.out (by simp))
                  replace hr7 := Lib.hid hr7
                  clear hk7 hdo
                  go_wp2
                  go_roundw
                  case rel => exact ⟨k + 1, by omega, by omega, by go_num, _, _, hs'.out, hb7.out, hm7.out, hr7.out⟩
                  case measure => simp [intOf]; omega
              · have hcr2 := Lib.hid (hr.crash 18446744073709551615 (by decide))
                have hL4 := hs.lenL
                have hB4 := hs.lenB
                have hlast := Lib.hid (fun (j : Nat) (hj : j < 4) (h : B[j]? = some false) => hs.last 18446744073709551615 j hj h)
                clear hr hs
                rcases (show (k < n2 ∧ (100 : Int) ≤ k) ∨ (n2 : Int) ≤ k by omega) with ⟨hge5, hge6⟩ | hge5
                all_goals
                  go_wp2_with fail
                  refine hcr2.out.mono ?_
                  rintro e w7 ⟨rfl, hr7, hk7⟩
                  have hb7 := hk7.blk hb (by simp)
                  have hm7 := hk7.blk hm (by simp)
                  clear hk7 hcr2
                  generalize crashed s 18446744073709551615 = s3 at *
                  go_wp2_with fail
                  go_loopw [14] (fun i wr => ∃ j : Nat, j ≤ 4 ∧ i = .int .i64 j ∧ Blk wr q 52 (strCells L).toArray ∧ Blk wr q2 53 (boolCells B).toArray ∧ RunQ w wr [q2, q] p s3) (fun i _ => 4 - (intOf i).toNat)
                  case atStart => exact ⟨0, by omega, rfl, hb7, hm7, hr7⟩
                  case round =>
                    clear hb7 hm7 hr7
                    obtain ⟨j, hj, rfl, hb8, hm8, hr8⟩ := hrel
                    by_cases hlt8 : j < 4
                    · have t0 := strCells_at hb8 (i := j) (by rw [hL4]; exact hlt8)
                      have t1 := boolCells_at hm8 (i := j) (by rw [hB4]; exact hlt8)
                      have hBj := getD_get (l := B) (k := j) (by rw [hB4]; exact hlt8) false
                      have hrd := hr8.run.read (j : Int)
                      cases hbj : B.getD j false with
                      | true =>
                        rw [hbj] at t1
                        clear hBj
                        replace hrd := Lib.hid hrd
                        go_wp2_with fail
                        refine hrd.out.mono ?_
                        rintro e w9 ⟨rfl, rfl⟩
                        go_wp2
                        go_roundw
                        case rel => exact ⟨j + 1, by omega, by go_num, hb8, hm8, hr8⟩
                        case measure => simp [intOf]; omega
                      | false =>
                        rw [hbj] at t1 hBj
                        obtain ⟨f1, f2⟩ := hlast.out j hlt8 hBj
                        obtain ⟨d, hd⟩ : ∃ d, d = strOf (L.getD j []) := ⟨_, rfl⟩
                        rw [f1, f2, ← hd] at hrd
                        rw [← hd] at t0
                        clear hd f1 f2 hBj
                        replace hrd := Lib.hid hrd
                        go_wp2_with fail
                        refine hrd.out.mono ?_
                        rintro e w9 ⟨rfl, rfl⟩
                        go_wp2
                        go_roundw
                        case rel => exact ⟨j + 1, by omega, by go_num, hb8, hm8, hr8⟩
                        case measure => simp [intOf]; omega
                    · have hge8 : (4 : Int) ≤ j := by omega
                      go_wp2_with fail
                      refine (alive_any _).mono ?_
                      rintro e w9 ⟨rfl, k9⟩
                      go_wp2
                      go_ret
                      exact ⟨rfl, hr8.acts.trans k9⟩

end Go.Proofs.Ytohkfeolfemcnaa
