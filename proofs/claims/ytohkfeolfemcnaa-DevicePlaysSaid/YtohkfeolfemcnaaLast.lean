/- The walk of DeviceLast. -/
import Derived.Test.YtohkfeolfemcnaaRunQ
namespace Go.Proofs.Ytohkfeolfemcnaa
open Go.RowKit

/-- A device without a fuse, and each block as it was written last. -/
structure Seen (k : Nat) (s : St) (L : List (List UInt8)) : Prop where
  four : s.firm.length = 4
  few : s.late.length ≤ k
  fuse : s.fuse = -1
  dead : s.dead = false
  len : L.length = 4
  now : ∀ j, j < 4 → L.getD j [] = nowOf (s.firm.getD j []) s.late j

theorem Seen.burns {k : Nat} {s : St} {L : List (List UInt8)} (h : Seen k s L) : burns s = true ∧ burnt s = s := by
  have h1 : Go.Proofs.Ytohkfeolfemcnaa.burns s = true := by simp [Go.Proofs.Ytohkfeolfemcnaa.burns, h.fuse, h.dead]
  refine ⟨h1, ?_⟩
  unfold Go.Proofs.Ytohkfeolfemcnaa.burnt
  rw [if_pos h1]
  obtain ⟨a, b, c, d⟩ := s
  have := h.fuse
  simp only at this
  subst this
  rfl
theorem Seen.bar {k : Nat} {s : St} {L : List (List UInt8)} (h : Seen k s L) : barErr s = 0 ∧ Seen (k + 1) (barred s) L := by
  obtain ⟨h1, h2⟩ := h.burns
  have e : barred s = settledAll s 18446744073709551615 := by
    unfold barred
    rw [h1, h2]
    rfl
  refine ⟨by simp [barErr, h1], ?_⟩
  rw [e]
  refine ⟨by rw [settledAll, settle_length]; exact h.four, by simp [settledAll], h.fuse, h.dead, h.len, fun j hj => ?_⟩
  have hd := getD_get (l := s.firm) (k := j) (by rw [h.four]; exact hj) ([] : List UInt8)
  have hs := settle_all s.firm j _ hd s.late
  rw [h.now j hj]
  simp only [settledAll, nowOf_nil]
  rw [List.getD_eq_getElem?_getD (l := settle _ _ _), hs]
  rfl
theorem Seen.write {k : Nat} {s : St} {L : List (List UInt8)} (h : Seen k s L) (m : Nat) (hm : m < 4) (X : List UInt8) (hX : X.length = 256) : writeErr s m X = 0 ∧ Seen (k + 1) (written s m X) (L.set m X) := by
  obtain ⟨h1, h2⟩ := h.burns
  have hh : (hasBlock s.firm.length m && decide (X.length = 256)) = true := by simp [hasBlock, h.four, hX]; omega
  have e : written s m X = { s with late := s.late ++ [(m, X)] } := by
    unfold written
    rw [hh, h1, h2]
    simp
  refine ⟨by simp [writeErr, hh, h1], ?_⟩
  rw [e]
  refine ⟨h.four, by have := h.few; simp; omega, h.fuse, h.dead, by simpa using h.len, fun j hj => ?_⟩
  rw [nowOf_snoc, List.getD_eq_getElem?_getD, List.getElem?_set, h.len]
  by_cases e : m = j
  · subst e
    simp [hm]
  · simp only [e, if_false]
    rw [← List.getD_eq_getElem?_getD]
    exact h.now j hj
theorem Seen.read {k : Nat} {s : St} {L : List (List UInt8)} (h : Seen k s L) (j : Nat) (hj : j < 4) : readB s j = L.getD j [] ∧ readErr s j = 0 := by
  have hh : hasBlock s.firm.length j = true := by simp [hasBlock, h.four]; omega
  rw [h.now j hj]
  simp [readB, readErr, hh, h.dead]
theorem Seen.start (L : List (List UInt8)) (hL : L.length = 4) (h : ∀ j, j < 4 → L.getD j [] = rep 256 0) : Seen 0 (fresh 4) L := by
  refine ⟨fresh_firm 4, by simp [fresh], rfl, rfl, hL, fun j hj => ?_⟩
  rw [h j hj]
  simp only [fresh, nowOf_nil]
  rw [List.getD_eq_getElem?_getD, List.getElem?_replicate, if_pos hj]
  rfl

set_option maxRecDepth 100000 in
set_option maxHeartbeats 4000000 in
theorem deviceLast_walk (w : World) (A : Option Addr) (c : Nat) (l : List Deed) (h : Acts w w.heap.size A l) (hl : l.length ≤ 9223372036854775807) :
    Calls Try.prog 7 #[.slice A l.length c] w fun e w' => e = .returned (.bool true) ∧ Only [] w w' := by
  have hc4 : clamp 4 = 4 := by decide
  have h00 : ((0 : UInt8).toNat : Int) = 0 := rfl
  go_enter Try.func7, Try.ntmps7
  go_wp2_with fail
  refine (alive_any w).mono ?_
  rintro e w1 ⟨rfl, g1⟩
  go_wp2_with fail
  refine (Run.new w w1 4 (by decide) (by decide) g1).mono ?_
  rintro e w2 ⟨p, rfl, h2⟩
  rw [hc4] at h2
  go_wp2_with fail
  obtain ⟨q, hq⟩ : ∃ q, q = w2.heap.size := ⟨_, rfl⟩
  rw [← hq]
  have kq : Only [] w2 (w2.alloc (.cells (strCells [[], [], [], []]).toArray 52)) := (Only.refl [] w2).alloc _
  have rq : RunQ w (w2.alloc (.cells (strCells [[], [], [], []]).toArray 52)) [q] p (fresh 4) := h2.q.turn kq (fun i hi => by
    simp at hi
    subst hi
    refine ⟨.inr (by omega), by rw [hq]; simp⟩)
  have bq : Blk (w2.alloc (.cells (strCells [[], [], [], []]).toArray 52)) q 52 (strCells [[], [], [], []]).toArray := by rw [hq]; exact Blk.new w2 _ _
  change _ = _ at hq
  generalize hW : w2.alloc (.cells (strCells [[], [], [], []]).toArray 52) = W at rq bq kq
  have hW' : w2.alloc (.cells #[.string ⟨#[]⟩, .string ⟨#[]⟩, .string ⟨#[]⟩, .string ⟨#[]⟩] 52) = W := hW
  rw [hW']
  clear hW hW' kq h2
  replace hq := Lib.hid hq
  go_loopw [5] (fun i wr => ∃ k : Nat, k ≤ 4 ∧ i = .int .i64 k ∧ ∃ L : List (List UInt8), L.length = 4 ∧ (∀ j, j < k → L.getD j [] = rep 256 0) ∧ Blk wr q 52 (strCells L).toArray ∧ RunQ w wr [q] p (fresh 4)) (fun i _ => 4 - (intOf i).toNat)
  case atStart => exact ⟨0, by omega, rfl, _, rfl, by omega, bq, rq⟩
  case round =>
    obtain ⟨k, hk, rfl, L, hL, hall, hb, hr⟩ := hrel
    by_cases hlt : k < 4
    · go_wp2_with fail
      refine (block_any wr 0 256 (by decide)).mono ?_
      rintro e w4 ⟨rfl, k4⟩
      obtain ⟨hr4, hk4⟩ := hr.only k4
      have hb4 := hk4.blk hb (by simp)
      have d0 := strCells_at hb4 (by rw [hL]; exact hlt)
      have d1 := hb4.free k
      have hb5 := hb4.set k (.string (strOf (rep 256 0)))
      simp only [List.setIfInBounds_toArray, strCells_set] at hb5
      have hr5 : RunQ w (w4.setCell ⟨q, k, none⟩ (.string (strOf (rep 256 0)))) [q] p (fresh 4) := hr4.turn (Only.set w4 [q] (by simp) _) (fun i hi => ⟨.inl hi, by simp at hi; subst hi; exact hb5.lt⟩)
      have hall' : ∀ j, j < k + 1 → (L.set k (rep 256 0)).getD j [] = rep 256 0 := by
        intro j hj
        rw [List.getD_eq_getElem?_getD, List.getElem?_set, hL]
        by_cases e : k = j
        · subst e
          simp [hlt]
        · simp only [e, if_false]
          rw [← List.getD_eq_getElem?_getD]
          exact hall j (by omega)
      replace hall' := Lib.hid hall'
      replace hb5 := Lib.hid hb5
      replace hr5 := Lib.hid hr5
      clear hall hr hr4 hk4 hb hb4 bq rq
      go_wp2
      go_roundw
      case rel => exact ⟨k + 1, by omega, by go_num, _, by simpa using hL, hall'.out, hb5.out, hr5.out⟩
      case measure => simp [intOf]; omega
    · have hs0 := Lib.hid (Seen.start L hL (fun j hj => hall j (by omega)))
      have hge : (4 : Int) ≤ k := by omega
      clear hall bq rq hk
      go_wp2_with fail
      go_loopw [6] (fun i wr => ∃ k : Nat, k ≤ l.length ∧ k ≤ 100 ∧ i = .int .i64 k ∧ ∃ (L : List (List UInt8)) (s : St), Seen k s L ∧ Blk wr q 52 (strCells L).toArray ∧ RunQ w wr [q] p s) (fun i _ => l.length - (intOf i).toNat)
      case atStart => exact ⟨0, by omega, by omega, rfl, L, _, hs0.out, hb, hr⟩
      case round =>
        clear hs0 hb hr
        obtain ⟨k, hk, hk2, rfl, L, s, hs, hb, hr⟩ := hrel
        by_cases hlt : k < l.length ∧ k < 100
        · obtain ⟨hlt, hlt2⟩ := hlt
          obtain ⟨g, o, rfl, c0, c1, c2, c3⟩ := h.get hlt
          generalize l[k] = x at *
          obtain ⟨kind, at_, b, kp⟩ := x
          simp only at c0 c1 c2 c3
          have d0 := hr.cell c0
          have hfew := hs.few
          have hlong : s.late.length < 1048576 := by omega
          by_cases hbar : kind.tmod 5 = 1
          · obtain ⟨he, hs'⟩ := hs.bar
            replace hs' := Lib.hid hs'
            go_wp2_with fail
            refine (hr.barrier).mono ?_
            rintro e w4 ⟨rfl, hr4, hk4⟩
            have hb4 := hk4.blk hb (by simp)
            rw [he]
            go_wp2
            go_roundw
            case rel => exact ⟨k + 1, by omega, by omega, by go_num, L, _, hs'.out, hb4, hr4⟩
            case measure => simp [intOf]; omega
          · obtain ⟨m, hm, hmz⟩ := low_two at_
            obtain ⟨he, hs'⟩ := hs.write m hm (rep 256 b) (rep_length _ _)
            have hL4 := hs.len
            replace hs' := Lib.hid hs'
            have d1 := hr.cell c1
            have d2 := hr.cell c2
            go_wp2_with fail
            refine (block_any wr b 256 (by decide)).mono ?_
            rintro e w4 ⟨rfl, k4⟩
            obtain ⟨hr4, hk4⟩ := hr.only k4
            have hb4 := hk4.blk hb (by simp)
            have t0 := strCells_at hb4 (by rw [hL4]; exact hm)
            have t1 := hb4.free m
            have hb5 := hb4.set m (.string (strOf (rep 256 b)))
            simp only [List.setIfInBounds_toArray, strCells_set] at hb5
            have hr5 : RunQ w (w4.setCell ⟨q, m, none⟩ (.string (strOf (rep 256 b)))) [q] p s := hr4.turn (Only.set w4 [q] (by simp) _) (fun i hi => ⟨.inl hi, by simp at hi; subst hi; exact hb5.lt⟩)
            have hwr := hr5.write m (rep 256 b) (by omega) (by omega) hlong
            replace hb5 := Lib.hid hb5
            replace hwr := Lib.hid hwr
            clear hr hr4 hr5 hk4 hb hb4 k4
            go_wp2_with fail
            refine hwr.out.mono ?_
            rintro e w6 ⟨rfl, hr6, hk6⟩
            have hb6 := Lib.hid (hk6.blk hb5.out (by simp))
            replace hr6 := Lib.hid hr6
            rw [he]
            clear hk6 hwr
            go_wp2
            go_roundw
            case rel => exact ⟨k + 1, by omega, by omega, by go_num, _, _, hs'.out, hb6.out, hr6.out⟩
            case measure => simp [intOf]; omega
        · by_cases hge2 : k < l.length
          · have h100 : (100 : Int) ≤ k := by omega
            go_wp2_with fail
            go_loopw [8] (fun i wr' => ∃ j : Nat, j ≤ 4 ∧ i = .int .i64 j ∧ Blk wr' q 52 (strCells L).toArray ∧ RunQ w wr' [q] p s) (fun i _ => 4 - (intOf i).toNat)
            case atStart => exact ⟨0, by omega, rfl, hb, hr⟩
            case round =>
              clear hb hr
              obtain ⟨j, hj, rfl, hb, hr⟩ := hrel
              by_cases hlt3 : j < 4
              · have t0 := strCells_at hb (by rw [hs.len]; exact hlt3)
                have hrd := hr.run.read (j : Int)
                obtain ⟨f1, f2⟩ := hs.read j hlt3
                obtain ⟨d, hd⟩ : ∃ d, d = strOf (L.getD j []) := ⟨_, rfl⟩
                rw [f1, f2, ← hd] at hrd
                rw [← hd] at t0
                clear hd f1 f2
                replace hrd := Lib.hid hrd
                go_wp2_with fail
                refine hrd.out.mono ?_
                rintro e w6 ⟨rfl, rfl⟩
                go_wp2
                go_roundw
                case rel => exact ⟨j + 1, by omega, by go_num, hb, hr⟩
                case measure => simp [intOf]; omega
              · have hge3 : (4 : Int) ≤ j := by omega
                go_wp2_with fail
                refine (alive_any _).mono ?_
                rintro e w6 ⟨rfl, k6⟩
                go_wp2
                go_ret
                exact ⟨rfl, hr.acts.trans k6⟩
          · have hgel : (l.length : Int) ≤ k := by omega
            go_wp2_with fail
            go_loopw [8] (fun i wr' => ∃ j : Nat, j ≤ 4 ∧ i = .int .i64 j ∧ Blk wr' q 52 (strCells L).toArray ∧ RunQ w wr' [q] p s) (fun i _ => 4 - (intOf i).toNat)
            case atStart => exact ⟨0, by omega, rfl, hb, hr⟩
            case round =>
              clear hb hr
              obtain ⟨j, hj, rfl, hb, hr⟩ := hrel
              by_cases hlt3 : j < 4
              · have t0 := strCells_at hb (by rw [hs.len]; exact hlt3)
                have hrd := hr.run.read (j : Int)
                obtain ⟨f1, f2⟩ := hs.read j hlt3
                obtain ⟨d, hd⟩ : ∃ d, d = strOf (L.getD j []) := ⟨_, rfl⟩
                rw [f1, f2, ← hd] at hrd
                rw [← hd] at t0
                clear hd f1 f2
                replace hrd := Lib.hid hrd
                go_wp2_with fail
                refine hrd.out.mono ?_
                rintro e w6 ⟨rfl, rfl⟩
                go_wp2
                go_roundw
                case rel => exact ⟨j + 1, by omega, by go_num, hb, hr⟩
                case measure => simp [intOf]; omega
              · have hge3 : (4 : Int) ≤ j := by omega
                go_wp2_with fail
                refine (alive_any _).mono ?_
                rintro e w6 ⟨rfl, k6⟩
                go_wp2
                go_ret
                exact ⟨rfl, hr.acts.trans k6⟩

end Go.Proofs.Ytohkfeolfemcnaa
