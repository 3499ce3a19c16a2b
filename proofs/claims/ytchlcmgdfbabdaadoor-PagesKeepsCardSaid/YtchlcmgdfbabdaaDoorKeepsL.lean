/- PagesKeeps: the walk. -/
import Derived.Test.YtchlcmgdfbabdaaDoorOpen7
import Derived.Test.YtchlcmgdfbabdaaDoorRoom7
import Derived.Laws.Concat
namespace Go.Proofs.YtchlcmgdfbabdaaDoor.Pgs
open Go.RowKit

set_option maxRecDepth 100000 in
set_option maxHeartbeats 2000000 in
theorem pagesKeeps_walk (w : World) (A : Option Addr) (c n : Nat) (o : List Pg) (hn : n = o.length) (hA : Els pgE 2 w A o) (hl : n ≤ 9223372036854775807) (off : Int) (d : List UInt8) :
    Calls Tryd.prog 9 #[.slice A n c, .int .i64 off, .string (strOf d)] w fun e w' => e = .returned (.bool true) ∧ Only [] w w' := by
  by_cases hfew : ¬ (n ≤ 200 ∧ d.length ≤ 2000)
  · have hsz := strOf_size d
    have hg : decide ((200 : Int) < (n : Int)) = true ∨ (decide ((200 : Int) < (n : Int)) = false ∧ decide ((2000 : Int) < ((strOf d).size : Int)) = true) := by
      by_cases h1 : 200 < n
      · exact .inl (decide_eq_true (by omega))
      · exact .inr ⟨decide_eq_false (by omega), decide_eq_true (by omega)⟩
    generalize strOf d = s at *
    clear hsz hfew hn
    rcases hg with hg | ⟨hg, hg'⟩
    all_goals
      go_enter Tryd.func9, Tryd.ntmps9
      have kk := Only.refl [] w
      go_wp2_with fail
      refine (alive_any _).mono ?_; rintro e w1 ⟨rfl, k1⟩
      replace hA := hA.kept k1 (by simp)
      replace kk := kk.trans k1
      clear k1
      go_wp2_with fail
      refine (alive_any _).mono ?_; rintro e w2 ⟨rfl, k2⟩
      replace hA := hA.kept k2 (by simp)
      replace kk := kk.trans k2
      clear k2
      have kk := Lib.hid kk
      go_wp2
      go_ret
      exact ⟨rfl, kk.out⟩
  · obtain ⟨hn2, hd2⟩ : n ≤ 200 ∧ d.length ≤ 2000 := by omega
    have hg : decide ((200 : Int) < (n : Int)) = false := decide_eq_false (by omega)
    have hg' : decide ((2000 : Int) < ((strOf d).size : Int)) = false := decide_eq_false (by rw [strOf_size]; omega)
    obtain ⟨m1, hm1⟩ : ∃ m, m = (putL o off d).length := ⟨_, rfl⟩
    obtain ⟨m2, hm2⟩ : ∃ m, m = (cutL o off).length := ⟨_, rfl⟩
    have l1 : m1 ≤ 32 := by rw [hm1]; exact right_len (putL_right o off d)
    have l2 : m2 ≤ 32 := by rw [hm2]; exact right_len (cutL_right o off)
    have h1 := fun W (B : Option Addr) (cb : Nat) (h : Els pgE 2 W B o) => put_any W B cb n o hn h hl off d (by omega)
    have h2 := fun W (B : Option Addr) (cb : Nat) (h : Els pgE 2 W B o) => cut_any W B cb n o hn h hl off
    have s0 := fun W (B C : Option Addr) (cb cc : Nat) (hb : Els pgE 2 W B o) (hc : Els pgE 2 W C o) => same_yes W B C cb cc n n o hn hn hb hc (by omega)
    have s1 := fun W (B C : Option Addr) (cb cc : Nat) (hb : Els pgE 2 W B (putL o off d)) (hc : Els pgE 2 W C (putL o off d)) => same_yes W B C cb cc m1 m1 (putL o off d) hm1 hm1 hb hc (by omega)
    have s2 := fun W (B C : Option Addr) (cb cc : Nat) (hb : Els pgE 2 W B (cutL o off)) (hc : Els pgE 2 W C (cutL o off)) => same_yes W B C cb cc m2 m2 (cutL o off) hm2 hm2 hb hc (by omega)
    have he1 : errB (okPut o off d) = 0 ∨ (errB (okPut o off d) = 1 ∧ m1 = 0) := by
      cases h : okPut o off d with
      | true => exact .inl rfl
      | false => exact .inr ⟨rfl, by rw [hm1]; unfold putL; rw [h]; rfl⟩
    have he2 : errB (okCut o off) = 0 ∨ (errB (okCut o off) = 1 ∧ m2 = 0) := by
      cases h : okCut o off with
      | true => exact .inl rfl
      | false => exact .inr ⟨rfl, by rw [hm2]; unfold cutL; rw [h]; rfl⟩
    generalize errB (okPut o off d) = e1 at *
    generalize errB (okCut o off) = e2 at *
    generalize putL o off d = P1 at *
    generalize cutL o off = P2 at *
    generalize strOf d = s at *
    have hrep := room_spare n
    replace he1 := Lib.hid he1
    replace he2 := Lib.hid he2
    replace hm1 := Lib.hid hm1
    replace hm2 := Lib.hid hm2
    replace hrep := Lib.hid hrep
    have HN := Lib.hid hn
    have h1 := Lib.hid h1
    have h2 := Lib.hid h2
    rename_i h1' h2'
    clear h1' h2' hn hfew hd2 hl
    go_enter Tryd.func9, Tryd.ntmps9
    have kk := Only.refl [] w
    go_wp2_with fail
    refine (alive_any _).mono ?_; rintro e w1 ⟨rfl, k1⟩
    replace hA := hA.kept k1 (by simp)
    replace kk := kk.trans k1
    clear k1
    have k2 := (Only.refl [] w1).alloc (.cells (encs pgE (List.replicate (n + 3) zpg)).toArray 53)
    have b2 := Blk.new w1 53 (encs pgE (List.replicate (n + 3) zpg)).toArray
    have hA2 := hA.kept k2 (by simp)
    have hfit : n * 2 ≤ (encs pgE (List.replicate (n + 3) zpg)).length := by rw [encs_length pgE_length, List.length_replicate]; omega
    obtain ⟨Z, hZ⟩ : ∃ Z, Z = encs pgE (List.replicate (n + 3) zpg) := ⟨_, rfl⟩
    rw [← hZ] at k2 b2 hA2 hfit
    have hrep' := hrep.out
    rw [← hZ] at hrep'
    replace hZ := Lib.hid hZ
    replace hrep' := Lib.hid hrep'
    go_wp2_with (first
      | (refine wpList_make_room rfl (.tmp 29) (.tmp 32) rfl _ _ n (n + 3) rfl rfl rfl (by omega) (by omega) (by omega) ?_; rw [← hZ.out])
      | (refine wpList_copy_els pgE_length pgE_one rfl (.tmp 34) (.tmp 35) 22 22 rfl 53 Tryd.underlying22 (by kernel_rfl) w1.heap.size n (n + 3) c A o HN.out rfl rfl hA2 (by decide) Z _ b2 hfit ?_; intro w3 b3 k3))
    rw [hrep'.out, ← encs_app] at b3
    obtain ⟨q, hq⟩ : ∃ q, q = w1.heap.size := ⟨_, rfl⟩
    rw [← hq] at b3 k3 ⊢
    have hroom : RoomB w3 q (o ++ List.replicate 3 zpg) := b3
    have hqlt : q < w3.heap.size := Blk.lt hroom
    have k13 : Only [] w1 w3 := k2.then k3 (by
      intro i hi
      simp at hi
      subst hi
      exact .inr (by omega))
    have hAq : ∀ a, A = some a → o = [] ∨ a.block ≠ q := fun a ha => by
      rcases id hA with h0 | ⟨g, off', hAA, hg, _⟩
      · exact .inl h0
      · rw [ha] at hAA
        injection hAA with hAA
        subst hAA
        exact .inr (by simp only; omega)
    have kk3 := kk.trans k13
    have hA3 := hA.kept k13 (by simp)
    clear k2 b2 hA2 hfit hrep hrep' b3 k3 k13
    replace hZ := Lib.hid hZ.out
    replace hAq := Lib.hid hAq
    replace hq := Lib.hid hq
    go_wp2_with fail
    refine (h1.out _ _ _ hroom.els).mono ?_; rintro e w4 ⟨v, rfl, hm⟩
    have k4 := hm.only
    obtain ⟨A1, c1, rfl, x4, _, x1⟩ := mine_shape hm
    rw [← hm1.out]
    have r4 := hroom.kept k4 (by simp)
    have kk4 := kk3.trans k4
    have hA4 := hA3.kept k4 (by simp)
    clear hm
    go_wp2_with fail
    refine (h2.out _ _ _ r4.els).mono ?_; rintro e w5 ⟨v, rfl, hm⟩
    have k5 := hm.only
    obtain ⟨A2, c2, rfl, y5, _, y1⟩ := mine_shape hm
    rw [← hm2.out]
    have x5 := x4.kept k5 (by simp)
    have r5 := r4.kept k5 (by simp)
    have kk5 := kk4.trans k5
    have hA5 := hA4.kept k5 (by simp)
    have z45 := k4.size
    have z56 := k5.size
    have y1' : ∀ a, A2 = some a → a.block ≠ q := fun a ha => by have := y1 a ha; omega
    have x1' : ∀ a, A1 = some a → a.block ≠ q := fun a ha => by have := x1 a ha; omega
    have kk1 := kk
    clear hm x1 y1 kk4 k4 k5 x4 r4 hA3 hA4 hroom
    have hq5 : q < w5.heap.size := by omega
    have a6 := (Only.refl [] w5).alloc (.cells #[] 53)
    have own6 : (w5.alloc (.cells #[] 53)).ownsRow 0 53 2 (.slice (some ⟨w5.heap.size, 0, none⟩) 0 0) 0 (encs pgE []) := World.ownsRow_made w5 #[] 0 (Nat.zero_le _) (by decide) rfl
    have x6 := x5.kept a6 (by simp)
    go_wp2_with (first
      | (refine wpList_append_any pgE_length (by decide) pgE_one rfl (.tmp 50) (.tmp 51) 22 rfl 53 _ 24 Tryd.underlying22 info_pg rfl _ 0 [] rfl own6 A1 c1 P1 (by show _ = Value.slice A1 P1.length c1; rw [← hm1.out]; rfl) x6 (by have := hm1.out; unfold maxLen; omega) (by have := hm1.out; omega) ?_; intro v7 w7 own7 g7 t7
         obtain ⟨A3, c3, rfl, n7, k7, q7⟩ := copied hm1.out (by rw [hm1.out]; exact own7) g7 t7
         have x7 := x5.kept k7 (by simp)
         have y7 := y5.kept k7 (by simp)
         have r7 := r5.kept k7 (by simp)
         have hA7 := hA5.kept k7 (by simp)
         have kk7 := kk5.trans k7
         have n1' : ∀ a, A3 = some a → a.block ≠ q := fun a ha => by have := q7 a ha; omega
         have z7 := k7.size
         clear own6 x6 a6 own7 g7 t7 k7 q7 x5 y5 r5 hA5 kk5
         have own8 : (w7.alloc (.cells #[] 53)).ownsRow 0 53 2 (.slice (some ⟨w7.heap.size, 0, none⟩) 0 0) 0 (encs pgE []) := World.ownsRow_made w7 #[] 0 (Nat.zero_le _) (by decide) rfl
         have y8 := y7.kept ((Only.refl [] w7).alloc (.cells #[] 53)) (by simp))
      | (refine wpList_append_any pgE_length (by decide) pgE_one rfl (.tmp 53) (.tmp 54) 22 rfl 53 _ 24 Tryd.underlying22 info_pg rfl _ 0 [] rfl own8 A2 c2 P2 (by show _ = Value.slice A2 P2.length c2; rw [← hm2.out]; rfl) y8 (by have := hm2.out; unfold maxLen; omega) (by have := hm2.out; omega) ?_; intro v9 w9 own9 g9 t9))
    obtain ⟨A4, c4, rfl, p9, k9, q9⟩ := copied hm2.out (by rw [hm2.out]; exact own9) g9 t9
    have x9 := x7.kept k9 (by simp)
    have y9 := y7.kept k9 (by simp)
    have n9 := n7.kept k9 (by simp)
    have r9 := r7.kept k9 (by simp)
    have hA9 := hA7.kept k9 (by simp)
    have kk9 := kk7.trans k9
    have p1' : ∀ a, A4 = some a → a.block ≠ q := fun a ha => by have := q9 a ha; omega
    clear own8 y8 own9 g9 t9 k9 q9 x7 y7 n7 r7 hA7 kk7 z7 z45 z56 hq5 hqlt
    go_wp2_with fail
    refine (s0 _ _ _ _ _ r9.els hA9).mono ?_; rintro e w10 ⟨rfl, k10⟩
    have x10 := x9.kept k10 (by simp)
    have y10 := y9.kept k10 (by simp)
    have n10 := n9.kept k10 (by simp)
    have p10 := p9.kept k10 (by simp)
    have r10 := r9.kept k10 (by simp)
    have kk10 := kk9.trans k10
    have hqw : w.heap.size ≤ q := by have := hq.out; have := kk1.size; omega
    clear x9 y9 n9 p9 r9 hA9 kk9 k10 s0
    replace x1' := Lib.hid x1'
    replace y1' := Lib.hid y1'
    replace n1' := Lib.hid n1'
    replace p1' := Lib.hid p1'
    go_wp2_with fail
    go_loopw [14] (fun i wr => ∃ (k : Nat) (L : List Pg), k ≤ n ∧ i = .int .i64 k ∧ L.length = n ∧ RoomB wr q (L ++ List.replicate 3 zpg) ∧ Only [q] w10 wr) (fun i _ => n - (intOf i).toNat)
    case atStart => exact ⟨0, o, Nat.zero_le _, rfl, HN.out.symm, r10, Only.refl _ _⟩
    case round =>
      obtain ⟨k, L, hk, rfl, hL, hr, honly⟩ := hrel
      by_cases hlt : k < n
      · obtain ⟨b0, b1⟩ := hr.at (i := k) (by rw [List.length_append]; omega)
        have f0 := hr.free (k * 2)
        have f1 := hr.free (k * 2 + 1)
        have hset := hr.set k ⟨31, [103, 111, 110, 101]⟩
        rw [List.set_append_left _ _ (by omega)] at hset
        simp only at hset
        rw [show strOf [103, 111, 110, 101] = ⟨#[103, 111, 110, 101]⟩ from rfl] at hset
        have ho2 : Only [q] w10 ((wr.setCell ⟨q, k * 2, none⟩ (.int .i64 31)).setCell ⟨q, k * 2 + 1, none⟩ (.string ⟨#[103, 111, 110, 101]⟩)) := (honly.setCell (.inl (by simp)) _).setCell (.inl (by simp)) _
        generalize (L ++ List.replicate 3 zpg)[k]'(by rw [List.length_append]; omega) = zz at *
        obtain ⟨zn, zd⟩ := zz
        simp only at b0 b1
        generalize strOf zd = zs at *
        replace hset := Lib.hid hset
        replace ho2 := Lib.hid ho2
        have hL2 : Hid ((L.set k ⟨31, [103, 111, 110, 101]⟩).length = n) := by
          show (L.set k ⟨31, [103, 111, 110, 101]⟩).length = n
          rw [List.length_set]; exact hL
        replace hL := Lib.hid hL
        clear hr honly
        go_wp2
        go_roundw
        case rel => exact ⟨k + 1, _, by omega, by go_num, hL2.out, hset.out, ho2.out⟩
        case measure => simp [intOf]; omega
      · have x11 := x10.kept honly (fun a ha => by simpa using x1'.out a ha)
        have y11 := y10.kept honly (fun a ha => by simpa using y1'.out a ha)
        have n11 := n10.kept honly (fun a ha => by simpa using n1'.out a ha)
        have p11 := p10.kept honly (fun a ha => by simpa using p1'.out a ha)
        have kk11 : Only [] w wr := kk10.then honly (fun i hi => by simp at hi; subst hi; exact .inr hqw)
        replace hL := Lib.hid hL
        replace kk11 := Lib.hid kk11
        clear x10 y10 n10 p10 kk10 honly r10
        have hc3 : ((n + 3 : Nat) : Int) = (n : Int) + 3 := by omega
        obtain ⟨w12, hw12⟩ : ∃ w12, w12 = wr := ⟨_, rfl⟩
        subst hw12
        go_wp2_with fail
        go_loopw [16] (fun i wr => ∃ t : Nat, n ≤ t ∧ t ≤ n + 3 ∧ i = .int .i64 t ∧ wr = w12) (fun i _ => n + 3 - (intOf i).toNat)
        case atStart => exact ⟨n, Nat.le_refl _, by omega, rfl, rfl⟩
        case round =>
          obtain ⟨t, ht1, ht2, rfl, rfl⟩ := hrel
          by_cases hlt2 : t < n + 3
          · have hti : t < (L ++ List.replicate 3 zpg).length := by rw [List.length_append, List.length_replicate, hL.out]; exact hlt2
            obtain ⟨b0, b1⟩ := hr.at hti
            rw [zpg_at hL.out ht1 hti] at b0 b1
            simp only [zpg] at b0 b1
            rw [show strOf [] = ⟨#[]⟩ from rfl] at b1
            have hlt3 : (t : Int) < (n : Int) + 3 := by omega
            replace hr := Lib.hid hr
            go_wp2_with fail
            go_roundw
            case rel => exact ⟨t + 1, by omega, by omega, by go_num, trivial⟩
            case measure => simp [intOf]; omega
          · have hge : ¬ (t : Int) < (n : Int) + 3 := by omega
            clear hr
            go_wp2_with fail
            refine (alive_any _).mono ?_; rintro e w13 ⟨rfl, k13⟩
            have x13 := x11.kept k13 (by simp)
            have y13 := y11.kept k13 (by simp)
            have n13 := n11.kept k13 (by simp)
            have p13 := p11.kept k13 (by simp)
            clear x11 y11 n11 p11
            go_wp2_with fail
            refine (s1 _ _ _ _ _ x13 n13).mono ?_; rintro e w14 ⟨rfl, k14⟩
            have y14 := y13.kept k14 (by simp)
            have p14 := p13.kept k14 (by simp)
            clear x13 y13 n13 p13
            go_wp2_with fail
            refine (s2 _ _ _ _ _ y14 p14).mono ?_; rintro e w15 ⟨rfl, k15⟩
            have kend := Lib.hid (((kk11.out.trans k13).trans k14).trans k15)
            clear k13 k14 k15 kk11 y14 p14 s1 s2
            rcases he1.out with h | ⟨h, h'⟩ <;> rcases he2.out with g | ⟨g, g'⟩
            all_goals
              replace he1 := Lib.hid he1
              replace he2 := Lib.hid he2
              subst h
              subst g
              (try subst h')
              (try subst g')
              go_wp2
              go_ret
              exact ⟨rfl, kend.out⟩

end Go.Proofs.YtchlcmgdfbabdaaDoor.Pgs
