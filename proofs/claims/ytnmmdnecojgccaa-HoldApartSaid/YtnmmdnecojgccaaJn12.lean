/- Join: a client without a hold asks, where no other one's conflicts. -/
import Derived.Test.YtnmmdnecojgccaaJoin12
namespace Go.Proofs.Ytnmmdnecojgccaa
open Go.RowKit
set_option linter.unusedVariables false

/-- What is answered: a lock and a number. -/
def PairS (S : List Nat) (w w' : World) (e : Ending) (R : Lk × Int) : Prop := ∃ v, e = .returned (.tuple #[lkV R.1 v, .int .i64 R.2]) ∧ Hs S w w' v R.1.hs
theorem turn_hs (L : Lk) : (turnL L).hs = if L.epoch = 4294967295 then L.hs else [] := by unfold turnL; split <;> rfl
theorem Hs.turn {S : List Nat} {w w1 : World} {v : Value} {L : Lk} (h : Hs S w w1 v L.hs) : Hs S w w1 (turnV L v) (turnL L).hs := by
  unfold turnV
  rw [turn_hs]
  split
  · exact h
  · exact Hs.start h.only
theorem turnV_one {L : Lk} {v : Value} (h : v.oneCell' = true) : (turnV L v).oneCell' = true := by unfold turnV; split; exact h; rfl

set_option maxRecDepth 100000 in
set_option maxHeartbeats 4000000 in
theorem join_any (w : World) (L : Lk) (v : Value) (c m : Int) (hown : w.ownsRow 0 47 2 v L.hs.length (encs holE L.hs)) (hr : L.hs.Pairwise cliLt) (hl : L.hs.length ≤ 1000) (he : 0 ≤ L.epoch ∧ L.epoch ≤ 4294967295) :
    Calls Try.prog 26 #[lkV L v, .int .u32 c, .int .u32 m] w fun e w' => PairS v.ownBlock.toList w w' e (joinL L c m) := by
  obtain ⟨R, hR⟩ : ∃ R, R = joinL L c m := ⟨_, rfl⟩
  rw [← hR]
  have r3 : L.fenced = false → R = (L, 3) := fun h => by rw [hR]; unfold joinL; rw [if_pos h]
  have rt : L.fenced = true → ¬ mayJ L.used m → R = (turnL L, 3) := fun h h2 => by rw [hR]; unfold joinL; rw [if_neg (by simp [h]), if_pos h2]
  have r2 : L.fenced = true → mayJ L.used m → 4 ≤ L.hs.length → R = (L, 2) := fun h h2 h3 => by rw [hR]; unfold joinL; rw [if_neg (by simp [h]), if_neg (fun k => k h2), if_pos h3]
  have r1 : L.fenced = true → mayJ L.used m → ¬ 4 ≤ L.hs.length → R = (⟨L.file, L.epoch, maxI L.used m, L.cut, L.fenced, L.gone, insH L.hs ⟨c, m⟩⟩, 1) := fun h h2 h3 => by rw [hR]; unfold joinL; rw [if_neg (by simp [h]), if_neg (fun k => k h2), if_neg h3]
  clear hR
  have h0 := Hs.self hown
  obtain ⟨A, d, rfl, hel, hcc, _, _⟩ := h0.shape
  have hvl := own_lt hown
  have hP := fun W (k : Only [] w W) => place_any W L A d c (hel.kept k (by simp)) hr (by omega)
  have hT := fun W => turned_any W L A d he
  have hTo := turnV_one (L := L) (v := .slice A L.hs.length d) rfl
  have hTh : Hs (Value.slice A L.hs.length d).ownBlock.toList w w (turnV L (.slice A L.hs.length d)) (turnL L).hs := h0.turn
  generalize htl : turnL L = TL at *
  generalize htv : turnV L (.slice A L.hs.length d) = TV at *
  obtain ⟨f, ep, u, ct, fe, go, l⟩ := L
  simp only at hown hl hr he r3 rt r2 r1 hel hcc hP hT h0 hTh hvl htl htv
  have T := two_new w f ep u ct fe go l (.slice A l.length d)
  generalize hwb : ((w.alloc (.cells #[.int .u32 f, .int .u32 ep, .int .u32 u, .int .u32 ct, .bool fe, .bool go, .slice A l.length d] 25)).alloc (.cells #[.int .u32 0, .int .u32 0, .int .u32 0, .int .u32 0, .bool false, .bool false, .slice none 0 0] 25)) = wb at T
  replace hwb := Lib.hid hwb
  obtain ⟨k2, b2, z2, hsz⟩ := T
  simp only [lkV] at hP hT ⊢
  obtain ⟨S, hS⟩ : ∃ S, S = (Value.slice A l.length d).ownBlock := ⟨_, rfl⟩
  rw [← hS] at hvl h0 hTh ⊢
  have n0 : S ≠ some w.heap.size := by intro h; have := hvl _ h; omega
  have n1 : S ≠ some (w.heap.size + 1) := by intro h; have := hvl _ h; omega
  have hI := fun W q (h : Hs S.toList W W (.slice A l.length d) l) (hq : Blk W q 47 (holA ⟨c, m⟩)) (hne : ∀ g, (Value.slice A l.length d).ownBlock = some g → g ≠ q) => insert_any S.toList W W _ l (posC l c) ⟨c, m⟩ q h (posC_le l c) hl hq hne
  have hins : l.take (posC l c) ++ ⟨c, m⟩ :: l.drop (posC l c) = insH l ⟨c, m⟩ := rfl
  rw [hins] at hI
  generalize posC l c = p at *
  have hel0 := hel
  replace hel0 := Lib.hid hel0
  replace hS := Lib.hid hS
  replace hsz := Lib.hid hsz
  replace htl := Lib.hid htl
  replace htv := Lib.hid htv
  replace hP := Lib.hid hP
  replace hT := Lib.hid hT
  replace hI := Lib.hid hI
  replace hTh := Lib.hid hTh
  replace r3 := Lib.hid r3
  replace rt := Lib.hid rt
  replace r2 := Lib.hid r2
  replace r1 := Lib.hid r1
  have hvl' := hvl
  replace hvl := Lib.hid hvl'
  have q0 := Lib.hid n0
  have q1 := Lib.hid n1
  have h00 := Lib.hid h0
  clear h0 hins hel hown hvl' n0 n1 hr he hl
  obtain ⟨c0, c1, c2, c3, c4, c5, c6⟩ := b2.at (Only.refl [] _) (by simp)
  cases hfe : fe with
  | false =>
    obtain rfl := r3.out hfe
    subst hfe
    clear rt r2 r1
    have hcs : (m = 1 ∧ u ≠ 2) ∨ (m = 1 ∧ u = 2) ∨ (m ≠ 1 ∧ u = 0) ∨ (m ≠ 1 ∧ u ≠ 0) := by omega
    rcases hcs with hc | hc | hc | hc
    · have d1 : (m == 1) = true := by simpa using hc.1
      have d2 : (u != 2) = true := by simpa using hc.2
      replace hc := Lib.hid hc
      go_enter Try.func26, Try.ntmps26
      go_wp2_with (first | (rw [hwb.out]) | (refine wpList_store_lk ⟨f, ep, u, ct, false, go, l⟩ noL (.slice A l.length d) _ rfl rfl _ _ rfl (w.heap.size + 1) rfl rfl z2 ?_; intro w5 b5 k5))
      refine bodyPost_ret (v := .tuple #[lkV ⟨f, ep, u, ct, false, go, l⟩ (.slice A l.length d), .int .i64 3]) (results_lk1 rfl _ _ (w.heap.size + 1) rfl _ _ b5 _ rfl) rfl ?_
      exact ⟨_, rfl, (h00.out.kept k2).far k5 (by omega) (by rw [← hS.out]; exact q1.out)⟩
    · have d1 : (m == 1) = true := by simpa using hc.1
      have d2 : (u != 2) = false := by simpa using hc.2
      have d3 : (u != 0) = true := by have := hc.2; simp; omega
      replace hc := Lib.hid hc
      go_enter Try.func26, Try.ntmps26
      go_wp2_with (first | (rw [hwb.out]) | (refine wpList_store_lk ⟨f, ep, u, ct, false, go, l⟩ noL (.slice A l.length d) _ rfl rfl _ _ rfl (w.heap.size + 1) rfl rfl z2 ?_; intro w5 b5 k5))
      refine bodyPost_ret (v := .tuple #[lkV ⟨f, ep, u, ct, false, go, l⟩ (.slice A l.length d), .int .i64 3]) (results_lk1 rfl _ _ (w.heap.size + 1) rfl _ _ b5 _ rfl) rfl ?_
      exact ⟨_, rfl, (h00.out.kept k2).far k5 (by omega) (by rw [← hS.out]; exact q1.out)⟩
    · have d1 : (m == 1) = false := by simpa using hc.1
      have d3 : (u != 0) = false := by simpa using hc.2
      replace hc := Lib.hid hc
      go_enter Try.func26, Try.ntmps26
      go_wp2_with (first | (rw [hwb.out]) | (refine wpList_store_lk ⟨f, ep, u, ct, false, go, l⟩ noL (.slice A l.length d) _ rfl rfl _ _ rfl (w.heap.size + 1) rfl rfl z2 ?_; intro w5 b5 k5))
      refine bodyPost_ret (v := .tuple #[lkV ⟨f, ep, u, ct, false, go, l⟩ (.slice A l.length d), .int .i64 3]) (results_lk1 rfl _ _ (w.heap.size + 1) rfl _ _ b5 _ rfl) rfl ?_
      exact ⟨_, rfl, (h00.out.kept k2).far k5 (by omega) (by rw [← hS.out]; exact q1.out)⟩
    · have d1 : (m == 1) = false := by simpa using hc.1
      have d3 : (u != 0) = true := by simpa using hc.2
      replace hc := Lib.hid hc
      go_enter Try.func26, Try.ntmps26
      go_wp2_with (first | (rw [hwb.out]) | (refine wpList_store_lk ⟨f, ep, u, ct, false, go, l⟩ noL (.slice A l.length d) _ rfl rfl _ _ rfl (w.heap.size + 1) rfl rfl z2 ?_; intro w5 b5 k5))
      refine bodyPost_ret (v := .tuple #[lkV ⟨f, ep, u, ct, false, go, l⟩ (.slice A l.length d), .int .i64 3]) (results_lk1 rfl _ _ (w.heap.size + 1) rfl _ _ b5 _ rfl) rfl ?_
      exact ⟨_, rfl, (h00.out.kept k2).far k5 (by omega) (by rw [← hS.out]; exact q1.out)⟩
  | true =>
    subst hfe
    clear r3
    have hcs : (m = 1 ∧ u ≠ 2) ∨ (m = 1 ∧ u = 2) ∨ (m ≠ 1 ∧ u = 0) ∨ (m ≠ 1 ∧ u ≠ 0) := by omega
    rcases hcs with hc | hc | hc | hc
    · have d1 : (m == 1) = true := by simpa using hc.1
      have d2 : (u != 2) = true := by simpa using hc.2
      have hmay : mayJ u m := by have := hc; unfold mayJ; omega
      replace hc := Lib.hid hc
      clear rt
      by_cases h4 : 4 ≤ l.length
      · obtain rfl := r2.out rfl hmay h4
        have d5 : decide ((4 : Int) ≤ (l.length : Int)) = true := decide_eq_true (by omega)
        have d6 : (4 : Int) ≤ (l.length : Int) := by omega
        clear r1 hmay h4
        go_enter Try.func26, Try.ntmps26
        go_wp2_with (first | (rw [hwb.out]) | (refine wpList_store_lk ⟨f, ep, u, ct, true, go, l⟩ noL (.slice A l.length d) _ rfl rfl _ _ rfl (w.heap.size + 1) rfl rfl z2 ?_; intro w5 b5 k5))
        refine bodyPost_ret (v := .tuple #[lkV ⟨f, ep, u, ct, true, go, l⟩ (.slice A l.length d), .int .i64 2]) (results_lk1 rfl _ _ (w.heap.size + 1) rfl _ _ b5 _ rfl) rfl ?_
        exact ⟨_, rfl, (h00.out.kept k2).far k5 (by omega) (by rw [← hS.out]; exact q1.out)⟩
      · obtain rfl := r1.out rfl hmay h4
        have d5 : decide ((4 : Int) ≤ (l.length : Int)) = false := decide_eq_false (by omega)
        have d6 : ¬ (4 : Int) ≤ (l.length : Int) := by omega
        clear r2 r1 hmay h4
        generalize insH l ⟨c, m⟩ = l2 at *
        obtain ⟨mx, hmx⟩ : ∃ mx, mx = maxI u m := ⟨_, rfl⟩
        rw [← hmx]
        have hmx2 : (if u < m then m else u) = mx := by rw [hmx]; rfl
        replace hmx := Lib.hid hmx
        replace hmx2 := Lib.hid hmx2
        go_enter Try.func26, Try.ntmps26
        go_wp2_with (rw [hwb.out])
        refine (hP.out _ k2).mono ?_; rintro e w3 ⟨rfl, k3⟩
        have z3 := z2.kept k3 (by simp)
        have b3 := b2.kept k3 (by simp)
        clear c0 c1 c2 c3 c4 c5 c6
        obtain ⟨c0, c1, c2, c3, c4, c5, c6⟩ := b3.at (Only.refl [] _) (by simp)
        have bq : Blk (w3.alloc (.cells #[.int .u32 c, .int .u32 m] 47)) w3.heap.size 47 (holA ⟨c, m⟩) := Blk.new _ _ _
        have kq := (Only.refl [] w3).alloc (.cells #[.int .u32 c, .int .u32 m] 47)
        have hm4 : Hs S.toList (w3.alloc (.cells #[.int .u32 c, .int .u32 m] 47)) (w3.alloc (.cells #[.int .u32 c, .int .u32 m] 47)) (.slice A l.length d) l := ⟨(((h00.out.kept k2).kept k3).kept kq).own, fun g hg => .inl (by rw [hS.out, hg]; simp), Only.refl _ _⟩
        have hne : ∀ g, (Value.slice A l.length d).ownBlock = some g → g ≠ w3.heap.size := fun g hg => by
          have h1 := hvl.out g (by rw [hS.out]; exact hg)
          have h2 := k2.size
          have h3 := k3.size
          omega
        have hsz3 := Nat.le_trans (Nat.le_of_eq hsz.out.symm) k3.size
        have z4 := z3.kept kq (by simp)
        have b4 := b3.kept kq (by simp)
        have k4 := (k2.trans k3).trans kq
        have hs4 := kq.size
        generalize hw4 : (w3.alloc (.cells #[.int .u32 c, .int .u32 m] 47)) = w4 at *
        replace hw4 := Lib.hid hw4
        replace hm4 := Lib.hid hm4
        replace hne := Lib.hid hne
        replace hsz3 := Lib.hid hsz3
        replace hs4 := Lib.hid hs4
        go_wp2_with (rw [hw4.out])
        refine (hI.out _ _ hm4.out bq hne.out).mono ?_; rintro e w5 ⟨v5, rfl, hm5⟩
        have s0 : w.heap.size ∉ S.toList := fun h => q0.out (by simpa using h)
        have s1 : w.heap.size + 1 ∉ S.toList := fun h => q1.out (by simpa using h)
        have z5 := z4.kept hm5.only s1
        have b5 := b4.kept hm5.only s0
        clear c0 c1 c2 c3 c4 c5 c6
        obtain ⟨c0, c1, c2, c3, c4, c5, c6⟩ := b5.at (Only.refl [] _) (by simp)
        have f6 := b5.free 6
        have f2 := b5.free 2
        obtain ⟨A', c', rfl, _, _, _, _⟩ := hm5.shape
        have m0 : (Value.slice A' l2.length c').ownBlock ≠ some w.heap.size := fun h => by
          rcases hm5.new _ h with a | a
          · exact s0 a
          · have := hsz3.out; have := hs4.out; omega
        have m1 : (Value.slice A' l2.length c').ownBlock ≠ some (w.heap.size + 1) := fun h => by
          rcases hm5.new _ h with a | a
          · exact s1 a
          · have := hsz3.out; have := hs4.out; omega
        have k6 : Only [w.heap.size] w5 ((w5.setCell ⟨w.heap.size, 6, none⟩ (.slice A' l2.length c')).setCell ⟨w.heap.size, 2, none⟩ (.int .u32 mx)) := ((Only.refl _ _).setCell (.inl (by simp)) _).setCell (.inl (by simp)) _
        have hm6 := (Hs.from k4 hm5).far k6 (Nat.le_refl _) m0
        have z6 := z5.kept k6 (by simp)
        replace hm6 := Lib.hid hm6
        clear hm5 k6 z5 b5 z4 b4 z3 b3 b2 z2 bq kq
        have hmx3 := hmx2.out
        by_cases hum : u < m
        · rw [if_pos hum] at hmx3
          go_wp2_with (first | (rw [hmx3]) | (refine wpList_store_lk ⟨f, ep, mx, ct, true, go, l2⟩ noL (.slice A' l2.length c') _ rfl rfl _ _ rfl (w.heap.size + 1) rfl rfl z6 ?_; intro w7 b7 k7))
          refine bodyPost_ret (v := .tuple #[lkV ⟨f, ep, mx, ct, true, go, l2⟩ (.slice A' l2.length c'), .int .i64 1]) (results_lk1 rfl _ _ (w.heap.size + 1) rfl _ _ b7 _ rfl) rfl ?_
          exact ⟨_, rfl, hm6.out.far k7 (by omega) m1⟩
        · rw [if_neg hum] at hmx3
          go_wp2_with (first | (rw [hmx3]) | (refine wpList_store_lk ⟨f, ep, mx, ct, true, go, l2⟩ noL (.slice A' l2.length c') _ rfl rfl _ _ rfl (w.heap.size + 1) rfl rfl z6 ?_; intro w7 b7 k7))
          refine bodyPost_ret (v := .tuple #[lkV ⟨f, ep, mx, ct, true, go, l2⟩ (.slice A' l2.length c'), .int .i64 1]) (results_lk1 rfl _ _ (w.heap.size + 1) rfl _ _ b7 _ rfl) rfl ?_
          exact ⟨_, rfl, hm6.out.far k7 (by omega) m1⟩
    · have d1 : (m == 1) = true := by simpa using hc.1
      have d2 : (u != 2) = false := by simpa using hc.2
      have d3 : (u != 0) = true := by have := hc.2; simp; omega
      obtain rfl := rt.out rfl (by have := hc; unfold mayJ; omega)
      replace hc := Lib.hid hc
      clear r2 r1
      go_enter Try.func26, Try.ntmps26
      go_wp2_with (rw [hwb.out])
      refine (hT.out _).mono ?_; rintro e w3 ⟨rfl, k3⟩
      have z3 := z2.kept k3 (by simp)
      have hm3 := Hs.kept (Hs.kept hTh.out k2) k3
      have hn1 : TV.ownBlock ≠ some (w.heap.size + 1) := fun h => by
        rcases hTh.out.new _ h with a | a
        · exact q1.out (by simpa using a)
        · have := (own_lt hTh.out.own _ h); omega
      replace hm3 := Lib.hid hm3
      replace hn1 := Lib.hid hn1
      clear c0 c1 c2 c3 c4 c5 c6 b2 z2
      go_wp2_with (refine wpList_store_lk TL noL TV _ hTo rfl _ _ rfl (w.heap.size + 1) rfl rfl z3 ?_; intro w5 b5 k5)
      refine bodyPost_ret (v := .tuple #[lkV TL TV, .int .i64 3]) (results_lk1 rfl _ _ (w.heap.size + 1) rfl _ _ b5 _ rfl) rfl ?_
      exact ⟨_, rfl, hm3.out.far k5 (by omega) hn1.out⟩
    · have d1 : (m == 1) = false := by simpa using hc.1
      have d3 : (u != 0) = false := by simpa using hc.2
      have hmay : mayJ u m := by have := hc; unfold mayJ; omega
      replace hc := Lib.hid hc
      clear rt
      by_cases h4 : 4 ≤ l.length
      · obtain rfl := r2.out rfl hmay h4
        have d5 : decide ((4 : Int) ≤ (l.length : Int)) = true := decide_eq_true (by omega)
        have d6 : (4 : Int) ≤ (l.length : Int) := by omega
        clear r1 hmay h4
        go_enter Try.func26, Try.ntmps26
        go_wp2_with (first | (rw [hwb.out]) | (refine wpList_store_lk ⟨f, ep, u, ct, true, go, l⟩ noL (.slice A l.length d) _ rfl rfl _ _ rfl (w.heap.size + 1) rfl rfl z2 ?_; intro w5 b5 k5))
        refine bodyPost_ret (v := .tuple #[lkV ⟨f, ep, u, ct, true, go, l⟩ (.slice A l.length d), .int .i64 2]) (results_lk1 rfl _ _ (w.heap.size + 1) rfl _ _ b5 _ rfl) rfl ?_
        exact ⟨_, rfl, (h00.out.kept k2).far k5 (by omega) (by rw [← hS.out]; exact q1.out)⟩
      · obtain rfl := r1.out rfl hmay h4
        have d5 : decide ((4 : Int) ≤ (l.length : Int)) = false := decide_eq_false (by omega)
        have d6 : ¬ (4 : Int) ≤ (l.length : Int) := by omega
        clear r2 r1 hmay h4
        generalize insH l ⟨c, m⟩ = l2 at *
        obtain ⟨mx, hmx⟩ : ∃ mx, mx = maxI u m := ⟨_, rfl⟩
        rw [← hmx]
        have hmx2 : (if u < m then m else u) = mx := by rw [hmx]; rfl
        replace hmx := Lib.hid hmx
        replace hmx2 := Lib.hid hmx2
        go_enter Try.func26, Try.ntmps26
        go_wp2_with (rw [hwb.out])
        refine (hP.out _ k2).mono ?_; rintro e w3 ⟨rfl, k3⟩
        have z3 := z2.kept k3 (by simp)
        have b3 := b2.kept k3 (by simp)
        clear c0 c1 c2 c3 c4 c5 c6
        obtain ⟨c0, c1, c2, c3, c4, c5, c6⟩ := b3.at (Only.refl [] _) (by simp)
        have bq : Blk (w3.alloc (.cells #[.int .u32 c, .int .u32 m] 47)) w3.heap.size 47 (holA ⟨c, m⟩) := Blk.new _ _ _
        have kq := (Only.refl [] w3).alloc (.cells #[.int .u32 c, .int .u32 m] 47)
        have hm4 : Hs S.toList (w3.alloc (.cells #[.int .u32 c, .int .u32 m] 47)) (w3.alloc (.cells #[.int .u32 c, .int .u32 m] 47)) (.slice A l.length d) l := ⟨(((h00.out.kept k2).kept k3).kept kq).own, fun g hg => .inl (by rw [hS.out, hg]; simp), Only.refl _ _⟩
        have hne : ∀ g, (Value.slice A l.length d).ownBlock = some g → g ≠ w3.heap.size := fun g hg => by
          have h1 := hvl.out g (by rw [hS.out]; exact hg)
          have h2 := k2.size
          have h3 := k3.size
          omega
        have hsz3 := Nat.le_trans (Nat.le_of_eq hsz.out.symm) k3.size
        have z4 := z3.kept kq (by simp)
        have b4 := b3.kept kq (by simp)
        have k4 := (k2.trans k3).trans kq
        have hs4 := kq.size
        generalize hw4 : (w3.alloc (.cells #[.int .u32 c, .int .u32 m] 47)) = w4 at *
        replace hw4 := Lib.hid hw4
        replace hm4 := Lib.hid hm4
        replace hne := Lib.hid hne
        replace hsz3 := Lib.hid hsz3
        replace hs4 := Lib.hid hs4
        go_wp2_with (rw [hw4.out])
        refine (hI.out _ _ hm4.out bq hne.out).mono ?_; rintro e w5 ⟨v5, rfl, hm5⟩
        have s0 : w.heap.size ∉ S.toList := fun h => q0.out (by simpa using h)
        have s1 : w.heap.size + 1 ∉ S.toList := fun h => q1.out (by simpa using h)
        have z5 := z4.kept hm5.only s1
        have b5 := b4.kept hm5.only s0
        clear c0 c1 c2 c3 c4 c5 c6
        obtain ⟨c0, c1, c2, c3, c4, c5, c6⟩ := b5.at (Only.refl [] _) (by simp)
        have f6 := b5.free 6
        have f2 := b5.free 2
        obtain ⟨A', c', rfl, _, _, _, _⟩ := hm5.shape
        have m0 : (Value.slice A' l2.length c').ownBlock ≠ some w.heap.size := fun h => by
          rcases hm5.new _ h with a | a
          · exact s0 a
          · have := hsz3.out; have := hs4.out; omega
        have m1 : (Value.slice A' l2.length c').ownBlock ≠ some (w.heap.size + 1) := fun h => by
          rcases hm5.new _ h with a | a
          · exact s1 a
          · have := hsz3.out; have := hs4.out; omega
        have k6 : Only [w.heap.size] w5 ((w5.setCell ⟨w.heap.size, 6, none⟩ (.slice A' l2.length c')).setCell ⟨w.heap.size, 2, none⟩ (.int .u32 mx)) := ((Only.refl _ _).setCell (.inl (by simp)) _).setCell (.inl (by simp)) _
        have hm6 := (Hs.from k4 hm5).far k6 (Nat.le_refl _) m0
        have z6 := z5.kept k6 (by simp)
        replace hm6 := Lib.hid hm6
        clear hm5 k6 z5 b5 z4 b4 z3 b3 b2 z2 bq kq
        have hmx3 := hmx2.out
        by_cases hum : u < m
        · rw [if_pos hum] at hmx3
          go_wp2_with (first | (rw [hmx3]) | (refine wpList_store_lk ⟨f, ep, mx, ct, true, go, l2⟩ noL (.slice A' l2.length c') _ rfl rfl _ _ rfl (w.heap.size + 1) rfl rfl z6 ?_; intro w7 b7 k7))
          refine bodyPost_ret (v := .tuple #[lkV ⟨f, ep, mx, ct, true, go, l2⟩ (.slice A' l2.length c'), .int .i64 1]) (results_lk1 rfl _ _ (w.heap.size + 1) rfl _ _ b7 _ rfl) rfl ?_
          exact ⟨_, rfl, hm6.out.far k7 (by omega) m1⟩
        · rw [if_neg hum] at hmx3
          go_wp2_with (first | (rw [hmx3]) | (refine wpList_store_lk ⟨f, ep, mx, ct, true, go, l2⟩ noL (.slice A' l2.length c') _ rfl rfl _ _ rfl (w.heap.size + 1) rfl rfl z6 ?_; intro w7 b7 k7))
          refine bodyPost_ret (v := .tuple #[lkV ⟨f, ep, mx, ct, true, go, l2⟩ (.slice A' l2.length c'), .int .i64 1]) (results_lk1 rfl _ _ (w.heap.size + 1) rfl _ _ b7 _ rfl) rfl ?_
          exact ⟨_, rfl, hm6.out.far k7 (by omega) m1⟩
    · have d1 : (m == 1) = false := by simpa using hc.1
      have d3 : (u != 0) = true := by simpa using hc.2
      obtain rfl := rt.out rfl (by have := hc; unfold mayJ; omega)
      replace hc := Lib.hid hc
      clear r2 r1
      go_enter Try.func26, Try.ntmps26
      go_wp2_with (rw [hwb.out])
      refine (hT.out _).mono ?_; rintro e w3 ⟨rfl, k3⟩
      have z3 := z2.kept k3 (by simp)
      have hm3 := Hs.kept (Hs.kept hTh.out k2) k3
      have hn1 : TV.ownBlock ≠ some (w.heap.size + 1) := fun h => by
        rcases hTh.out.new _ h with a | a
        · exact q1.out (by simpa using a)
        · have := (own_lt hTh.out.own _ h); omega
      replace hm3 := Lib.hid hm3
      replace hn1 := Lib.hid hn1
      clear c0 c1 c2 c3 c4 c5 c6 b2 z2
      go_wp2_with (refine wpList_store_lk TL noL TV _ hTo rfl _ _ rfl (w.heap.size + 1) rfl rfl z3 ?_; intro w5 b5 k5)
      refine bodyPost_ret (v := .tuple #[lkV TL TV, .int .i64 3]) (results_lk1 rfl _ _ (w.heap.size + 1) rfl _ _ b5 _ rfl) rfl ?_
      exact ⟨_, rfl, hm3.out.far k5 (by omega) hn1.out⟩
end Go.Proofs.Ytnmmdnecojgccaa
