/- HoldReaders: readers don't disturb one another. -/
import Derived.Test.YtnmmdnecojgccaaAlive12
namespace Go.Proofs.Ytnmmdnecojgccaa
open Go.RowKit
set_option linter.unusedVariables false

theorem modeH_mem {l : List Hol} (h : l.Pairwise cliLt) {x : Hol} (hx : x ∈ l) : modeH l x.client = x.mode := modeH_some (findC_mem h hx)
/-- What a reader who asks is told. -/
structure ReadsP (L : Lk) (cl : Int) (R : Lk × Int × Int) : Prop where
  ok : R.2.2 = 0
  hold : ∀ x ∈ L.hs, modeL R.1 x.client = x.mode
  full : L.hs.length = 4 → modeL L cl = 0 → R.2.1 = 2
  told : ¬ (L.hs.length = 4 ∧ modeL L cl = 0) → R.2.1 = 1 ∧ modeL R.1 cl = 1 ∧ R.1.epoch = L.epoch
theorem reads {L : Lk} (h : RightP L) (hf : L.fenced = true) (hg : L.gone = false) (hu : L.used ≠ 2) (cl : Int) : ReadsP L cl (askL L cl 1) := by
  have hu2 := h.used
  have hmode : ∀ x ∈ L.hs, x.mode = 1 := fun x hx => by
    have := h.ok x hx
    unfold okH at this
    omega
  have ho : othersL L.hs cl 1 = [] := by
    unfold othersL
    rw [List.map_eq_nil_iff, List.filter_eq_nil_iff]
    intro x hx
    have := hmode x hx
    simp [isO, this]
  have hrm : RightP L ∧ ((1 : Int) = 1 ∨ (1 : Int) = 2) := ⟨h, .inl rfl⟩
  have hmL : modeL L cl = modeH L.hs cl := if_pos h
  cases hc : findC L.hs cl with
  | some x =>
    have hx := findC_some hc
    have hm1 : modeH L.hs cl = 1 := by rw [modeH_some hc, hmode x hx.1]
    rw [ask_has hrm hg ho (by rw [hm1]; decide)]
    refine ⟨rfl, fun y hy => ?_, fun _ h0 => ?_, fun _ => ⟨rfl, ?_, rfl⟩⟩
    · show modeL L y.client = y.mode
      rw [show modeL L y.client = modeH L.hs y.client from if_pos h, modeH_mem h.rise hy]
    · rw [hmL, hm1] at h0
      cases h0
    · show modeL L cl = 1
      rw [hmL, hm1]
  | none =>
    have hm0 : modeH L.hs cl = 0 := modeH_none hc
    have hw : withL L (withoutH L.hs cl) = L := by rw [without_none hc]; rfl
    have hr := h.ask (c := cl) (m := 1) (.inl rfl)
    rw [ask_join hrm hg ho (by rw [hm0]; decide), hw] at hr ⊢
    unfold joinL at hr ⊢
    rw [if_neg (by simp [hf]), if_neg (fun k => k (.inl ⟨rfl, hu⟩))] at hr ⊢
    by_cases h4 : 4 ≤ L.hs.length
    · rw [if_pos h4] at hr ⊢
      refine ⟨rfl, fun y hy => ?_, fun _ _ => rfl, fun hn => ?_⟩
      · show modeL L y.client = y.mode
        rw [show modeL L y.client = modeH L.hs y.client from if_pos h, modeH_mem h.rise hy]
      · exact absurd ⟨by have := h.len; omega, by rw [hmL, hm0]⟩ hn
    · rw [if_neg h4] at hr ⊢
      have hri := hr.rise
      simp only at hri
      refine ⟨rfl, fun y hy => ?_, fun h0 _ => by omega, fun _ => ⟨rfl, ?_, rfl⟩⟩
      · simp only
        rw [show ∀ c, modeL ⟨L.file, L.epoch, maxI L.used 1, L.cut, L.fenced, L.gone, insH L.hs ⟨cl, 1⟩⟩ c = modeH (insH L.hs ⟨cl, 1⟩) c from fun c => if_pos hr]
        exact modeH_mem hri (ins_mem.2 (.inr hy))
      · simp only
        rw [show ∀ c, modeL ⟨L.file, L.epoch, maxI L.used 1, L.cut, L.fenced, L.gone, insH L.hs ⟨cl, 1⟩⟩ c = modeH (insH L.hs ⟨cl, 1⟩) c from fun c => if_pos hr]
        exact modeH_mem (x := ⟨cl, 1⟩) hri (ins_mem.2 (.inl rfl))

set_option maxRecDepth 100000 in
set_option maxHeartbeats 8000000 in
theorem holdReaders_walk (w : World) (L : Lk) (A : Option Addr) (c : Nat) (cl : Int) (hb : Els holE 2 w A L.hs) (hl : L.hs.length ≤ 9223372036854775807) (he : 0 ≤ L.epoch ∧ L.epoch ≤ 4294967295) :
    Calls Try.prog 6 #[lkV L (.slice A L.hs.length c), .int .u32 cl] w fun e w' => e = .returned (.bool true) ∧ Only [] w w' := by
  have hRt := fun W (k : Only [] w W) => right_any W L A c (hb.kept k (by simp)) hl
  have hS := fun W (k : Only [] w W) => ask_any W L A c cl 1 (hb.kept k (by simp)) hl he
  have hM := fun W (k : Only [] w W) => mode_of W L A c cl (hb.kept k (by simp)) hl
  have hre := fun h hf hg hu => reads (L := L) h hf hg hu cl
  have hlen4 : RightP L → L.hs.length ≤ 4 := fun h => h.len
  obtain ⟨P, hP⟩ : ∃ P, P = decide (RightP L) := ⟨_, rfl⟩
  rw [← hP] at hRt
  have hPt : P = true → RightP L := fun h => by rw [hP] at h; exact of_decide_eq_true h
  clear hP
  have hre2 := fun h => hre (hPt h)
  have hlen42 := fun h => hlen4 (hPt h)
  clear hre hPt hlen4
  generalize askL L cl 1 = R at *
  obtain ⟨N, told, er⟩ := R
  have hMN := fun W B d cl' (h : Els holE 2 W B N.hs) (h2 : N.hs.length ≤ 9223372036854775807) => mode_of W N B d cl' h h2
  obtain ⟨f, ep, u, ct, fe, go, l⟩ := L
  have k0 := (Only.refl [] w).alloc (.cells #[.int .u32 f, .int .u32 ep, .int .u32 u, .int .u32 ct, .bool fe, .bool go, .slice A l.length c] 25)
  have b0 := Lx.new w f ep u ct fe go l (.slice A l.length c)
  simp only at hb hl he hre2 hlen42
  simp only [lkV] at hRt hS hM ⊢
  replace hRt := Lib.hid hRt
  replace hS := Lib.hid hS
  replace hM := Lib.hid hM
  replace hMN := Lib.hid hMN
  replace hre2 := Lib.hid hre2
  replace hlen42 := Lib.hid hlen42
  replace hb := Lib.hid hb
  go_enter Try.func6, Try.ntmps6
  go_wp2_with fail
  refine (alive_any _).mono ?_; rintro e w1 ⟨rfl, k1'⟩
  have k1 := k0.trans k1'
  have b1 := b0.kept k1' (by simp)
  obtain ⟨c0, c1, c2, c3, c4, c5, c6⟩ := b1.at (Only.refl [] _) (by simp)
  clear b0 k0 k1'
  by_cases h100 : (100 : Int) < (l.length : Int)
  · have d100 : decide ((100 : Int) < (l.length : Int)) = true := decide_eq_true h100
    go_wp2_with fail
    refine (alive_any _).mono ?_; rintro e wz ⟨rfl, kz⟩
    go_wp2
    go_ret
    exact ⟨rfl, k1.trans kz⟩
  have d100 : decide ((100 : Int) < (l.length : Int)) = false := decide_eq_false h100
  have hl100 : l.length ≤ 100 := by omega
  replace h100 := Lib.hid h100
  go_wp2_with fail
  refine (hRt.out _ k1).mono ?_; rintro e w2 ⟨rfl, k2'⟩
  have k2 := k1.trans k2'
  have b2 := b1.kept k2' (by simp)
  clear b1 k2' c0 c1 c2 c3 c4 c5 c6
  obtain ⟨c0, c1, c2, c3, c4, c5, c6⟩ := b2.at (Only.refl [] _) (by simp)
  cases P with
  | false =>
    go_wp2_with fail
    refine (alive_any _).mono ?_; rintro e wz ⟨rfl, kz⟩
    go_wp2
    go_ret
    exact ⟨rfl, k2.trans kz⟩
  | true =>
  cases hfe : fe with
  | false =>
    subst hfe
    go_wp2_with fail
    refine (alive_any _).mono ?_; rintro e wz ⟨rfl, kz⟩
    go_wp2
    go_ret
    exact ⟨rfl, k2.trans kz⟩
  | true =>
  cases hgo : go with
  | true =>
    subst hfe
    subst hgo
    go_wp2_with fail
    refine (alive_any _).mono ?_; rintro e wz ⟨rfl, kz⟩
    go_wp2
    go_ret
    exact ⟨rfl, k2.trans kz⟩
  | false =>
  by_cases hu2 : u = 2
  · have d2 : (u == 2) = true := by simpa using hu2
    subst hfe
    subst hgo
    replace hu2 := Lib.hid hu2
    go_wp2_with fail
    refine (alive_any _).mono ?_; rintro e wz ⟨rfl, kz⟩
    go_wp2
    go_ret
    exact ⟨rfl, k2.trans kz⟩
  obtain ⟨r1, r2, r3, r4⟩ := hre2.out rfl hfe hgo hu2
  have hl4 := hlen42.out rfl
  have d2 : (u == 2) = false := by simpa using hu2
  subst hfe
  subst hgo
  simp only at r1 r2 r3 r4
  subst r1
  replace r2 := Lib.hid r2
  replace r3 := Lib.hid r3
  replace r4 := Lib.hid r4
  replace hu2 := Lib.hid hu2
  clear hre2 hlen42 hRt
  go_wp2_with fail
  refine (hS.out _ k2).mono ?_; rintro e w3 ⟨v3, rfl, m3⟩
  simp only at m3
  obtain ⟨A3, d3, rfl, e3, _⟩ := m3.shape
  have hNl : N.hs.length ≤ 9223372036854775807 := by
    have := m3.own.1
    rw [encs_length holE_length] at this
    rcases m3.own.2 with ⟨_, h0⟩ | ⟨g, cap, cur, hv, _, _, hnc, hm, _⟩
    · omega
    · simp only [maxLen] at hm; omega
  obtain ⟨nf, ne, nu, nc, nfe, ngo, nl⟩ := N
  simp only at e3 hNl r2 r3 r4 hMN
  have hMN2 := fun W (k : Only [] w3 W) cl' => hMN.out W A3 d3 cl' (Els.kept e3 k (by simp)) hNl
  simp only [lkV] at hMN2
  generalize modeL ⟨f, ep, u, ct, true, false, l⟩ cl = ML at *
  generalize hMF : modeL ⟨nf, ne, nu, nc, nfe, ngo, nl⟩ = MF at *
  replace hMF := Lib.hid hMF
  replace hMN2 := Lib.hid hMN2
  have k3 := k2.trans m3.only
  have b3 := b2.kept m3.only (by simp)
  clear b2 m3 c0 c1 c2 c3 c4 c5 c6 hS e3 hMN hNl
  go_wp2_with (refine wpList_store_lk ⟨nf, ne, nu, nc, nfe, ngo, nl⟩ noL (.slice A3 nl.length d3) _ rfl rfl _ _ rfl w3.heap.size rfl rfl (Lx.zero w3) ?_; intro w4 b4 k4'; have k34 := laid k4'; have k4 := k3.trans k34; have b24 := Lx.kept b3 k34 (by simp); clear k4')
  clear b3
  have hqq : w.heap.size < w4.heap.size := b24.lt
  generalize w.heap.size = q at *
  generalize w3.heap.size = p at *
  go_loopw [9] (fun i wr => ∃ n : Nat, n ≤ l.length ∧ i = .int .i64 n ∧ Only [] w4 wr) (fun i _ => l.length - (intOf i).toNat)
  case atStart => exact ⟨0, Nat.zero_le _, rfl, Only.refl _ _⟩
  case round =>
    obtain ⟨n, hn, rfl, hk⟩ := hrel
    have kw := k4.trans hk
    have k3w := k34.trans hk
    by_cases hlt : n < l.length
    · obtain ⟨g, o, hA, _, hat⟩ := hb.out.get hlt
      have hx := r2.out l[n] (List.getElem_mem hlt)
      have hat2 := fun W (k : Only [] wr W) => hols_at (hat.kept (kw.trans k) (by simp)) hlt
      generalize l[n] = x at *
      obtain ⟨x0, x1⟩ := x
      simp only at hx hat2
      subst hA
      have KP : Hid (∀ w', Only [] wr w' → (w'.cell? ⟨p, 0, none⟩ = some (.int .u32 nf) ∧ w'.cell? ⟨p, 1, none⟩ = some (.int .u32 ne) ∧ w'.cell? ⟨p, 2, none⟩ = some (.int .u32 nu) ∧ w'.cell? ⟨p, 3, none⟩ = some (.int .u32 nc) ∧ w'.cell? ⟨p, 4, none⟩ = some (.bool nfe) ∧ w'.cell? ⟨p, 5, none⟩ = some (.bool ngo) ∧ w'.cell? ⟨p, 6, none⟩ = some (.slice A3 nl.length d3)) ∧ w'.cell? ⟨q, 6, none⟩ = some (.slice (some ⟨g, o, none⟩) l.length c) ∧ w'.cell? ⟨g, o + n * 2, none⟩ = some (.int .u32 x0) ∧ w'.cell? ⟨g, o + n * 2 + 1, none⟩ = some (.int .u32 x1)) := fun w' kk => ⟨Lx.at b4 (hk.trans kk) (by simp), (Lx.at b24 (hk.trans kk) (by simp)).2.2.2.2.2.2, (hat2 w' kk).1, (hat2 w' kk).2⟩
      have hMx := hMN2.out _ k3w.drew x0
      rw [hx] at hMx
      replace hMx := Lib.hid hMx
      replace hx := Lib.hid hx
      clear hat hat2
      go_wp2_with fail
      refine wp_region_held_drew (S := fun w' => (w'.cell? ⟨p, 0, none⟩ = some (.int .u32 nf) ∧ w'.cell? ⟨p, 1, none⟩ = some (.int .u32 ne) ∧ w'.cell? ⟨p, 2, none⟩ = some (.int .u32 nu) ∧ w'.cell? ⟨p, 3, none⟩ = some (.int .u32 nc) ∧ w'.cell? ⟨p, 4, none⟩ = some (.bool nfe) ∧ w'.cell? ⟨p, 5, none⟩ = some (.bool ngo) ∧ w'.cell? ⟨p, 6, none⟩ = some (.slice A3 nl.length d3)) ∧ w'.cell? ⟨q, 6, none⟩ = some (.slice (some ⟨g, o, none⟩) l.length c) ∧ w'.cell? ⟨g, o + n * 2, none⟩ = some (.int .u32 x0) ∧ w'.cell? ⟨g, o + n * 2 + 1, none⟩ = some (.int .u32 x1)) (by kernel_rfl) (KP.out _ (Only.refl _ _).drew) (fun hHeld => ?_)
      refine held_take 0 (.agg #[.int .u32 nf, .int .u32 ne, .int .u32 nu, .int .u32 nc, .bool nfe, .bool ngo, .slice A3 nl.length d3]) rfl (by kernel_rfl) (by kernel_rfl) (by kernel_rfl) (fun _ _ _ h => h) hHeld (Or.inl ⟨by rfl, fun w' hSw => by (try dsimp only at hSw); (try subst hSw); go_simp⟩) ?_
      simp only [Act.put, List.setIfInBounds_toArray, List.set_cons_zero, List.set_cons_succ]
      refine held_take 1 (.pointer (some ⟨q, 6, none⟩)) rfl (by kernel_rfl) (by kernel_rfl) (by kernel_rfl) (fun _ _ _ h => h) hHeld (Or.inl ⟨by rfl, fun w' hSw => by (try dsimp only at hSw); (try subst hSw); go_simp⟩) ?_
      simp only [Act.put, List.setIfInBounds_toArray, List.set_cons_zero, List.set_cons_succ]
      refine held_take 2 (.slice (some ⟨g, o, none⟩) l.length c) rfl (by kernel_rfl) (by kernel_rfl) (by kernel_rfl) (fun _ _ _ h => h) hHeld (Or.inl ⟨by rfl, fun w' hSw => by (try dsimp only at hSw); (try subst hSw); go_simp⟩) ?_
      simp only [Act.put, List.setIfInBounds_toArray, List.set_cons_zero, List.set_cons_succ]
      refine held_take 3 (.int .i64 n) rfl (by kernel_rfl) (by kernel_rfl) (by kernel_rfl) (fun _ _ _ h => h) hHeld (Or.inl ⟨by rfl, fun w' hSw => by (try dsimp only at hSw); (try subst hSw); go_simp⟩) ?_
      simp only [Act.put, List.setIfInBounds_toArray, List.set_cons_zero, List.set_cons_succ]
      refine held_take 4 (.pointer (some ⟨g, o + n * 2, none⟩)) rfl (by kernel_rfl) (by kernel_rfl) (by kernel_rfl) (fun _ _ _ h => h) hHeld (Or.inl ⟨by rfl, fun w' hSw => by (try dsimp only at hSw); (try subst hSw); go_simp⟩) ?_
      simp only [Act.put, List.setIfInBounds_toArray, List.set_cons_zero, List.set_cons_succ]
      refine held_take 5 (.pointer (some ⟨g, o + n * 2, none⟩)) rfl (by kernel_rfl) (by kernel_rfl) (by kernel_rfl) (fun _ _ _ h => h) hHeld (Or.inl ⟨by rfl, fun w' hSw => by (try dsimp only at hSw); (try subst hSw); go_simp⟩) ?_
      simp only [Act.put, List.setIfInBounds_toArray, List.set_cons_zero, List.set_cons_succ]
      refine held_take 6 (.int .u32 x0) rfl (by kernel_rfl) (by kernel_rfl) (by kernel_rfl) (fun _ _ _ h => h) hHeld (Or.inl ⟨by rfl, fun w' hSw => by (try dsimp only at hSw); (try subst hSw); go_simp⟩) ?_
      simp only [Act.put, List.setIfInBounds_toArray, List.set_cons_zero, List.set_cons_succ]
      refine held_take 8 (.pointer (some ⟨q, 6, none⟩)) rfl (by kernel_rfl) (by kernel_rfl) (by kernel_rfl) (fun _ _ _ h => h) hHeld (Or.inl ⟨by rfl, fun w' hSw => by (try dsimp only at hSw); (try subst hSw); go_simp⟩) ?_
      simp only [Act.put, List.setIfInBounds_toArray, List.set_cons_zero, List.set_cons_succ]
      refine held_take 9 (.slice (some ⟨g, o, none⟩) l.length c) rfl (by kernel_rfl) (by kernel_rfl) (by kernel_rfl) (fun _ _ _ h => h) hHeld (Or.inl ⟨by rfl, fun w' hSw => by (try dsimp only at hSw); (try subst hSw); go_simp⟩) ?_
      simp only [Act.put, List.setIfInBounds_toArray, List.set_cons_zero, List.set_cons_succ]
      refine held_take 10 (.int .i64 n) rfl (by kernel_rfl) (by kernel_rfl) (by kernel_rfl) (fun _ _ _ h => h) hHeld (Or.inl ⟨by rfl, fun w' hSw => by (try dsimp only at hSw); (try subst hSw); go_simp⟩) ?_
      simp only [Act.put, List.setIfInBounds_toArray, List.set_cons_zero, List.set_cons_succ]
      refine held_take 11 (.pointer (some ⟨g, o + n * 2, none⟩)) rfl (by kernel_rfl) (by kernel_rfl) (by kernel_rfl) (fun _ _ _ h => h) hHeld (Or.inl ⟨by rfl, fun w' hSw => by (try dsimp only at hSw); (try subst hSw); go_simp⟩) ?_
      simp only [Act.put, List.setIfInBounds_toArray, List.set_cons_zero, List.set_cons_succ]
      refine held_take 12 (.pointer (some ⟨g, o + n * 2 + 1, none⟩)) rfl (by kernel_rfl) (by kernel_rfl) (by kernel_rfl) (fun _ _ _ h => h) hHeld (Or.inl ⟨by rfl, fun w' hSw => by (try dsimp only at hSw); (try subst hSw); go_simp⟩) ?_
      simp only [Act.put, List.setIfInBounds_toArray, List.set_cons_zero, List.set_cons_succ]
      refine held_take 13 (.int .u32 x1) rfl (by kernel_rfl) (by kernel_rfl) (by kernel_rfl) (fun _ _ _ h => h) hHeld (Or.inl ⟨by rfl, fun w' hSw => by (try dsimp only at hSw); (try subst hSw); go_simp⟩) ?_
      simp only [Act.put, List.setIfInBounds_toArray, List.set_cons_zero, List.set_cons_succ]
      refine held_step 7 rfl (by kernel_rfl) (fun K hK => ?_)
      go_simp
      refine hMx.out.mono ?_; rintro e w5 ⟨rfl, k5'⟩; replace k5' := k5'.undrew
      go_wp2_with fail
      refine hK.out _ _ (KP.out _ k5') (fun hHeld => ?_)
      clear hK K
      refine held_take 14 (.bool false) rfl (by kernel_rfl) (by kernel_rfl) (by kernel_rfl) (fun _ _ _ h => h) hHeld (Or.inl ⟨by rfl, fun w' hSw => by (try dsimp only at hSw); (try subst hSw); go_simp⟩) ?_
      simp only [Act.put, List.setIfInBounds_toArray, List.set_cons_zero, List.set_cons_succ]
      refine wpAnyH_done (by kernel_rfl) ?_ _
      clear hHeld
      clear KP
      go_wp2_with fail
      go_roundw
      case rel => exact ⟨n + 1, by omega, by go_num, hk.trans k5'⟩
      case measure => simp [intOf]; omega
    · obtain ⟨c0, c1, c2, c3, c4, c5, c6⟩ := Lx.at b24 hk (by simp)
      by_cases hfull : l.length = 4 ∧ ML = 0
      · have ht := r3.out hfull.1 hfull.2
        have d4 : ((l.length : Int) == 4) = true := by simp; omega
        have d4' : (l.length : Int) = 4 := by omega
        have hML := hfull.2
        subst hML
        subst ht
        replace hfull := Lib.hid hfull
        clear hl4 hl100
        go_wp2_with fail
        refine (hM.out _ kw).mono ?_; rintro e w5 ⟨rfl, k5⟩
        go_wp2_with fail
        refine (alive_any _).mono ?_; rintro e wz ⟨rfl, kz⟩
        go_wp2
        go_ret
        exact ⟨rfl, (kw.trans k5).trans kz⟩
      obtain ⟨t1, t2, t3⟩ := r4.out hfull
      subst t1
      subst t3
      have hMx := hMN2.out
      have hMF2 : ∀ W, Only [] w3 W → Calls Try.prog 14 #[.agg #[.int .u32 nf, .int .u32 ne, .int .u32 nu, .int .u32 nc, .bool nfe, .bool ngo, .slice A3 nl.length d3], .int .u32 cl] W fun e w' => e = .returned (.int .u32 1) ∧ Only [] W w' := fun W k => by
        have h := hMx W k cl
        rw [t2] at h
        exact h
      replace hMF2 := Lib.hid hMF2
      replace t2 := Lib.hid t2
      clear hMx hMN2
      by_cases h4 : l.length = 4
      · have hml : ML ≠ 0 := fun h => hfull ⟨h4, h⟩
        have d4 : ((l.length : Int) == 4) = true := by simp; omega
        have d4' : (l.length : Int) = 4 := by omega
        have d5 : (ML == 0) = false := by simpa using hml
        replace h4 := Lib.hid h4
        replace hfull := Lib.hid hfull
        clear hl4 hl100
        go_wp2_with fail
        refine (hM.out _ kw).mono ?_; rintro e w5 ⟨rfl, k5'⟩
        have k5 := kw.trans k5'
        have k35 := k3w.trans k5'
        clear c0 c1 c2 c3 c4 c5 c6
        go_wp2_with fail
        refine (alive_any _).mono ?_; rintro e wz ⟨rfl, kz⟩
        obtain ⟨c0, c1, c2, c3, c4, c5, c6⟩ := Lx.at b24 ((hk.trans k5').trans kz) (by simp)
        obtain ⟨e0, e1, e2, e3, e4, e5, e6⟩ := Lx.at b4 ((hk.trans k5').trans kz) (by simp)
        go_wp2_with fail
        refine (hMF2.out _ (k35.trans kz)).mono ?_; rintro e w8 ⟨rfl, k8⟩
        clear c0 c1 c2 c3 c4 c5 c6 e0 e1 e2 e3 e4 e5 e6
        obtain ⟨c0, c1, c2, c3, c4, c5, c6⟩ := Lx.at b24 (((hk.trans k5').trans kz).trans k8) (by simp)
        obtain ⟨e0, e1, e2, e3, e4, e5, e6⟩ := Lx.at b4 (((hk.trans k5').trans kz).trans k8) (by simp)
        go_wp2
        go_ret
        exact ⟨by simp, (k5.trans kz).trans k8⟩
      · have d4 : ((l.length : Int) == 4) = false := by simp; omega
        have d4' : ¬ (l.length : Int) = 4 := by omega
        replace h4 := Lib.hid h4
        replace hfull := Lib.hid hfull
        clear hl4 hl100
        clear c0 c1 c2 c3 c4 c5 c6
        go_wp2_with fail
        refine (alive_any _).mono ?_; rintro e wz ⟨rfl, kz⟩
        obtain ⟨c0, c1, c2, c3, c4, c5, c6⟩ := Lx.at b24 (hk.trans kz) (by simp)
        obtain ⟨e0, e1, e2, e3, e4, e5, e6⟩ := Lx.at b4 (hk.trans kz) (by simp)
        go_wp2_with fail
        refine (hMF2.out _ (k3w.trans kz)).mono ?_; rintro e w8 ⟨rfl, k8⟩
        clear c0 c1 c2 c3 c4 c5 c6 e0 e1 e2 e3 e4 e5 e6
        obtain ⟨c0, c1, c2, c3, c4, c5, c6⟩ := Lx.at b24 ((hk.trans kz).trans k8) (by simp)
        obtain ⟨e0, e1, e2, e3, e4, e5, e6⟩ := Lx.at b4 ((hk.trans kz).trans k8) (by simp)
        go_wp2
        go_ret
        exact ⟨by simp, (kw.trans kz).trans k8⟩
end Go.Proofs.Ytnmmdnecojgccaa
