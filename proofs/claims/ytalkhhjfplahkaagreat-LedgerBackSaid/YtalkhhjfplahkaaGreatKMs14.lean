/- What a seat's row means. -/
import Derived.Test.YtalkhhjfplahkaaGreatKMe14
namespace Go.Proofs.YtalkhhjfplahkaaGreat
open Go.RowKit
set_option linter.unusedVariables false

theorem range_kept {S : List Nat} {w w' : World} {g o : Nat} {cs : List Value} (h : w.rangeAt g o cs) (k : Only S w w') (hg : g ∉ S) : w'.rangeAt g o cs := fun j v hj => k.cell (h j v hj) hg

set_option maxRecDepth 100000 in
set_option maxHeartbeats 16000000 in
theorem seat_any (b : Bs) (wr w : World) (gx kp kg vp vg : Nat) (s : Sta) (tv ov kv wv sv : Value) (lvs : List Lv) (rk rv : ByteArray) (rg : Bool) (kb vb : List UInt8) (hL : LdR b wr gx s tv ov kv wv sv lvs) (ho : Only [gx] wr w) (hx : LdB w gx s tv ov kv wv sv rk rv rg kp vp) (h2 : Two wr.heap.size w kp kg vp vg (kb, 0) (vb, 0)) (hl : s.seats.length ≤ 1000000) (hrv : rv = strOf vb) (hvb : vb.length ≤ 1048576) (hkg : kg < w.heap.size) (hvg : vg < w.heap.size) :
    Calls Tryz.prog 47 #[.pointer (some ⟨gx, 0, none⟩)] w fun e w' => e = .returned (.tuple #[]) ∧ LdAns b gx { s with seats := s.seats ++ [seatOf kb vb] } w' := by
  have hgx : gx ∉ [kp, vp] := by
    have := hL.gxl
    have := h2.a
    have := h2.c
    simp
    omega
  subst hrv
  have hP := read_any w (strOf vb) (by rw [strOf_size]; omega)
  rw [strOf_list] at hP
  have KT : Hid (∀ W, Only [kp, vp] w W → W.cell? ⟨gx, 6, none⟩ = some sv) := fun W kW => (hx.kept kW hgx).cell 6
  have c8 : w.cell? ⟨gx, 8, none⟩ = some (.string (strOf vb)) := hx.cell 8
  have K10 : Hid (∀ W, Only [kp, vp] w W → W.cell? ⟨gx, 10, none⟩ = some (.pointer (some ⟨kp, 0, none⟩))) := fun W kW => (hx.kept kW hgx).cell 10
  have hlts : Hid (kg < w.heap.size ∧ vg < w.heap.size) := Lib.hid ⟨hkg, hvg⟩
  have hks : Hid (kp < w.heap.size ∧ vp < w.heap.size ∧ gx < w.heap.size) := Lib.hid ⟨by obtain ⟨o, c, h⟩ := h2.k; exact h.blk.lt, by obtain ⟨o, c, h⟩ := h2.v; exact h.blk.lt, hx.lt⟩
  have hown : Hid (∀ c, some c ∈ owns6 gx tv ov kv wv sv → c < w.heap.size) := fun c hc => Nat.lt_of_lt_of_le (hL.lt c hc) ho.size
  generalize hrp : readP vb = p at *
  generalize readE vb = er at *
  replace hP := Lib.hid hP
  replace hown := Lib.hid hown.out
  have hres : Hid (seatOf kb vb = ⟨((nu1 (kb, 0) : Nat) : Int), p⟩) := by
    unfold Hid seatOf
    rw [hrp]
    rfl
  replace hrp := Lib.hid hrp
  replace hL := Lib.hid hL
  replace hx := Lib.hid hx
  replace ho := Lib.hid ho
  replace hl := Lib.hid hl
  rw [hres.out]
  go_enter Tryz.func47, Tryz.ntmps47
  go_wp2_with fail
  refine hP.out.mono ?_; rintro e w1 ⟨rfl, k1⟩
  have hz1 := k1.size
  have bz := Lib.hid (Blk.new w1 54 (pkA zPk))
  clear hP c8
  go_wp2_with (refine wpList_store_pk p zPk rfl _ _ rfl w1.heap.size rfl rfl bz.out ?_; intro w2 hbp kbp)
  have kk : Only [kp, vp] w w2 := ((k1.more (T := [kp, vp]) (by simp)).alloc _).then kbp (by intro i hi; simp at hi; subst hi; exact .inr hz1)
  replace h2 := (h2.kept (k1.alloc (.cells (pkA zPk) 54)))
  replace h2 : Two _ w2 _ _ _ _ _ _ := { h2 with
    k := h2.k.kept kbp (by simp; have := hks.out; omega) (by simp; have := hlts.out.1; omega)
    v := h2.v.kept kbp (by simp; have := hks.out; omega) (by simp; have := hlts.out.2; omega) }
  obtain ⟨gp, hgp⟩ : ∃ gp, gp = w1.heap.size := ⟨_, rfl⟩
  rw [← hgp] at hbp kbp ⊢
  have hgg : gp ≠ gx := by have := hks.out; omega
  have hggk : gp ∉ [kp, vp] := by have := hks.out; simp; omega
  have bpR : w2.rangeAt gp 0 (pkA p).toList := Blk.range9 hbp
  have KP : Hid (∀ W, Only [kp, vp] w2 W → (W.cell? ⟨gx, 10, none⟩ = some (.pointer (some ⟨kp, 0, none⟩))) ∧ W.rangeAt gp 0 (pkA p).toList) := fun W kW => ⟨K10.out _ (kk.then kW (fun i hi => .inl hi)), range_kept bpR kW hggk⟩
  have KK : Hid (∀ W, Only [kp, vp] w2 W → Only [kp, vp] w W) := fun W kW => kk.then kW (fun i hi => .inl hi)
  have KN : Hid (gp ∉ sv.ownBlock.toList) := fun hm => by
    have e : sv.ownBlock = some gp := by simpa using hm
    have := hown.out gp (by simp [owns6, e])
    omega
  replace hgg := Lib.hid hgg
  clear kk k1 kbp hbp bpR hggk hz1 hgp bz hlts hks hkg hvg K10
  have kk : Only [kp, vp] w2 w2.drew := (Only.refl [kp, vp] w2).drew
  replace h2 := h2.kept ((Only.refl [] w2).drew)
  go_wp2_with fail
  refine wp_region_held_drew (S := fun w' => (w'.cell? ⟨gx, 10, none⟩ = some (.pointer (some ⟨kp, 0, none⟩))) ∧ w'.rangeAt gp 0 (pkA p).toList) (by kernel_rfl) (KP.out _ kk) (fun hHeld => ?_)
  refine held_take 0 (.pointer (some ⟨gx, 0, none⟩)) rfl (by kernel_rfl) (by kernel_rfl) (by kernel_rfl) (fun _ _ _ h => h) hHeld (Or.inl ⟨by rfl, fun w' hSw => by (try dsimp only at hSw); (try subst hSw); go_simp⟩) ?_
  simp only [Act.put, List.setIfInBounds_toArray, List.set_cons_zero, List.set_cons_succ]
  refine held_take 1 (.pointer (some ⟨gx, 0, none⟩)) rfl (by kernel_rfl) (by kernel_rfl) (by kernel_rfl) (fun _ _ _ h => h) hHeld (Or.inl ⟨by rfl, fun w' hSw => by (try dsimp only at hSw); (try subst hSw); go_simp⟩) ?_
  simp only [Act.put, List.setIfInBounds_toArray, List.set_cons_zero, List.set_cons_succ]
  refine held_take 2 (.pointer (some ⟨gx, 0, none⟩)) rfl (by kernel_rfl) (by kernel_rfl) (by kernel_rfl) (fun _ _ _ h => h) hHeld (Or.inl ⟨by rfl, fun w' hSw => by (try dsimp only at hSw); (try subst hSw); go_simp⟩) ?_
  simp only [Act.put, List.setIfInBounds_toArray, List.set_cons_zero, List.set_cons_succ]
  refine held_take 3 (.pointer (some ⟨gx, 0, none⟩)) rfl (by kernel_rfl) (by kernel_rfl) (by kernel_rfl) (fun _ _ _ h => h) hHeld (Or.inl ⟨by rfl, fun w' hSw => by (try dsimp only at hSw); (try subst hSw); go_simp⟩) ?_
  simp only [Act.put, List.setIfInBounds_toArray, List.set_cons_zero, List.set_cons_succ]
  refine held_take 4 (.pointer (some ⟨gx, 6, none⟩)) rfl (by kernel_rfl) (by kernel_rfl) (by kernel_rfl) (fun _ _ _ h => h) hHeld (Or.inl ⟨by rfl, fun w' hSw => by (try dsimp only at hSw); (try subst hSw); go_simp⟩) ?_
  simp only [Act.put, List.setIfInBounds_toArray, List.set_cons_zero, List.set_cons_succ]
  refine held_take 6 (.pointer (some ⟨gx, 0, none⟩)) rfl (by kernel_rfl) (by kernel_rfl) (by kernel_rfl) (fun _ _ _ h => h) hHeld (Or.inl ⟨by rfl, fun w' hSw => by (try dsimp only at hSw); (try subst hSw); go_simp⟩) ?_
  simp only [Act.put, List.setIfInBounds_toArray, List.set_cons_zero, List.set_cons_succ]
  refine held_take 7 (.pointer (some ⟨gx, 0, none⟩)) rfl (by kernel_rfl) (by kernel_rfl) (by kernel_rfl) (fun _ _ _ h => h) hHeld (Or.inl ⟨by rfl, fun w' hSw => by (try dsimp only at hSw); (try subst hSw); go_simp⟩) ?_
  simp only [Act.put, List.setIfInBounds_toArray, List.set_cons_zero, List.set_cons_succ]
  refine held_take 8 (.pointer (some ⟨gx, 10, none⟩)) rfl (by kernel_rfl) (by kernel_rfl) (by kernel_rfl) (fun _ _ _ h => h) hHeld (Or.inl ⟨by rfl, fun w' hSw => by (try dsimp only at hSw); (try subst hSw); go_simp⟩) ?_
  simp only [Act.put, List.setIfInBounds_toArray, List.set_cons_zero, List.set_cons_succ]
  refine held_take 9 (.pointer (some ⟨kp, 0, none⟩)) rfl (by kernel_rfl) (by kernel_rfl) (by kernel_rfl) (fun _ _ _ h => h) hHeld (Or.inl ⟨by rfl, fun w' hSw => by (try dsimp only at hSw); (try subst hSw); go_simp⟩) ?_
  simp only [Act.put, List.setIfInBounds_toArray, List.set_cons_zero, List.set_cons_succ]
  refine held_take 11 (pkV p) rfl (by kernel_rfl) (by kernel_rfl) (by kernel_rfl) (fun _ _ _ h => h) hHeld (Or.inl ⟨by rfl, fun w' hSw => ev_load 54 _ rfl gp 0 rfl (pkA p).toList _ hSw.2 Tryz.underlying54 rfl size_pk⟩) ?_
  simp only [Act.put, List.setIfInBounds_toArray, List.set_cons_zero, List.set_cons_succ]
  refine held_step2 5 10 rfl rfl (by kernel_rfl) (fun K hK => ?_) (fun K hK => ?_)
  · have cl := KT.out _ (KK.out _ kk)
    go_simp
    go_wp2_with fail
    refine hK.out _ _ (KP.out _ kk) (fun hHeld => ?_)
    clear hK K
    clear cl
    refine held_step 10 rfl (by kernel_rfl) (fun K hK => ?_)
    go_simp
    refine (rnum_s _ kp kg (kb, 0) h2.k).mono ?_; rintro e wn ⟨rfl, hr, kn⟩
    replace h2 := h2.readK hr kn
    replace kk := kk.then kn (by simp)
    clear hr kn
    go_wp2_with fail
    refine hK.out _ _ (KP.out _ kk) (fun hHeld => ?_)
    clear hK K
    refine held_take 12 (.agg #[.int .u32 ((nu1 (kb, 0) : Nat) : Int), .int .i64 p.kind, .int .i64 p.frm, .int .i64 p.to, .int .u32 p.life, .int .u32 p.seq, .int .u32 p.asked, .int .u32 p.boot, .int .i64 p.code, .int .i64 p.err, .int .u32 p.file, .int .u32 p.epoch, .int .u32 p.off, .int .u32 p.len, .int .u32 p.size, .int .u32 p.mode, .int .u32 p.deny, .int .u32 p.handle, .string p.path, .string p.other, .string p.data]) rfl (by kernel_rfl) (by kernel_rfl) (by kernel_rfl) (fun _ _ _ h => h) hHeld (Or.inl ⟨by rfl, fun w' hSw => by (try dsimp only at hSw); (try subst hSw); go_simp⟩) ?_
    simp only [Act.put, List.setIfInBounds_toArray, List.set_cons_zero, List.set_cons_succ]
    refine held_step 13 rfl (by kernel_rfl) (fun K hK => ?_)
    go_simp
    go_wp2_with fail
    refine hK.out _ _ (KP.out _ (kk.alloc _)) (fun hHeld => ?_)
    clear hK K
    have hR := (hL.out.reach ho.out (KK.out _ kk) h2.a h2.c).keep ((Only.refl [] _).alloc (.cells (seaE ⟨((nu1 (kb, 0) : Nat) : Int), p⟩).toArray 56)) (by simp)
    have bR := (hx.out.kept (KK.out _ kk) hgx).alloc (.cells (seaE ⟨((nu1 (kb, 0) : Nat) : Int), p⟩).toArray 56)
    have pR := ((KP.out _ (kk.alloc (.cells (seaE ⟨((nu1 (kb, 0) : Nat) : Int), p⟩).toArray 56))).2)
    have b5 : Blk _ _ 56 (seaE ⟨((nu1 (kb, 0) : Nat) : Int), p⟩).toArray := Blk.new wn 56 (seaE ⟨((nu1 (kb, 0) : Nat) : Int), p⟩).toArray
    refine held_step 14 rfl (by kernel_rfl) (fun K hK => ?_)
    refine step_push rfl _ _ 27 rfl 56 _ 144 seaE_length (by decide) seaE_one Tryz.underlying27 info_sea rfl sv s.seats.length s.seats rfl hR.ms.own wn.heap.size ⟨((nu1 (kb, 0) : Nat) : Int), p⟩ 56 rfl b5 (by unfold maxLen; have := hl.out; omega) (by have := hl.out; omega) ?_
    intro vv w6 h6 g6 a6
    have hL6 := hR.push_ms h6 g6 a6
    obtain ⟨Av, nv, cv, rfl⟩ : ∃ A n c, vv = Value.slice A n c := by { obtain ⟨A, c, h, _⟩ := hL6.ms.shape seaE_length; exact ⟨A, _, c, h⟩ }
    have b6 := bR.kept (only_own g6) (hR.apart 4 rfl)
    have p6 := range_kept pR (only_own g6) KN.out
    refine hK.out _ _ ⟨b6.cell 10, p6⟩ (fun hHeld => ?_)
    clear hK K h6 g6 a6 hR bR b5
    have cq := b6.cell 6
    have fq := b6.free 6
    simp only [ldA, List.getElem?_toArray, List.getElem?_cons_zero, List.getElem?_cons_succ] at cq
    simp only [Act.put, List.setIfInBounds_toArray, List.set_cons_zero, List.set_cons_succ]
    refine held_take 15 (.pointer (some ⟨gx, 0, none⟩)) rfl (by kernel_rfl) (by kernel_rfl) (by kernel_rfl) (fun _ _ _ h => h) hHeld (Or.inl ⟨by rfl, fun w' hSw => by (try dsimp only at hSw); (try subst hSw); go_simp⟩) ?_
    simp only [Act.put, List.setIfInBounds_toArray, List.set_cons_zero, List.set_cons_succ]
    refine held_take 16 (.pointer (some ⟨gx, 0, none⟩)) rfl (by kernel_rfl) (by kernel_rfl) (by kernel_rfl) (fun _ _ _ h => h) hHeld (Or.inl ⟨by rfl, fun w' hSw => by (try dsimp only at hSw); (try subst hSw); go_simp⟩) ?_
    simp only [Act.put, List.setIfInBounds_toArray, List.set_cons_zero, List.set_cons_succ]
    refine held_take 17 (.pointer (some ⟨gx, 6, none⟩)) rfl (by kernel_rfl) (by kernel_rfl) (by kernel_rfl) (fun _ _ _ h => h) hHeld (Or.inl ⟨by rfl, fun w' hSw => by (try dsimp only at hSw); (try subst hSw); go_simp⟩) ?_
    simp only [Act.put, List.setIfInBounds_toArray, List.set_cons_zero, List.set_cons_succ]
    refine held_step 18 rfl (by kernel_rfl) (fun K hK => ?_)
    go_simp
    have b7 := b6.set 6 (.slice Av nv cv)
    have p7 := range_kept p6 (Only.set w6 [gx] (p := gx) (i := 6) (by simp) (.slice Av nv cv)) (by simp; exact hgg.out)
    refine hK.out _ _ ⟨b7.cell 10, p7⟩ (fun hHeld => ?_)
    clear hK K
    refine wpAnyH_done (by kernel_rfl) ?_ _
    clear hHeld
    go_wp2
    go_end0
    exact ⟨rfl, _, _, _, _, _, _, _, _, _, _, _, hL6.keep (Only.set w6 [gx] (by simp) (.slice Av nv cv)) (by simp), b7⟩
  · go_simp
    refine (rnum_s _ kp kg (kb, 0) h2.k).mono ?_; rintro e wn ⟨rfl, hr, kn⟩
    replace h2 := h2.readK hr kn
    replace kk := kk.then kn (by simp)
    clear hr kn
    go_wp2_with fail
    refine hK.out _ _ (KP.out _ kk) (fun hHeld => ?_)
    clear hK K
    refine held_take 12 (.agg #[.int .u32 ((nu1 (kb, 0) : Nat) : Int), .int .i64 p.kind, .int .i64 p.frm, .int .i64 p.to, .int .u32 p.life, .int .u32 p.seq, .int .u32 p.asked, .int .u32 p.boot, .int .i64 p.code, .int .i64 p.err, .int .u32 p.file, .int .u32 p.epoch, .int .u32 p.off, .int .u32 p.len, .int .u32 p.size, .int .u32 p.mode, .int .u32 p.deny, .int .u32 p.handle, .string p.path, .string p.other, .string p.data]) rfl (by kernel_rfl) (by kernel_rfl) (by kernel_rfl) (fun _ _ _ h => h) hHeld (Or.inl ⟨by rfl, fun w' hSw => by (try dsimp only at hSw); (try subst hSw); go_simp⟩) ?_
    simp only [Act.put, List.setIfInBounds_toArray, List.set_cons_zero, List.set_cons_succ]
    refine held_step2 5 13 rfl rfl (by kernel_rfl) (fun K hK => ?_) (fun K hK => ?_)
    · have cl := KT.out _ (KK.out _ kk)
      go_simp
      go_wp2_with fail
      refine hK.out _ _ (KP.out _ kk) (fun hHeld => ?_)
      clear hK K
      clear cl
      refine held_step 13 rfl (by kernel_rfl) (fun K hK => ?_)
      go_simp
      go_wp2_with fail
      refine hK.out _ _ (KP.out _ (kk.alloc _)) (fun hHeld => ?_)
      clear hK K
      have hR := (hL.out.reach ho.out (KK.out _ kk) h2.a h2.c).keep ((Only.refl [] _).alloc (.cells (seaE ⟨((nu1 (kb, 0) : Nat) : Int), p⟩).toArray 56)) (by simp)
      have bR := (hx.out.kept (KK.out _ kk) hgx).alloc (.cells (seaE ⟨((nu1 (kb, 0) : Nat) : Int), p⟩).toArray 56)
      have pR := ((KP.out _ (kk.alloc (.cells (seaE ⟨((nu1 (kb, 0) : Nat) : Int), p⟩).toArray 56))).2)
      have b5 : Blk _ _ 56 (seaE ⟨((nu1 (kb, 0) : Nat) : Int), p⟩).toArray := Blk.new wn 56 (seaE ⟨((nu1 (kb, 0) : Nat) : Int), p⟩).toArray
      refine held_step 14 rfl (by kernel_rfl) (fun K hK => ?_)
      refine step_push rfl _ _ 27 rfl 56 _ 144 seaE_length (by decide) seaE_one Tryz.underlying27 info_sea rfl sv s.seats.length s.seats rfl hR.ms.own wn.heap.size ⟨((nu1 (kb, 0) : Nat) : Int), p⟩ 56 rfl b5 (by unfold maxLen; have := hl.out; omega) (by have := hl.out; omega) ?_
      intro vv w6 h6 g6 a6
      have hL6 := hR.push_ms h6 g6 a6
      obtain ⟨Av, nv, cv, rfl⟩ : ∃ A n c, vv = Value.slice A n c := by { obtain ⟨A, c, h, _⟩ := hL6.ms.shape seaE_length; exact ⟨A, _, c, h⟩ }
      have b6 := bR.kept (only_own g6) (hR.apart 4 rfl)
      have p6 := range_kept pR (only_own g6) KN.out
      refine hK.out _ _ ⟨b6.cell 10, p6⟩ (fun hHeld => ?_)
      clear hK K h6 g6 a6 hR bR b5
      have cq := b6.cell 6
      have fq := b6.free 6
      simp only [ldA, List.getElem?_toArray, List.getElem?_cons_zero, List.getElem?_cons_succ] at cq
      simp only [Act.put, List.setIfInBounds_toArray, List.set_cons_zero, List.set_cons_succ]
      refine held_take 15 (.pointer (some ⟨gx, 0, none⟩)) rfl (by kernel_rfl) (by kernel_rfl) (by kernel_rfl) (fun _ _ _ h => h) hHeld (Or.inl ⟨by rfl, fun w' hSw => by (try dsimp only at hSw); (try subst hSw); go_simp⟩) ?_
      simp only [Act.put, List.setIfInBounds_toArray, List.set_cons_zero, List.set_cons_succ]
      refine held_take 16 (.pointer (some ⟨gx, 0, none⟩)) rfl (by kernel_rfl) (by kernel_rfl) (by kernel_rfl) (fun _ _ _ h => h) hHeld (Or.inl ⟨by rfl, fun w' hSw => by (try dsimp only at hSw); (try subst hSw); go_simp⟩) ?_
      simp only [Act.put, List.setIfInBounds_toArray, List.set_cons_zero, List.set_cons_succ]
      refine held_take 17 (.pointer (some ⟨gx, 6, none⟩)) rfl (by kernel_rfl) (by kernel_rfl) (by kernel_rfl) (fun _ _ _ h => h) hHeld (Or.inl ⟨by rfl, fun w' hSw => by (try dsimp only at hSw); (try subst hSw); go_simp⟩) ?_
      simp only [Act.put, List.setIfInBounds_toArray, List.set_cons_zero, List.set_cons_succ]
      refine held_step 18 rfl (by kernel_rfl) (fun K hK => ?_)
      go_simp
      have b7 := b6.set 6 (.slice Av nv cv)
      have p7 := range_kept p6 (Only.set w6 [gx] (p := gx) (i := 6) (by simp) (.slice Av nv cv)) (by simp; exact hgg.out)
      refine hK.out _ _ ⟨b7.cell 10, p7⟩ (fun hHeld => ?_)
      clear hK K
      refine wpAnyH_done (by kernel_rfl) ?_ _
      clear hHeld
      go_wp2
      go_end0
      exact ⟨rfl, _, _, _, _, _, _, _, _, _, _, _, hL6.keep (Only.set w6 [gx] (by simp) (.slice Av nv cv)) (by simp), b7⟩
    · go_simp
      go_wp2_with fail
      refine hK.out _ _ (KP.out _ (kk.alloc _)) (fun hHeld => ?_)
      clear hK K
      have cl := KT.out _ (KK.out _ (kk.alloc (.cells (seaE ⟨((nu1 (kb, 0) : Nat) : Int), p⟩).toArray 56)))
      simp only [seaE, seaA] at cl
      refine held_step 5 rfl (by kernel_rfl) (fun K hK => ?_)
      go_simp
      go_wp2_with fail
      refine hK.out _ _ (KP.out _ (kk.alloc _)) (fun hHeld => ?_)
      clear hK K
      clear cl
      have hR := (hL.out.reach ho.out (KK.out _ kk) h2.a h2.c).keep ((Only.refl [] _).alloc (.cells (seaE ⟨((nu1 (kb, 0) : Nat) : Int), p⟩).toArray 56)) (by simp)
      have bR := (hx.out.kept (KK.out _ kk) hgx).alloc (.cells (seaE ⟨((nu1 (kb, 0) : Nat) : Int), p⟩).toArray 56)
      have pR := ((KP.out _ (kk.alloc (.cells (seaE ⟨((nu1 (kb, 0) : Nat) : Int), p⟩).toArray 56))).2)
      have b5 : Blk _ _ 56 (seaE ⟨((nu1 (kb, 0) : Nat) : Int), p⟩).toArray := Blk.new wn 56 (seaE ⟨((nu1 (kb, 0) : Nat) : Int), p⟩).toArray
      refine held_step 14 rfl (by kernel_rfl) (fun K hK => ?_)
      refine step_push rfl _ _ 27 rfl 56 _ 144 seaE_length (by decide) seaE_one Tryz.underlying27 info_sea rfl sv s.seats.length s.seats rfl hR.ms.own wn.heap.size ⟨((nu1 (kb, 0) : Nat) : Int), p⟩ 56 rfl b5 (by unfold maxLen; have := hl.out; omega) (by have := hl.out; omega) ?_
      intro vv w6 h6 g6 a6
      have hL6 := hR.push_ms h6 g6 a6
      obtain ⟨Av, nv, cv, rfl⟩ : ∃ A n c, vv = Value.slice A n c := by { obtain ⟨A, c, h, _⟩ := hL6.ms.shape seaE_length; exact ⟨A, _, c, h⟩ }
      have b6 := bR.kept (only_own g6) (hR.apart 4 rfl)
      have p6 := range_kept pR (only_own g6) KN.out
      refine hK.out _ _ ⟨b6.cell 10, p6⟩ (fun hHeld => ?_)
      clear hK K h6 g6 a6 hR bR b5
      have cq := b6.cell 6
      have fq := b6.free 6
      simp only [ldA, List.getElem?_toArray, List.getElem?_cons_zero, List.getElem?_cons_succ] at cq
      simp only [Act.put, List.setIfInBounds_toArray, List.set_cons_zero, List.set_cons_succ]
      refine held_take 15 (.pointer (some ⟨gx, 0, none⟩)) rfl (by kernel_rfl) (by kernel_rfl) (by kernel_rfl) (fun _ _ _ h => h) hHeld (Or.inl ⟨by rfl, fun w' hSw => by (try dsimp only at hSw); (try subst hSw); go_simp⟩) ?_
      simp only [Act.put, List.setIfInBounds_toArray, List.set_cons_zero, List.set_cons_succ]
      refine held_take 16 (.pointer (some ⟨gx, 0, none⟩)) rfl (by kernel_rfl) (by kernel_rfl) (by kernel_rfl) (fun _ _ _ h => h) hHeld (Or.inl ⟨by rfl, fun w' hSw => by (try dsimp only at hSw); (try subst hSw); go_simp⟩) ?_
      simp only [Act.put, List.setIfInBounds_toArray, List.set_cons_zero, List.set_cons_succ]
      refine held_take 17 (.pointer (some ⟨gx, 6, none⟩)) rfl (by kernel_rfl) (by kernel_rfl) (by kernel_rfl) (fun _ _ _ h => h) hHeld (Or.inl ⟨by rfl, fun w' hSw => by (try dsimp only at hSw); (try subst hSw); go_simp⟩) ?_
      simp only [Act.put, List.setIfInBounds_toArray, List.set_cons_zero, List.set_cons_succ]
      refine held_step 18 rfl (by kernel_rfl) (fun K hK => ?_)
      go_simp
      have b7 := b6.set 6 (.slice Av nv cv)
      have p7 := range_kept p6 (Only.set w6 [gx] (p := gx) (i := 6) (by simp) (.slice Av nv cv)) (by simp; exact hgg.out)
      refine hK.out _ _ ⟨b7.cell 10, p7⟩ (fun hHeld => ?_)
      clear hK K
      refine wpAnyH_done (by kernel_rfl) ?_ _
      clear hHeld
      go_wp2
      go_end0
      exact ⟨rfl, _, _, _, _, _, _, _, _, _, _, _, hL6.keep (Only.set w6 [gx] (by simp) (.slice Av nv cv)) (by simp), b7⟩

end Go.Proofs.YtalkhhjfplahkaaGreat
