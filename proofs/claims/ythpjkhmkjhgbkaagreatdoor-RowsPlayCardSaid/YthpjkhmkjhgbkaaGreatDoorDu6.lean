/- Both are opened. -/
import Derived.Test.YthpjkhmkjhgbkaaGreatDoorDu5
namespace Go.Proofs.YthpjkhmkjhgbkaaGreatDoor
open Go.RowKit Go.Maps

theorem Only.set_bp (w1 : World) (bp i : Nat) (u : Value) : Only [bp] w1 (w1.setCell ⟨bp, i, none⟩ u) := Only.set w1 [bp] (by simp) _
theorem dataS_248 {s : St} (hf : Fine s) : ∀ d ∈ dataS s, d.length = 248 := by
  intro d hd
  unfold dataS at hd
  obtain ⟨j, hj, rfl⟩ := List.mem_map.1 hd
  have := hf.blk (k := 41 + j) (by have := List.mem_range.1 hj; omega)
  rw [List.length_drop, this]
theorem openErr_big {s : St} (h : openErr s = 0) : 42 ≤ s.firm.length := by
  unfold openErr at h
  split at h
  · exact absurd h (by decide)
  · omega

set_option maxRecDepth 100000 in
set_option maxHeartbeats 4000000 in
theorem duoOpen_any (w w1 : World) (bp p m N k : Nat) (F G : List Nat) (s t : St) (v2 v3 v4 : Value) (h : Core5 w w1 bp p m F G s t v2 v3 v4) (like : Like s t) (len : s.firm.length = N) (late : s.late.length + 40 ≤ 200 * k) (hk : k ≤ 1000) :
    Calls Tryz.prog 12 #[.pointer (some ⟨bp, 0, none⟩)] w1 fun e w' => e = .returned (.bool true) ∧ Duo5 w w' bp p m N k := by
  obtain ⟨c0, c1, c2, c3, c4⟩ := h.cells
  obtain ⟨q1, q2, q3⟩ := like.opens
  obtain ⟨b1, b2⟩ := openSt_late s
  have hop := h.d.opens5 (by omega)
  have hro := fun W (hr : Ref W m G t) => ropen_any W m G t (by rw [← like.2.1]; omega) hr
  have hlate : Hid ((openSt s).late.length ≤ 200 * k) := show _ ≤ _ by omega
  have hlate2 : Hid ((openSt t).late.length < 1048576) := show _ < _ by rw [← q2.2.1]; omega
  have hlen : Hid ((openSt s).firm.length = N) := show _ = _ by rw [b2, len]
  have hdS : Hid (dataS (openSt t) = dataS (openSt s)) := (q2.dataS).symm
  replace q2 := Lib.hid q2
  replace hro := Lib.hid hro
  replace late := Lib.hid late
  replace b1 := Lib.hid b1
  replace b2 := Lib.hid b2
  replace like := Lib.hid like
  have hbold := h.bold
  go_enter Tryz.func12, Tryz.ntmps12
  go_wp2_with fail
  refine hop.mono ?_
  rintro e w2 ho
  obtain ⟨F2, kF, hF2, ho⟩ := ho
  have hFb : ∀ i ∈ F, w.heap.size ≤ i ∧ i ∉ G ∧ i ≠ bp := fun i hi => ⟨(h.fnew i hi).1, h.apart i hi, fun e => h.bF (e ▸ hi)⟩
  have e1 := kF.cell c1 (by simpa using h.bF)
  by_cases h0 : openErr s = 0
  · have hbig : 42 ≤ N := by rw [← len]; exact openErr_big h0
    have hal := open_alive h0
    cases hpar : parseL (dataS (openSt s)) with
    | none =>
      rcases ho with ⟨x, hx, rfl, hd2⟩ | ⟨rp, mb, lp, M, _, hp, _⟩
      · obtain rfl : x = 25 := by
          rcases hx with ⟨a, _⟩ | ⟨_, _, b⟩
          · exact absurd h0 a
          · exact b
        have h2 := h.turnF hd2.dev kF hFb (fun j hj => ⟨hF2 j hj, (hd2.new j hj).2⟩)
        clear h c0 c1 c2 c3 c4 hop
        go_wp2_with fail
        refine (hro.out _ h2.ref).mono ?_
        rintro e w3 ⟨G3, hr3, k3, hG3, ho3⟩
        have h3 := h2.turnG hr3 k3 (fun i hi => ⟨(h2.gnew i hi).1, fun hf => h2.apart i hf hi, fun e => h2.bG (e ▸ hi)⟩) hG3.out
        rcases ho3 with ⟨g0, _⟩ | ⟨g0, xp, rfl, hrl, hxp, hxG⟩
        · rw [← q1] at g0; exact absurd h0 g0
        · have hb2 := h2.lt
          have h4 := h3.lay2 (.pointer none)
          have h5 := h4.lay3 (.pointer (some ⟨xp, 0, none⟩))
          have h6 := h5.lay4 (.slice none 0 0)
          have hxb : xp ∉ [bp] := by simp; omega
          have hrl6 := Blk.kept (Blk.kept (Blk.kept hrl (Only.set_bp w3 bp 2 (.pointer none)) hxb) (Only.set_bp _ bp 3 (.pointer (some ⟨xp, 0, none⟩))) hxb) (Only.set_bp _ bp 4 (.slice none 0 0)) hxb
          obtain ⟨d0, d1, d2, d3, d4⟩ := h3.cells
          have f2 := Blk.free h3.blk 2
          have f3 := Blk.free h4.blk 3
          have f4 := Blk.free h5.blk 4
          have hds := rdatas_any _ xp m (openN t) G3 (openSt t) hrl6 h6.ref (by rw [← q2.out.2.2.1]; exact hal.1) hlate2.out (by rw [← q2.out.1, hlen.out]; exact hbig)
          have hdl : (dataS (openSt t)).length ≤ 1024 := by rw [dataS_length]; have := h6.ref.fine.few; omega
          have hd8 := dataS_248 h6.ref.fine
          replace hds := Lib.hid hds
          clear h2 h3 h4 h5 hrl hrl6 hr3 k3
          go_wp2_with fail
          refine hds.out.mono ?_
          rintro e w7 ⟨v7, rfl, A7, c7, rfl, hstr, k7, _⟩
          go_wp2_with fail
          have hrs := rrows_any w7 A7 c7 _ hstr hdl hd8
          refine hrs.mono ?_
          rintro e w8 hrw
          rw [hdS.out, hpar] at hrw
          obtain ⟨rfl, k8⟩ := hrw
          have h8 := (h6.keep k7).keep k8
          obtain ⟨g0', g1, g2, g3, g4⟩ := h8.cells
          have h9 := h8.lay4 (.slice none 0 0)
          have h10 := h9.lay3 (.pointer none)
          have f8 := Blk.free h8.blk 4
          have f9 := Blk.free h9.blk 3
          have hfin := Duo5.none (k := k) F2 G3 _ _ h10 q2.out hlen.out hlate.out
          replace hfin := Lib.hid hfin
          clear h8 h9 h10 h6 hstr k7 k8 hrs hds d0 d1 d2 d3 d4 f2 f3 f4 hd8
          go_wp2
          go_ret
          exact ⟨rfl, hfin.out⟩
      · rw [hpar] at hp; cases hp
    | some M =>
      rcases ho with ⟨x, hx, _, _⟩ | ⟨rp, mb, lp, M', _, hp, rfl, hown, o1, o2, o3⟩
      · rcases hx with ⟨a, _⟩ | ⟨_, a, _⟩
        · exact absurd h0 a
        · rw [hpar] at a; cases a
      · obtain rfl : M = M' := by rw [hpar] at hp; injection hp
        have hgood := parse_good hpar
        rw [dataS_length, hlen.out] at hgood
        have h2 := h.turnF hown.own.dev kF hFb (fun j hj => ⟨hF2 j hj, (hown.own.new j hj).2⟩)
        have hb1 := h.lt
        have hG1 := fun i hi => (h.gnew i hi).2
        clear h c0 c1 c2 c3 c4 hop
        go_wp2_with fail
        refine (hro.out _ h2.ref).mono ?_
        rintro e w3 ⟨G3, hr3, k3, hG3, ho3⟩
        have h3 := h2.turnG hr3 k3 (fun i hi => ⟨(h2.gnew i hi).1, fun hf => h2.apart i hf hi, fun e => h2.bG (e ▸ hi)⟩) hG3.out
        rcases ho3 with ⟨g0, _⟩ | ⟨g0, xp, rfl, hrl, hxp, hxG⟩
        · rw [← q1] at g0; exact absurd h0 g0
        · have hb2 := h2.lt
          have hs1 := h2.only.size
          have l1 := Blk.lt hown.own.log
          have l2 := hown.rows.hdr.lt
          have l3 := hown.rows.map.lt
          have hw1 : w.heap.size ≤ w1.heap.size := by
            have h1 := hown.old1
            have h2 := kF.size
            omega
          have hnoG : ∀ i, w1.heap.size ≤ i → i < w2.heap.size → i ∉ G3 := fun i h1 h2 hm => by
            rcases (hG3.out i hm).1 with h' | h'
            · have := hG1 i h'; omega
            · omega
          have hnoG0 : ∀ i, w1.heap.size ≤ i → i ∉ G := fun i h1 hm => by have := hG1 i hm; omega
          have hrest : Rest5 w w3 bp p m F2 G3 lp xp rp mb (openN s) false M (openN t) false [] (.slice none 0 0) := by
            refine ⟨Blk.kept hown.own.log k3 (hnoG0 _ o3), hown.rows.kept k3 (hnoG0 _ o1) (hnoG0 _ o2), hrl, Mine.start _ _ _ h3.only, fun i hi => ?_, by omega, fun e => hown.ne2 e.symm, fun e => hown.ne3 e.symm, by omega, by omega, hown.ne1, fun g hg => by simp [Value.ownBlock] at hg⟩
            simp [Value.ownBlock] at hi
            rcases hi with rfl | rfl | rfl | rfl
            · exact ⟨by omega, hown.own.out, hnoG _ o3 l1, by omega⟩
            · exact ⟨by omega, fun hm => by have := (hown.own.new _ hm).2; omega, hxG, by omega⟩
            · exact ⟨by omega, hown.out1, hnoG _ o1 l2, by omega⟩
            · exact ⟨by omega, hown.out2, hnoG _ o2 l3, by omega⟩
          have h4 := h3.lay2 (.pointer (some ⟨rp, 0, none⟩))
          have h5 := h4.lay3 (.pointer (some ⟨xp, 0, none⟩))
          have h6 := h5.lay4 (.slice none 0 0)
          have hrest6 := ((hrest.stored hbold 2 (.pointer (some ⟨rp, 0, none⟩))).stored hbold 3 (.pointer (some ⟨xp, 0, none⟩))).stored hbold 4 (.slice none 0 0)
          obtain ⟨d0, d1, d2, d3, d4⟩ := h3.cells
          have f2 := Blk.free h3.blk 2
          have f3 := Blk.free h4.blk 3
          have f4 := Blk.free h5.blk 4
          have hds := rdatas_any _ xp m (openN t) G3 (openSt t) hrest6.rlog h6.ref (by rw [← q2.out.2.2.1]; exact hal.1) hlate2.out (by rw [← q2.out.1, hlen.out]; exact hbig)
          have hdl : (dataS (openSt t)).length ≤ 1024 := by rw [dataS_length]; have := h6.ref.fine.few; omega
          have hd8 := dataS_248 h6.ref.fine
          replace hds := Lib.hid hds
          clear h2 h3 h4 h5 hrl hr3 k3 hrest hown hnoG hnoG0 hG1
          go_wp2_with fail
          refine hds.out.mono ?_
          rintro e w7 ⟨v7, rfl, A7, c7, rfl, hstr, k7, _⟩
          go_wp2_with fail
          have hrs := rrows_any w7 A7 c7 _ hstr hdl hd8
          refine hrs.mono ?_
          rintro e w8 hrw
          rw [hdS.out, hpar] at hrw
          obtain ⟨v8, rfl, hm8⟩ := hrw
          obtain ⟨A8, c8, hv8, _, _, _, _⟩ := hm8.shape rwE_length
          subst hv8
          have h7 := h6.keep k7
          have hrest7 := hrest6.keep k7
          have h8 := h7.keep hm8.only
          have hrest8 := (hrest7.keep hm8.only).relay (hm8.from h7.only) (fun g hg => by
            have hgn := hm8.new g hg
            have hlt7 := hrest7.lt
            have hb7 := h7.lt
            refine ⟨fun hm => ?_, fun hm => ?_, by omega, ?_, ?_, ?_, ?_⟩
            · have := (h7.fnew _ hm).2; omega
            · have := (h7.gnew _ hm).2; omega
            · have := hlt7 lp (by simp); omega
            · have := hlt7 xp (by simp); omega
            · have := hlt7 rp (by simp); omega
            · have := hlt7 mb (by simp); omega)
          obtain ⟨g0', g1, g2, g3, g4⟩ := h8.cells
          have h9 := h8.lay4 (.slice A8 M.length c8)
          have hrest9 := hrest8.stored hbold 4 (.slice A8 M.length c8)
          obtain ⟨_, _, _, i3, _⟩ := h9.cells
          have f8 := Blk.free h8.blk 4
          rw [← q3] at hrest9
          have hfin := Duo5.some (k := k) F2 G3 _ _ lp xp rp mb (openN s) false M _ h9 hrest9 q2.out hlen.out hlate.out (openN_lt s) hbig hgood
          replace hfin := Lib.hid hfin
          clear h7 h8 h9 h6 hstr k7 hm8 hrs hds d0 d1 d2 d3 d4 f2 f3 f4 hd8 hrest6 hrest7 hrest8 hrest9
          go_wp2
          go_ret
          exact ⟨rfl, hfin.out⟩
  · rcases ho with ⟨x, hx, rfl, hd2⟩ | ⟨rp, mb, lp, M, hz, _⟩
    · obtain rfl : x = openErr s := by
        rcases hx with ⟨_, a⟩ | ⟨a, _, _⟩
        · exact a
        · exact absurd a h0
      have h2 := h.turnF hd2.dev kF hFb (fun j hj => ⟨hF2 j hj, (hd2.new j hj).2⟩)
      clear h c0 c1 c2 c3 c4 hop
      obtain ⟨er, her⟩ : ∃ er, er = openErr s := ⟨_, rfl⟩
      rw [← her] at h0 q1
      rw [← her]
      replace her := Lib.hid her
      go_wp2_with fail
      refine (hro.out _ h2.ref).mono ?_
      rintro e w3 ⟨G3, hr3, k3, hG3, ho3⟩
      have h3 := h2.turnG hr3 k3 (fun i hi => ⟨(h2.gnew i hi).1, fun hf => h2.apart i hf hi, fun e => h2.bG (e ▸ hi)⟩) hG3.out
      rcases ho3 with ⟨g0, rfl⟩ | ⟨g0, _⟩
      · rw [← q1]
        have h4 := h3.lay2 (.pointer none)
        have h5 := h4.lay3 (.pointer none)
        have h6 := h5.lay4 (.slice none 0 0)
        have h7 := h6.lay3 (.pointer none)
        obtain ⟨d0, d1, d2, d3, d4⟩ := h3.cells
        have f2 := Blk.free h3.blk 2
        have f3 := Blk.free h4.blk 3
        have f4 := Blk.free h5.blk 4
        have f5 := Blk.free h6.blk 3
        obtain ⟨_, _, _, i3, _⟩ := h7.cells
        have hfin := Duo5.none (k := k) F2 G3 _ _ h7 q2.out hlen.out hlate.out
        replace hfin := Lib.hid hfin
        clear h2 h3 h4 h5 h6 h7 hr3 k3 q1 g0
        go_wp2
        go_ret
        exact ⟨rfl, hfin.out⟩
      · rw [← q1] at g0
        exact absurd g0 h0
    · exact absurd hz h0
end Go.Proofs.YthpjkhmkjhgbkaaGreatDoor
