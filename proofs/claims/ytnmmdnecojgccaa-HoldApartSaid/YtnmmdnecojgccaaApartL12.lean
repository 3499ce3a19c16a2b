/- HoldApart: whatever is asked and given back, no writer is beside another holder; in an epoch in which writing was granted one client was granted anything. -/
import Derived.Test.YtnmmdnecojgccaaApt12
namespace Go.Proofs.Ytnmmdnecojgccaa
open Go.RowKit
set_option linter.unusedVariables false

/-- The three lists are what was granted. -/
def Kept (L : Lk) (C M E : List Int) : Prop := ∃ G : List Gr, Inv L G ∧ C = G.map (·.client) ∧ M = G.map (·.mode) ∧ E = G.map (·.epoch)
theorem Kept.less {L N : Lk} {C M E : List Int} (h : Kept L C M E) (f : ∀ G, Inv L G → Inv N G) : Kept N C M E := by
  obtain ⟨G, h1, h2⟩ := h
  exact ⟨G, f G h1, h2⟩
theorem Kept.right {L : Lk} {C M E : List Int} (h : Kept L C M E) : RightP L ∧ (0 ≤ L.epoch ∧ L.epoch ≤ 4294967295) := by
  obtain ⟨G, h1, _⟩ := h
  exact ⟨h1.right, h1.range⟩
theorem Kept.ask1 {L : Lk} {C M E : List Int} (h : Kept L C M E) {c m : Int} (hm : m = 1 ∨ m = 2) (h1 : (askL L c m).2.1 = 1) : Kept (askL L c m).1 (C ++ [c]) (M ++ [m]) (E ++ [(askL L c m).1.epoch]) := by
  obtain ⟨G, h2, rfl, rfl, rfl⟩ := h
  have h3 := h2.ask (c := c) hm
  rw [if_pos h1] at h3
  exact ⟨_, h3, by simp, by simp, by simp⟩
theorem Kept.ask0 {L : Lk} {C M E : List Int} (h : Kept L C M E) {c m : Int} (hm : m = 1 ∨ m = 2) (h1 : (askL L c m).2.1 ≠ 1) : Kept (askL L c m).1 C M E := by
  obtain ⟨G, h2, rfl, rfl, rfl⟩ := h
  have h3 := h2.ask (c := c) hm
  rw [if_neg h1] at h3
  exact ⟨_, h3, rfl, rfl, rfl⟩
theorem Kept.fine {L : Lk} {C M E : List Int} (h : Kept L C M E) : C.length = M.length ∧ C.length = E.length ∧ ∀ (i k : Nat) (hi : i < C.length) (hk : k < C.length) (a b : Int), E[i]? = some a → E[k]? = some b → a = b → M[i]? = some 2 → C[i] = C[k] := by
  obtain ⟨G, h2, rfl, rfl, rfl⟩ := h
  refine ⟨by simp, by simp, fun i k hi hk a b ha hb hab hm => ?_⟩
  simp only [List.length_map] at hi hk
  rw [List.getElem?_map, List.getElem?_eq_getElem hi] at ha hm
  rw [List.getElem?_map, List.getElem?_eq_getElem hk] at hb
  simp only [Option.map_some, Option.some.injEq] at ha hb hm
  rw [List.getElem_map, List.getElem_map]
  exact h2.fine _ (List.getElem_mem hi) _ (List.getElem_mem hk) (by omega) hm
theorem alloc_size (w : World) (o : Obj) : (w.alloc o).heap.size = w.heap.size + 1 := by simp
theorem one_writer {N : Lk} (h : RightP N) {x : Hol} (hx : x ∈ N.hs) (h2 : x.mode = 2) : N.hs.length = 1 := by
  have := h.ok x hx
  unfold okH at this
  omega
theorem nus_owned {w : World} {v : Value} {l : List Int} (h : w.ownsRow 0 22 1 v l.length (encs nuE l)) : ∃ A c, v = .slice A l.length c ∧ Els nuE 1 w A l := by
  have hm : Mine nuE 1 22 w w v l ∨ True := .inr trivial
  rcases id h.2 with ⟨rfl, h0⟩ | ⟨g, cap, cur, rfl, hb, hg, hn, r⟩
  · have hl : l = [] := List.eq_nil_of_length_eq_zero h0
    subst hl
    exact ⟨none, 0, rfl, .inl rfl⟩
  · refine ⟨_, _, rfl, ?_⟩
    by_cases h0 : l = []
    · exact .inl h0
    · refine .inr ⟨g, 0, rfl, (h.lt g rfl).2, fun i hi j u hu => ?_⟩
      have q := h.cells rfl _ _ (encs_at nuE_length l i hi j u hu)
      rw [addr_add, Nat.zero_add] at q
      rw [Nat.zero_add]
      exact q

set_option maxRecDepth 100000 in
set_option maxHeartbeats 16000000 in
theorem holdApart_walk (w : World) (A0 : Option Addr) (c0' : Nat) (l : List Deed) (hb : Els deE 3 w A0 l) (hl : l.length ≤ 9223372036854775807) (hok : ∀ x ∈ l, x.Ok) :
    Calls Try.prog 5 #[.slice A0 l.length c0'] w fun e w' => e = .returned (.bool true) ∧ Only [] w w' := by
  replace hb := Lib.hid hb
  replace hok := Lib.hid hok
  have hlI : (l.length : Int) ≤ 9223372036854775807 := by omega
  go_enter Try.func5, Try.ntmps5
  go_wp2_with fail
  refine (alive_any _).mono ?_; rintro e w1 ⟨rfl, k1⟩
  go_wp2_with fail
  refine (fresh_any _ 3).mono ?_; rintro e w2 ⟨rfl, k2'⟩
  have k2 := k1.trans k2'
  go_wp2_with (refine wpList_store_lk ⟨3, 1, 0, 0, false, false, []⟩ noL (.slice none 0 0) _ rfl rfl _ _ rfl w2.heap.size rfl rfl (Lx.zero w2) ?_; intro w3 b3 k3'; have k3 := k2.trans (laid k3'); clear k3')
  have hgl : w.heap.size ≤ w2.heap.size := k2.size
  generalize w2.heap.size = gl at *
  go_loopw [4, 5, 6, 7] (fun va vb vc a wr => ∃ (n : Nat) (L : Lk) (A : Option Addr) (c : Nat) (C M E : List Int), n ≤ l.length ∧ n ≤ 200 ∧ a = .int .i64 n ∧ C.length ≤ n ∧ M.length ≤ n ∧ E.length ≤ n ∧ Own3 w wr gl A va vb vc C M E ∧ Lx wr gl L (.slice A L.hs.length c) ∧ Els holE 2 wr A L.hs ∧ Hid (∀ a, A = some a → a.block ≠ gl) ∧ Hid (Kept L C M E)) (fun _ _ _ a _ => l.length - (intOf a).toNat)
  case atStart => exact ⟨0, ⟨3, 1, 0, 0, false, false, []⟩, none, 0, [], [], [], Nat.zero_le _, Nat.zero_le _, rfl, Nat.le_refl _, Nat.le_refl _, Nat.le_refl _, Own3.start k3, b3, .inl rfl, fun a ha => by (cases ha), ⟨[], Inv.start 3, rfl, rfl, rfl⟩⟩
  case round =>
    clear b3 k3 k2 k2' k1
    obtain ⟨n, L, A, c, C, M, E, hn, hn2, rfl, hC, hM, hE, h3, bx, hel, hAg, hkp⟩ := hrel
    obtain ⟨wo, hwo⟩ : ∃ wo, wo = wr := ⟨_, rfl⟩
    rw [← hwo] at h3 bx hel ⊢
    clear hwo
    by_cases hlt : n < l.length ∧ n < 200
    rotate_left
    · have hout : (n < l.length ∧ 200 ≤ n) ∨ l.length ≤ n := by omega
      obtain ⟨l1, l2, hfi⟩ := hkp.out.fine
      obtain ⟨Ac, cc, hvc, elc⟩ := nus_owned h3.a
      obtain ⟨Am, cm, hvm, elm⟩ := nus_owned h3.b
      obtain ⟨Ae, ce, hve, ele⟩ := nus_owned h3.c
      subst hvc
      subst hvm
      subst hve
      have ko := h3.only
      obtain ⟨N, hN⟩ : ∃ N, N = C.length := ⟨_, rfl⟩
      rw [← l1, ← l2, ← hN]
      have hNb : N ≤ 200 := by omega
      replace hN := Lib.hid hN
      replace l1 := Lib.hid l1
      replace l2 := Lib.hid l2
      replace hfi := Lib.hid hfi
      replace hC := Lib.hid hC
      replace hM := Lib.hid hM
      replace hE := Lib.hid hE
      replace elc := Lib.hid elc
      replace elm := Lib.hid elm
      replace ele := Lib.hid ele
      clear h3 bx hel hlt hn2
      rcases hout with ⟨ho1, ho2⟩ | ho1
      all_goals
        go_wp2_with fail
        go_loopw [14] (fun i wr => ∃ p : Nat, p ≤ N ∧ i = .int .i64 p ∧ Only [] wo wr) (fun i _ => N - (intOf i).toNat)
        case atStart => exact ⟨0, Nat.zero_le _, rfl, Only.refl _ _⟩
        case round =>
          obtain ⟨p, hp, rfl, hk⟩ := hrel
          by_cases hpl : p < N
          · obtain ⟨wi, hwi⟩ : ∃ wi, wi = wr := ⟨_, rfl⟩
            rw [← hwi] at hk ⊢
            clear hwi
            go_wp2_with fail
            go_loopw [15] (fun i wr => ∃ q : Nat, q ≤ N ∧ i = .int .i64 q ∧ Only [] wi wr) (fun i _ => N - (intOf i).toNat)
            case atStart => exact ⟨0, Nat.zero_le _, rfl, Only.refl _ _⟩
            case round =>
              obtain ⟨q, hq, rfl, hk2⟩ := hrel
              have hkk := hk.trans hk2
              by_cases hql : q < N
              · have pC : p < C.length := by rw [← hN.out]; exact hpl
                have qC : q < C.length := by rw [← hN.out]; exact hql
                have pE : p < E.length := by rw [← l2.out]; exact pC
                have qE : q < E.length := by rw [← l2.out]; exact qC
                have pM : p < M.length := by rw [← l1.out]; exact pC
                obtain ⟨gc, oc, rfl, _, hac⟩ := elc.out.get pC
                obtain ⟨gm, om, rfl, _, ham⟩ := elm.out.get pM
                obtain ⟨ge, oe, rfl, _, hae⟩ := ele.out.get pE
                have r1 := nus_at (hac.kept hkk (by simp)) pC
                have r2 := nus_at (hac.kept hkk (by simp)) qC
                have r3 := nus_at (ham.kept hkk (by simp)) pM
                have r4 := nus_at (hae.kept hkk (by simp)) pE
                have r5 := nus_at (hae.kept hkk (by simp)) qE
                have hf := hfi.out p q pC qC E[p] E[q] (List.getElem?_eq_getElem pE) (List.getElem?_eq_getElem qE)
                rw [List.getElem?_eq_getElem pM, Option.some.injEq] at hf
                generalize C[p] = x1 at *
                generalize C[q] = x2 at *
                generalize M[p] = x3 at *
                generalize E[p] = x4 at *
                generalize E[q] = x5 at *
                clear hac ham hae elc elm ele
                have hcs : ((x4 == x5) = false) ∨ ((x4 == x5) = true ∧ (x3 == 2) = false) ∨ ((x4 == x5) = true ∧ (x3 == 2) = true ∧ (x1 != x2) = false) := by
                  by_cases a1 : x4 = x5
                  · by_cases a2 : x3 = 2
                    · exact .inr (.inr ⟨by simpa using a1, by simpa using a2, by simpa using hf a1 a2⟩)
                    · exact .inr (.inl ⟨by simpa using a1, by simpa using a2⟩)
                  · exact .inl (by simpa using a1)
                clear hf
                rcases hcs with d1 | ⟨d1, d2⟩ | ⟨d1, d2, d3⟩
                all_goals
                  go_wp2_with fail
                  go_quiet (fail)
                  go_wp2_with fail
                  go_roundw
                  case rel => exact ⟨q + 1, by omega, by go_num, hk2.drewN _⟩
                  case measure => simp [intOf]; omega
              · go_wp2_with fail
                go_roundw
                case rel => exact ⟨p + 1, by omega, by go_num, hkk⟩
                case measure => simp [intOf]; omega
          · go_wp2_with fail
            refine (alive_any _).mono ?_; rintro e wz ⟨rfl, kz⟩
            go_wp2
            go_ret
            exact ⟨rfl, (ko.trans hk).trans kz⟩
    obtain ⟨hlt, hlt2⟩ := hlt
    obtain ⟨g, o, hA0, _, hat⟩ := hb.out.get hlt
    obtain ⟨e0, e1, e2⟩ := deeds_at (hat.kept h3.only (by simp)) hlt
    have hxo := hok.out _ (List.getElem_mem hlt)
    generalize l[n] = x at *
    obtain ⟨⟨a1, a2⟩, ⟨a3, a4⟩⟩ := hxo
    obtain ⟨kd, xc, xm⟩ := x
    simp only at e0 e1 e2 a1 a2 a3 a4
    subst hA0
    clear hat
    obtain ⟨hri, hra⟩ := hkp.out.right
    obtain ⟨f, ep, u, ct, fe, go, hs⟩ := L
    simp only at hel bx hra
    have hs4 : hs.length ≤ 4 := hri.len
    obtain ⟨c0, c1, c2, c3, c4, c5, c6⟩ := bx.at (Only.refl [] _) (by simp)
    have hq1 : gl < wo.heap.size := bx.lt
    have hq2 : ¬ gl = wo.heap.size := by omega
    have hq3 : ¬ gl = wo.heap.size + 1 := by omega
    have hq4 : ¬ gl = wo.heap.size + 1 + 1 := by omega
    have hq5 : gl < wo.heap.size + 1 := by omega
    have hq6 : gl < wo.heap.size + 1 + 1 := by omega
    have hAlt : ∀ a, A = some a → a.block < wo.heap.size ∨ hs = [] := fun a ha => by
      rcases hel with h | ⟨g', o', h, hg', _⟩
      · exact .inr h
      · rw [h] at ha
        injection ha with ha
        subst ha
        exact .inl hg'
    -- the round's three boxes
    have kA := (Only.refl [] wo).alloc (.cells #[.int .i64 kd, .int .u32 xc, .int .u32 xm] 41)
    have xA : Blk (wo.alloc (.cells #[.int .i64 kd, .int .u32 xc, .int .u32 xm] 41)) wo.heap.size 41 #[.int .i64 kd, .int .u32 xc, .int .u32 xm] := Blk.new _ _ _
    have sA : (wo.alloc (.cells #[.int .i64 kd, .int .u32 xc, .int .u32 xm] 41)).heap.size = wo.heap.size + 1 := by simp
    generalize hwA : wo.alloc (.cells #[.int .i64 kd, .int .u32 xc, .int .u32 xm] 41) = wA at kA xA sA
    have T := two_lk wA f ep u ct fe go hs (.slice A hs.length c)
    rw [sA] at T
    generalize hwB : ((wA.alloc (.cells #[.int .u32 f, .int .u32 ep, .int .u32 u, .int .u32 ct, .bool fe, .bool go, .slice A hs.length c] 25)).alloc (.cells #[.int .u32 f, .int .u32 ep, .int .u32 u, .int .u32 ct, .bool fe, .bool go, .slice A hs.length c] 25)) = wB at T
    rw [← hwA] at hwB
    replace hwB := Lib.hid hwB
    obtain ⟨kB', bw, bn, sB⟩ := T
    have kB := kA.trans kB'
    have xB := xA.kept kB' (by simp)
    clear hwA kA xA kB' sA
    have h3B := h3.keep kB
    have bB := bx.kept kB (by simp)
    have elB := hel.kept kB (by simp)
    have sB' := Lib.hid sB
    replace hri := Lib.hid hri
    have hcs : kd.tmod 5 = 0 ∨ kd.tmod 5 = 1 ∨ kd.tmod 5 = 2 ∨ kd.tmod 5 = 3 ∨ kd.tmod 5 = 4 ∨ (kd.tmod 5 ≠ 0 ∧ kd.tmod 5 ≠ 1 ∧ kd.tmod 5 ≠ 2 ∧ kd.tmod 5 ≠ 3 ∧ kd.tmod 5 ≠ 4) := by omega
    rcases hcs with hkd | hkd | hkd | hkd | hkd | hkd
    · have s0 : (kd.tmod 5 == 0) = true := by simp; omega
      have t0 : kd.tmod 5 = 0 := by omega
      obtain ⟨mm, hmm, hm12⟩ : ∃ mm, 1 + xm % 2 = mm ∧ (mm = 1 ∨ mm = 2) := ⟨_, rfl, by omega⟩
      have hcall := ask_any wB ⟨f, ep, u, ct, fe, go, hs⟩ A c xc mm elB (by simp only; omega) hra
      have herr := ask_ok (c := xc) hri.out hm12
      have hgo := Lib.hid (ask_goes (c := xc) hri.out hm12)
      have hka1 := hkp.out.ask1 (c := xc) hm12
      have hka0 := hkp.out.ask0 (c := xc) hm12
      generalize askL ⟨f, ep, u, ct, fe, go, hs⟩ xc mm = R at *
      obtain ⟨N, told, er⟩ := R
      simp only at herr hgo hka1 hka0 hcall
      subst herr
      simp only [lkV] at hcall
      replace hcall := Lib.hid hcall

      go_wp2_with fail
      rw [hwB.out]
      refine hcall.out.mono ?_; rintro e w4 ⟨v4, rfl, hm4⟩
      simp only at hm4

      obtain ⟨A2, d2, rfl, el4, _, hnew, _⟩ := hm4.shape
      have k4 := hm4.only
      have h34 := h3B.keep k4
      have bn2 := bn.kept k4 (by simp)
      have bl2 := Lib.hid (bB.kept k4 (by simp))
      have xw4 := Lib.hid (xB.kept k4 (by simp))
      have ww4 := Lib.hid (bw.kept k4 (by simp))
      have hA2new : ∀ a, A2 = some a → wB.heap.size ≤ a.block := fun a ha => (hnew a ha).resolve_left (by simp)
      have hA2lt := Lib.hid (show ∀ a, A2 = some a → a.block < w4.heap.size from fun a ha => (hm4.own.lt a.block (by rw [ha]; rfl)).2)
      have h34' := Lib.hid (Own3.other h3B h34 hA2new)
      have el4' := Lib.hid el4
      have hsz4 := Lib.hid (show wo.heap.size + 3 ≤ w4.heap.size by have := k4.size; have := sB'.out; omega)
      replace hA2new := Lib.hid hA2new
      clear hm4 hnew h34 el4 c0 c1 c2 c3 c4 c5 c6 bB xB bw bn

      obtain ⟨nf, ne, nu, nc, nfe, ngo, nl⟩ := N
      simp only at h34' el4' hA2lt bn2 bl2 hgo hka1 hka0

      go_wp2_with (first
        | (refine wpList_store_lk ⟨nf, ne, nu, nc, nfe, ngo, nl⟩ ⟨f, ep, u, ct, fe, go, hs⟩ (.slice A2 nl.length d2) _ rfl rfl _ _ rfl (wo.heap.size + 1 + 1) rfl rfl bn2 ?_; intro wy by_ ky; obtain ⟨m0, m1, m2, m3, m4, m5, m6⟩ := Lx.at by_ (Only.refl [] _) (by simp); have bl3 := Lx.kept bl2.out ky (by simp only [List.mem_singleton]; omega); have ky2 := Lib.hid ky; clear ky)
        | (refine wpList_store_lk ⟨nf, ne, nu, nc, nfe, ngo, nl⟩ ⟨f, ep, u, ct, fe, go, hs⟩ (.slice A2 nl.length d2) _ rfl rfl _ _ rfl gl rfl rfl bl3 ?_; intro wz bz kz; have kz2 := Lib.hid kz; clear kz m0 m1 m2 m3 m4 m5 m6 bl3; obtain ⟨c0, c1, c2, c3, c4, c5, c6⟩ := Lx.at bz (Only.refl [] _) (by simp)))
      have hgl0 : w.heap.size ≤ wo.heap.size := h3.only.size
      have xz : Blk wz wo.heap.size 41 #[.int .i64 kd, .int .u32 xc, .int .u32 xm] := (xw4.out.kept ky2.out (by simp only [List.mem_singleton]; omega)).kept kz2.out (by simp only [List.mem_singleton]; omega)
      have wz' := Lx.kept (Lx.kept ww4.out ky2.out (by simp only [List.mem_singleton]; omega)) kz2.out (by simp only [List.mem_singleton]; omega)
      have h3y : Own3 w wy gl A2 _ _ _ C M E := Own3.fresh h34'.out ky2.out (by have := Own3.lt h3; omega) (fun g h => by have := (Own3.lt h3).1 g h; omega) (fun g h => by have := (Own3.lt h3).2.1 g h; omega) (fun g h => by have := (Own3.lt h3).2.2 g h; omega)
      have h3z := Own3.box h3y kz2.out hgl
      have elz : Els holE 2 wz A2 nl := Els.kept (Els.kept el4'.out ky2.out (fun a ha => by have := hA2new.out a ha; have := sB'.out; simp only [List.mem_singleton]; omega)) kz2.out (fun a ha => by have := hA2new.out a ha; have := sB'.out; simp only [List.mem_singleton]; omega)
      clear hAg
      have hAg : Hid (∀ a, A2 = some a → a.block ≠ gl) := fun a ha => by have := hA2new.out a ha; have := sB'.out; omega
      replace hA2lt : Hid (∀ a, A2 = some a → a.block < wz.heap.size) := fun a ha => by have := hA2lt.out a ha; have := ky2.out.size; have := kz2.out.size; omega
      clear h3y ky2 kz2 h34' bn2 bl2 xw4 ww4 by_ el4'
      by_cases htold : told = 1
      · subst htold
        have hkN := Lib.hid (hka1 rfl)
        have hrN := Lib.hid hkN.out.right.1
        clear hka1 hka0
        -- the stores are done: lock N lies in the box
        have rN := right_any wz ⟨nf, ne, nu, nc, nfe, ngo, nl⟩ A2 d2 elz (by have := hrN.out.len; omega)
        rw [decide_eq_true hrN.out] at rN
        have hNo := fun (x : Hol) (hx : x ∈ nl) (h : x.mode = 2) => one_writer hrN.out hx h
        have hN4 := hrN.out.len
        have hgo1 := hgo.out.epoch
        have hgo2 := hgo.out.cut
        simp only [lkV] at rN
        simp only at hNo hN4 bz elz hgo1 hgo2
        have d9 : decide (ct < nc) = false := decide_eq_false (by omega)
        have d10 : decide (ne < ep) = false := decide_eq_false (by omega)
        replace rN := Lib.hid rN
        replace hNo := Lib.hid hNo
        clear hgo1
        refine rN.out.mono ?_; rintro e w8 ⟨rfl, k8⟩
        clear c0 c1 c2 c3 c4 c5 c6 rN
        have b8 := Lx.kept bz k8 (by simp)
        have x8 := Blk.kept xz k8 (by simp)
        have h8 := Own3.keep h3z k8
        have el8 := Els.kept elz k8 (by simp)
        obtain ⟨c0, c1, c2, c3, c4, c5, c6⟩ := Lx.at b8 (Only.refl [] _) (by simp)
        obtain ⟨p0, p1, p2, p3, p4, p5, p6⟩ := Lx.at wz' k8 (by simp)
        have y0 := x8.cell 0
        simp only [List.getElem?_toArray, List.getElem?_cons_zero] at y0
        clear bz xz h3z elz wz'
        go_wp2_with fail
        clear c0 c1 c2 c3 c4 c5 c6 p0 p1 p2 p3 p4 p5 p6 y0
        go_loopw [13] (fun i wr => ∃ k : Nat, k ≤ nl.length ∧ i = .int .i64 k ∧ Only [] w8 wr) (fun i _ => nl.length - (intOf i).toNat)
        case atStart => exact ⟨0, Nat.zero_le _, rfl, Only.refl _ _⟩
        case round =>
          obtain ⟨k, hk, rfl, hkk⟩ := hrel
          obtain ⟨c0, c1, c2, c3, c4, c5, c6⟩ := Lx.at b8 hkk (by simp)
          by_cases hkl : k < nl.length
          · obtain ⟨g2, o2, hA2, _, hat2⟩ := el8.get hkl
            have y1 := (hols_at (hat2.kept hkk (by simp)) hkl).2
            have ho1 := hNo.out nl[k] (List.getElem_mem hkl)
            generalize nl[k] = y at *
            obtain ⟨ya, yb⟩ := y
            simp only at y1 ho1
            clear hat2
            by_cases hy2 : yb = 2
            · have d11 : (yb == 2) = true := by simpa using hy2
              have d12 : ((nl.length : Int) != 1) = false := by have := ho1 hy2; simp; omega
              have d13 : (nl.length : Int) = 1 := by have := ho1 hy2; omega
              replace d13 := Lib.hid d13
              replace hy2 := Lib.hid hy2
              subst hA2
              clear ho1
              go_wp2_with fail
              go_roundw
              case rel => exact ⟨k + 1, by omega, by go_num, hkk⟩
              case measure => simp [intOf]; omega
            · have d11 : (yb == 2) = false := by simpa using hy2
              replace hy2 := Lib.hid hy2
              subst hA2
              clear ho1
              go_wp2_with fail
              go_roundw
              case rel => exact ⟨k + 1, by omega, by go_num, hkk⟩
              case measure => simp [intOf]; omega
          · have h9 := Own3.keep h8 hkk
            have b9 := Lx.kept b8 hkk (by simp)
            have el9 := Els.kept el8 hkk (by simp)
            have x9 := Blk.kept x8 hkk (by simp)
            clear h8 b8 el8 x8
            have hlo := Own3.lt h3
            have hgl9 : gl < wr.heap.size := b9.lt
            have hA29 : ∀ a, A2 = some a → a.block < wr.heap.size := fun a ha => by have := hA2lt.out a ha; have := k8.size; have := hkk.size; omega
            have y1 := x9.cell 1
            simp only [List.getElem?_toArray, List.getElem?_cons_zero, List.getElem?_cons_succ] at y1
            have hp1 := Lib.hid (Own3.keep h9 ((Only.refl [] wr).alloc (.cells #[.int .u32 xc] 22)))
            have bp1 := Lib.hid (Blk.new wr 22 #[.int .u32 xc])
            have gp1 := Lib.hid (show gl < (wr.alloc (.cells #[.int .u32 xc] 22)).heap.size by rw [alloc_size]; exact Nat.lt_succ_of_lt hgl9)
            have ap1 := Lib.hid (show ∀ a, A2 = some a → a.block < (wr.alloc (.cells #[.int .u32 xc] 22)).heap.size from fun a ha => by rw [alloc_size]; exact Nat.lt_succ_of_lt (hA29 a ha))
            have xp1 := x9.kept ((Only.refl [] wr).alloc (.cells #[.int .u32 xc] 22)) (by simp)
            have bp0 := b9.kept ((Only.refl [] wr).alloc (.cells #[.int .u32 xc] 22)) (by simp)
            have ep1 := el9.kept ((Only.refl [] wr).alloc (.cells #[.int .u32 xc] 22)) (by simp)
            have xp1' := Lib.hid xp1
            have bp0' := Lib.hid bp0
            have ep1' := Lib.hid ep1
            have l1' := Lib.hid hlo.1
            have l2' := Lib.hid hlo.2.1
            have l3' := Lib.hid hlo.2.2
            clear h9 b9 el9 x9 hlo hA29 hgl9 xp1 bp0 ep1
            go_wp2_with (at_builtin; first
              | (refine wpList_push rfl (.tmp 141) (.tmp 144) 30 rfl 22 _ 4 nuE_length (by decide) nuE_one Try.underlying30 info_nu rfl _ C.length C rfl hp1.out.a wr.heap.size xc _ rfl bp1.out (by unfold maxLen; omega) (by omega) ?_; intro vv6 w6 h6 g6 a6; have hq1' := Lib.hid (Own3.push hp1.out h6 g6 a6 gp1.out ap1.out); have pq1 := Own3.pushed hp1.out g6; have bq1 := Lib.hid (pq1.1 _ _ bp0'.out); have eq1 := Lib.hid (pq1.2.1 _ ep1'.out); have xq1 := Own3.beside hp1.out g6 xp1'.out (fun g hg => by have := l1'.out g hg; omega); have y2 := xq1.cell 2; simp only [List.getElem?_toArray, List.getElem?_cons_zero, List.getElem?_cons_succ] at y2; have zq1 := Lib.hid g6.size; have hp2 := Lib.hid (Own3.keep (Own3.rot hq1'.out) ((Only.refl [] w6).alloc (.cells #[.int .u32 mm] 22))); have bp2 := Lib.hid (Blk.new w6 22 #[.int .u32 mm]); have gp2 := Lib.hid (show gl < (w6.alloc (.cells #[.int .u32 mm] 22)).heap.size by rw [alloc_size]; exact Nat.lt_succ_of_lt (Nat.lt_of_lt_of_le gp1.out zq1.out)); have ap2 := Lib.hid (show ∀ a, A2 = some a → a.block < (w6.alloc (.cells #[.int .u32 mm] 22)).heap.size from fun a ha => by rw [alloc_size]; exact Nat.lt_succ_of_lt (Nat.lt_of_lt_of_le (ap1.out a ha) zq1.out)); have bq2 := Lib.hid (Lx.kept bq1.out ((Only.refl [] w6).alloc (.cells #[.int .u32 mm] 22)) (by simp)); have eq2 := Lib.hid (Els.kept eq1.out ((Only.refl [] w6).alloc (.cells #[.int .u32 mm] 22)) (by simp)); clear h6 g6 a6 pq1)
              | (refine wpList_push rfl (.tmp 146) (.tmp 151) 30 rfl 22 _ 4 nuE_length (by decide) nuE_one Try.underlying30 info_nu rfl _ M.length M rfl hp2.out.a w6.heap.size mm _ rfl bp2.out (by unfold maxLen; omega) (by omega) ?_; intro vv7 w7 h7 g7 a7; have hq2' := Lib.hid (Own3.push hp2.out h7 g7 a7 gp2.out ap2.out); have pq2 := Own3.pushed hp2.out g7; have bq3 := pq2.1 _ _ bq2.out; have eq3 := Lib.hid (pq2.2.1 _ eq2.out); obtain ⟨m0, m1, m2, m3, m4, m5, m6⟩ := Lx.at bq3 (Only.refl [] _) (by simp); have zq2 := Lib.hid g7.size; have hp3 := Lib.hid (Own3.keep (Own3.rot hq2'.out) ((Only.refl [] w7).alloc (.cells #[.int .u32 ne] 22))); have bp3 := Lib.hid (Blk.new w7 22 #[.int .u32 ne]); have gp3 := Lib.hid (show gl < (w7.alloc (.cells #[.int .u32 ne] 22)).heap.size by rw [alloc_size]; exact Nat.lt_succ_of_lt (Nat.lt_of_lt_of_le gp2.out zq2.out)); have ap3 := Lib.hid (show ∀ a, A2 = some a → a.block < (w7.alloc (.cells #[.int .u32 ne] 22)).heap.size from fun a ha => by rw [alloc_size]; exact Nat.lt_succ_of_lt (Nat.lt_of_lt_of_le (ap2.out a ha) zq2.out)); have bq4 := Lib.hid (Lx.kept bq3 ((Only.refl [] w7).alloc (.cells #[.int .u32 ne] 22)) (by simp)); have eq4 := Lib.hid (Els.kept eq3.out ((Only.refl [] w7).alloc (.cells #[.int .u32 ne] 22)) (by simp)); clear h7 g7 a7 pq2)
              | (go_must (refine wpList_push rfl (.tmp 153) (.tmp 156) 30 rfl 22 _ 4 nuE_length (by decide) nuE_one Try.underlying30 info_nu rfl _ E.length E rfl hp3.out.a w7.heap.size ne _ rfl bp3.out (by unfold maxLen; omega) (by omega) ?_; intro vv8 w9 h8 g8 a8); have hq3' := Lib.hid (Own3.rot (Own3.push hp3.out h8 g8 a8 gp3.out ap3.out)); have pq3 := Own3.pushed hp3.out g8; have bq5 := Lib.hid (pq3.1 _ _ bq4.out); have eq5 := Lib.hid (pq3.2.1 _ eq4.out); clear h8 g8 a8 pq3))
            go_roundw
            case rel => exact ⟨n + 1, _, _, _, C ++ [xc], M ++ [mm], E ++ [ne], by omega, by omega, by go_num, by simp; omega, by simp; omega, by simp; omega, hq3'.out, bq5.out, eq5.out, hAg, hkN⟩
            case measure => simp [intOf]; omega
      · have hkN := Lib.hid (hka0 htold)
        have hrN := Lib.hid hkN.out.right.1
        have d14 : (told == 1) = false := by simpa using htold
        replace htold := Lib.hid htold
        clear hka1 hka0
        -- the stores are done: lock N lies in the box
        have rN := right_any wz ⟨nf, ne, nu, nc, nfe, ngo, nl⟩ A2 d2 elz (by have := hrN.out.len; omega)
        rw [decide_eq_true hrN.out] at rN
        have hNo := fun (x : Hol) (hx : x ∈ nl) (h : x.mode = 2) => one_writer hrN.out hx h
        have hN4 := hrN.out.len
        have hgo1 := hgo.out.epoch
        have hgo2 := hgo.out.cut
        simp only [lkV] at rN
        simp only at hNo hN4 bz elz hgo1 hgo2
        have d9 : decide (ct < nc) = false := decide_eq_false (by omega)
        have d10 : decide (ne < ep) = false := decide_eq_false (by omega)
        replace rN := Lib.hid rN
        replace hNo := Lib.hid hNo
        clear hgo1
        refine rN.out.mono ?_; rintro e w8 ⟨rfl, k8⟩
        clear c0 c1 c2 c3 c4 c5 c6 rN
        have b8 := Lx.kept bz k8 (by simp)
        have x8 := Blk.kept xz k8 (by simp)
        have h8 := Own3.keep h3z k8
        have el8 := Els.kept elz k8 (by simp)
        obtain ⟨c0, c1, c2, c3, c4, c5, c6⟩ := Lx.at b8 (Only.refl [] _) (by simp)
        obtain ⟨p0, p1, p2, p3, p4, p5, p6⟩ := Lx.at wz' k8 (by simp)
        have y0 := x8.cell 0
        simp only [List.getElem?_toArray, List.getElem?_cons_zero] at y0
        clear bz xz h3z elz wz'
        go_wp2_with fail
        clear c0 c1 c2 c3 c4 c5 c6 p0 p1 p2 p3 p4 p5 p6 y0
        go_loopw [13] (fun i wr => ∃ k : Nat, k ≤ nl.length ∧ i = .int .i64 k ∧ Only [] w8 wr) (fun i _ => nl.length - (intOf i).toNat)
        case atStart => exact ⟨0, Nat.zero_le _, rfl, Only.refl _ _⟩
        case round =>
          obtain ⟨k, hk, rfl, hkk⟩ := hrel
          obtain ⟨c0, c1, c2, c3, c4, c5, c6⟩ := Lx.at b8 hkk (by simp)
          by_cases hkl : k < nl.length
          · obtain ⟨g2, o2, hA2, _, hat2⟩ := el8.get hkl
            have y1 := (hols_at (hat2.kept hkk (by simp)) hkl).2
            have ho1 := hNo.out nl[k] (List.getElem_mem hkl)
            generalize nl[k] = y at *
            obtain ⟨ya, yb⟩ := y
            simp only at y1 ho1
            clear hat2
            by_cases hy2 : yb = 2
            · have d11 : (yb == 2) = true := by simpa using hy2
              have d12 : ((nl.length : Int) != 1) = false := by have := ho1 hy2; simp; omega
              have d13 : (nl.length : Int) = 1 := by have := ho1 hy2; omega
              replace d13 := Lib.hid d13
              replace hy2 := Lib.hid hy2
              subst hA2
              clear ho1
              go_wp2_with fail
              go_roundw
              case rel => exact ⟨k + 1, by omega, by go_num, hkk⟩
              case measure => simp [intOf]; omega
            · have d11 : (yb == 2) = false := by simpa using hy2
              replace hy2 := Lib.hid hy2
              subst hA2
              clear ho1
              go_wp2_with fail
              go_roundw
              case rel => exact ⟨k + 1, by omega, by go_num, hkk⟩
              case measure => simp [intOf]; omega
          · have h9 := Own3.keep h8 hkk
            have b9 := Lx.kept b8 hkk (by simp)
            have el9 := Els.kept el8 hkk (by simp)
            have x9 := Blk.kept x8 hkk (by simp)
            clear h8 b8 el8 x8
            go_wp2_with fail
            go_roundw
            case rel => exact ⟨n + 1, _, _, _, C, M, E, by omega, by omega, by go_num, by omega, by omega, by omega, h9, b9, el9, hAg, hkN⟩
            case measure => simp [intOf]; omega
    · have s0 : (kd.tmod 5 == 0) = false := by simp; omega
      have t0 : ¬ kd.tmod 5 = 0 := by omega
      have s1 : (kd.tmod 5 == 1) = true := by simp; omega
      have t1 : kd.tmod 5 = 1 := by omega
      have hcall := return_any wB ⟨f, ep, u, ct, fe, go, hs⟩ A c xc ep elB (by simp only; omega) hra
      rw [show returnL ⟨f, ep, u, ct, fe, go, hs⟩ xc ep = _ from return_ok (c := xc) hri.out] at hcall
      have hkN := Lib.hid (hkp.out.less (N := withL ⟨f, ep, u, ct, fe, go, hs⟩ (withoutH hs xc)) (fun G h => h.less (h.right.sub (without_sub _ _)) rfl rfl (fun x hx => (without_sub _ _).subset hx)))
      have hgo : Hid (Goes ⟨f, ep, u, ct, fe, go, hs⟩ (withL ⟨f, ep, u, ct, fe, go, hs⟩ (withoutH hs xc))) := ⟨Int.le_refl _, Int.le_refl _⟩
      simp only at hcall
      generalize withL ⟨f, ep, u, ct, fe, go, hs⟩ (withoutH hs xc) = N at *

      have hrN := Lib.hid hkN.out.right.1
      simp only [lkV] at hcall
      replace hcall := Lib.hid hcall

      go_wp2_with fail
      rw [hwB.out]
      refine (hcall.out).mono ?_; rintro e w4 ⟨v4, rfl, hm4⟩
      simp only at hm4

      obtain ⟨A2, d2, rfl, el4, _, hnew, _⟩ := hm4.shape
      have k4 := hm4.only
      have h34 := h3B.keep k4
      have bn2 := bn.kept k4 (by simp)
      have bl2 := Lib.hid (bB.kept k4 (by simp))
      have xw4 := Lib.hid (xB.kept k4 (by simp))
      have ww4 := Lib.hid (bw.kept k4 (by simp))
      have hA2new : ∀ a, A2 = some a → wB.heap.size ≤ a.block := fun a ha => (hnew a ha).resolve_left (by simp)
      have hA2lt := Lib.hid (show ∀ a, A2 = some a → a.block < w4.heap.size from fun a ha => (hm4.own.lt a.block (by rw [ha]; rfl)).2)
      have h34' := Lib.hid (Own3.other h3B h34 hA2new)
      have el4' := Lib.hid el4
      have hsz4 := Lib.hid (show wo.heap.size + 3 ≤ w4.heap.size by have := k4.size; have := sB'.out; omega)
      replace hA2new := Lib.hid hA2new
      clear hm4 hnew h34 el4 c0 c1 c2 c3 c4 c5 c6 bB xB bw bn

      obtain ⟨nf, ne, nu, nc, nfe, ngo, nl⟩ := N
      simp only at h34' el4' hA2lt bn2 bl2 hgo

      go_wp2_with (first
        | (refine wpList_store_lk ⟨nf, ne, nu, nc, nfe, ngo, nl⟩ ⟨f, ep, u, ct, fe, go, hs⟩ (.slice A2 nl.length d2) _ rfl rfl _ _ rfl (wo.heap.size + 1 + 1) rfl rfl bn2 ?_; intro wy by_ ky; obtain ⟨m0, m1, m2, m3, m4, m5, m6⟩ := Lx.at by_ (Only.refl [] _) (by simp); have bl3 := Lx.kept bl2.out ky (by simp only [List.mem_singleton]; omega); have ky2 := Lib.hid ky; clear ky)
        | (refine wpList_store_lk ⟨nf, ne, nu, nc, nfe, ngo, nl⟩ ⟨f, ep, u, ct, fe, go, hs⟩ (.slice A2 nl.length d2) _ rfl rfl _ _ rfl gl rfl rfl bl3 ?_; intro wz bz kz; have kz2 := Lib.hid kz; clear kz m0 m1 m2 m3 m4 m5 m6 bl3; obtain ⟨c0, c1, c2, c3, c4, c5, c6⟩ := Lx.at bz (Only.refl [] _) (by simp)))
      have hgl0 : w.heap.size ≤ wo.heap.size := h3.only.size
      have xz : Blk wz wo.heap.size 41 #[.int .i64 kd, .int .u32 xc, .int .u32 xm] := (xw4.out.kept ky2.out (by simp only [List.mem_singleton]; omega)).kept kz2.out (by simp only [List.mem_singleton]; omega)
      have wz' := Lx.kept (Lx.kept ww4.out ky2.out (by simp only [List.mem_singleton]; omega)) kz2.out (by simp only [List.mem_singleton]; omega)
      have h3y : Own3 w wy gl A2 _ _ _ C M E := Own3.fresh h34'.out ky2.out (by have := Own3.lt h3; omega) (fun g h => by have := (Own3.lt h3).1 g h; omega) (fun g h => by have := (Own3.lt h3).2.1 g h; omega) (fun g h => by have := (Own3.lt h3).2.2 g h; omega)
      have h3z := Own3.box h3y kz2.out hgl
      have elz : Els holE 2 wz A2 nl := Els.kept (Els.kept el4'.out ky2.out (fun a ha => by have := hA2new.out a ha; have := sB'.out; simp only [List.mem_singleton]; omega)) kz2.out (fun a ha => by have := hA2new.out a ha; have := sB'.out; simp only [List.mem_singleton]; omega)
      clear hAg
      have hAg : Hid (∀ a, A2 = some a → a.block ≠ gl) := fun a ha => by have := hA2new.out a ha; have := sB'.out; omega
      replace hA2lt : Hid (∀ a, A2 = some a → a.block < wz.heap.size) := fun a ha => by have := hA2lt.out a ha; have := ky2.out.size; have := kz2.out.size; omega
      clear h3y ky2 kz2 h34' bn2 bl2 xw4 ww4 by_ el4'
      -- the stores are done: lock N lies in the box
      have rN := right_any wz ⟨nf, ne, nu, nc, nfe, ngo, nl⟩ A2 d2 elz (by have := hrN.out.len; omega)
      rw [decide_eq_true hrN.out] at rN
      have hNo := fun (x : Hol) (hx : x ∈ nl) (h : x.mode = 2) => one_writer hrN.out hx h
      have hN4 := hrN.out.len
      have hgo1 := hgo.out.epoch
      have hgo2 := hgo.out.cut
      simp only [lkV] at rN
      simp only at hNo hN4 bz elz hgo1 hgo2
      have d9 : decide (ct < nc) = false := decide_eq_false (by omega)
      have d10 : decide (ne < ep) = false := decide_eq_false (by omega)
      replace rN := Lib.hid rN
      replace hNo := Lib.hid hNo
      clear hgo1
      refine rN.out.mono ?_; rintro e w8 ⟨rfl, k8⟩
      clear c0 c1 c2 c3 c4 c5 c6 rN
      have b8 := Lx.kept bz k8 (by simp)
      have x8 := Blk.kept xz k8 (by simp)
      have h8 := Own3.keep h3z k8
      have el8 := Els.kept elz k8 (by simp)
      obtain ⟨c0, c1, c2, c3, c4, c5, c6⟩ := Lx.at b8 (Only.refl [] _) (by simp)
      obtain ⟨p0, p1, p2, p3, p4, p5, p6⟩ := Lx.at wz' k8 (by simp)
      have y0 := x8.cell 0
      simp only [List.getElem?_toArray, List.getElem?_cons_zero] at y0
      clear bz xz h3z elz wz'
      go_wp2_with fail
      clear c0 c1 c2 c3 c4 c5 c6 p0 p1 p2 p3 p4 p5 p6 y0
      go_loopw [13] (fun i wr => ∃ k : Nat, k ≤ nl.length ∧ i = .int .i64 k ∧ Only [] w8 wr) (fun i _ => nl.length - (intOf i).toNat)
      case atStart => exact ⟨0, Nat.zero_le _, rfl, Only.refl _ _⟩
      case round =>
        obtain ⟨k, hk, rfl, hkk⟩ := hrel
        obtain ⟨c0, c1, c2, c3, c4, c5, c6⟩ := Lx.at b8 hkk (by simp)
        by_cases hkl : k < nl.length
        · obtain ⟨g2, o2, hA2, _, hat2⟩ := el8.get hkl
          have y1 := (hols_at (hat2.kept hkk (by simp)) hkl).2
          have ho1 := hNo.out nl[k] (List.getElem_mem hkl)
          generalize nl[k] = y at *
          obtain ⟨ya, yb⟩ := y
          simp only at y1 ho1
          clear hat2
          by_cases hy2 : yb = 2
          · have d11 : (yb == 2) = true := by simpa using hy2
            have d12 : ((nl.length : Int) != 1) = false := by have := ho1 hy2; simp; omega
            have d13 : (nl.length : Int) = 1 := by have := ho1 hy2; omega
            replace d13 := Lib.hid d13
            replace hy2 := Lib.hid hy2
            subst hA2
            clear ho1
            go_wp2_with fail
            go_roundw
            case rel => exact ⟨k + 1, by omega, by go_num, hkk⟩
            case measure => simp [intOf]; omega
          · have d11 : (yb == 2) = false := by simpa using hy2
            replace hy2 := Lib.hid hy2
            subst hA2
            clear ho1
            go_wp2_with fail
            go_roundw
            case rel => exact ⟨k + 1, by omega, by go_num, hkk⟩
            case measure => simp [intOf]; omega
        · have h9 := Own3.keep h8 hkk
          have b9 := Lx.kept b8 hkk (by simp)
          have el9 := Els.kept el8 hkk (by simp)
          have x9 := Blk.kept x8 hkk (by simp)
          clear h8 b8 el8 x8
          go_wp2_with fail
          go_roundw
          case rel => exact ⟨n + 1, _, _, _, C, M, E, by omega, by omega, by go_num, by omega, by omega, by omega, h9, b9, el9, hAg, hkN⟩
          case measure => simp [intOf]; omega
    · have s0 : (kd.tmod 5 == 0) = false := by simp; omega
      have t0 : ¬ kd.tmod 5 = 0 := by omega
      have s1 : (kd.tmod 5 == 1) = false := by simp; omega
      have t1 : ¬ kd.tmod 5 = 1 := by omega
      have s2 : (kd.tmod 5 == 2) = true := by simp; omega
      have t2 : kd.tmod 5 = 2 := by omega
      have hcall := revoke_any wB ⟨f, ep, u, ct, fe, go, hs⟩ A c elB (by simp only; omega) hra
      rw [revoke_ok hri.out] at hcall
      have hkN := Lib.hid (hkp.out.less (N := turnL ⟨f, ep, u, ct, fe, go, hs⟩) (fun G h => h.turn))
      have hgo := Lib.hid (turn_goes ⟨f, ep, u, ct, fe, go, hs⟩)
      simp only at hcall
      generalize turnL ⟨f, ep, u, ct, fe, go, hs⟩ = N at *

      have hrN := Lib.hid hkN.out.right.1
      simp only [lkV] at hcall
      replace hcall := Lib.hid hcall

      go_wp2_with fail
      rw [hwB.out]
      refine (hcall.out).mono ?_; rintro e w4 ⟨v4, rfl, hm4⟩
      simp only at hm4

      obtain ⟨A2, d2, rfl, el4, _, hnew, _⟩ := hm4.shape
      have k4 := hm4.only
      have h34 := h3B.keep k4
      have bn2 := bn.kept k4 (by simp)
      have bl2 := Lib.hid (bB.kept k4 (by simp))
      have xw4 := Lib.hid (xB.kept k4 (by simp))
      have ww4 := Lib.hid (bw.kept k4 (by simp))
      have hA2new : ∀ a, A2 = some a → wB.heap.size ≤ a.block := fun a ha => (hnew a ha).resolve_left (by simp)
      have hA2lt := Lib.hid (show ∀ a, A2 = some a → a.block < w4.heap.size from fun a ha => (hm4.own.lt a.block (by rw [ha]; rfl)).2)
      have h34' := Lib.hid (Own3.other h3B h34 hA2new)
      have el4' := Lib.hid el4
      have hsz4 := Lib.hid (show wo.heap.size + 3 ≤ w4.heap.size by have := k4.size; have := sB'.out; omega)
      replace hA2new := Lib.hid hA2new
      clear hm4 hnew h34 el4 c0 c1 c2 c3 c4 c5 c6 bB xB bw bn

      obtain ⟨nf, ne, nu, nc, nfe, ngo, nl⟩ := N
      simp only at h34' el4' hA2lt bn2 bl2 hgo

      go_wp2_with (first
        | (refine wpList_store_lk ⟨nf, ne, nu, nc, nfe, ngo, nl⟩ ⟨f, ep, u, ct, fe, go, hs⟩ (.slice A2 nl.length d2) _ rfl rfl _ _ rfl (wo.heap.size + 1 + 1) rfl rfl bn2 ?_; intro wy by_ ky; obtain ⟨m0, m1, m2, m3, m4, m5, m6⟩ := Lx.at by_ (Only.refl [] _) (by simp); have bl3 := Lx.kept bl2.out ky (by simp only [List.mem_singleton]; omega); have ky2 := Lib.hid ky; clear ky)
        | (refine wpList_store_lk ⟨nf, ne, nu, nc, nfe, ngo, nl⟩ ⟨f, ep, u, ct, fe, go, hs⟩ (.slice A2 nl.length d2) _ rfl rfl _ _ rfl gl rfl rfl bl3 ?_; intro wz bz kz; have kz2 := Lib.hid kz; clear kz m0 m1 m2 m3 m4 m5 m6 bl3; obtain ⟨c0, c1, c2, c3, c4, c5, c6⟩ := Lx.at bz (Only.refl [] _) (by simp)))
      have hgl0 : w.heap.size ≤ wo.heap.size := h3.only.size
      have xz : Blk wz wo.heap.size 41 #[.int .i64 kd, .int .u32 xc, .int .u32 xm] := (xw4.out.kept ky2.out (by simp only [List.mem_singleton]; omega)).kept kz2.out (by simp only [List.mem_singleton]; omega)
      have wz' := Lx.kept (Lx.kept ww4.out ky2.out (by simp only [List.mem_singleton]; omega)) kz2.out (by simp only [List.mem_singleton]; omega)
      have h3y : Own3 w wy gl A2 _ _ _ C M E := Own3.fresh h34'.out ky2.out (by have := Own3.lt h3; omega) (fun g h => by have := (Own3.lt h3).1 g h; omega) (fun g h => by have := (Own3.lt h3).2.1 g h; omega) (fun g h => by have := (Own3.lt h3).2.2 g h; omega)
      have h3z := Own3.box h3y kz2.out hgl
      have elz : Els holE 2 wz A2 nl := Els.kept (Els.kept el4'.out ky2.out (fun a ha => by have := hA2new.out a ha; have := sB'.out; simp only [List.mem_singleton]; omega)) kz2.out (fun a ha => by have := hA2new.out a ha; have := sB'.out; simp only [List.mem_singleton]; omega)
      clear hAg
      have hAg : Hid (∀ a, A2 = some a → a.block ≠ gl) := fun a ha => by have := hA2new.out a ha; have := sB'.out; omega
      replace hA2lt : Hid (∀ a, A2 = some a → a.block < wz.heap.size) := fun a ha => by have := hA2lt.out a ha; have := ky2.out.size; have := kz2.out.size; omega
      clear h3y ky2 kz2 h34' bn2 bl2 xw4 ww4 by_ el4'
      -- the stores are done: lock N lies in the box
      have rN := right_any wz ⟨nf, ne, nu, nc, nfe, ngo, nl⟩ A2 d2 elz (by have := hrN.out.len; omega)
      rw [decide_eq_true hrN.out] at rN
      have hNo := fun (x : Hol) (hx : x ∈ nl) (h : x.mode = 2) => one_writer hrN.out hx h
      have hN4 := hrN.out.len
      have hgo1 := hgo.out.epoch
      have hgo2 := hgo.out.cut
      simp only [lkV] at rN
      simp only at hNo hN4 bz elz hgo1 hgo2
      have d9 : decide (ct < nc) = false := decide_eq_false (by omega)
      have d10 : decide (ne < ep) = false := decide_eq_false (by omega)
      replace rN := Lib.hid rN
      replace hNo := Lib.hid hNo
      clear hgo1
      refine rN.out.mono ?_; rintro e w8 ⟨rfl, k8⟩
      clear c0 c1 c2 c3 c4 c5 c6 rN
      have b8 := Lx.kept bz k8 (by simp)
      have x8 := Blk.kept xz k8 (by simp)
      have h8 := Own3.keep h3z k8
      have el8 := Els.kept elz k8 (by simp)
      obtain ⟨c0, c1, c2, c3, c4, c5, c6⟩ := Lx.at b8 (Only.refl [] _) (by simp)
      obtain ⟨p0, p1, p2, p3, p4, p5, p6⟩ := Lx.at wz' k8 (by simp)
      have y0 := x8.cell 0
      simp only [List.getElem?_toArray, List.getElem?_cons_zero] at y0
      clear bz xz h3z elz wz'
      go_wp2_with fail
      clear c0 c1 c2 c3 c4 c5 c6 p0 p1 p2 p3 p4 p5 p6 y0
      go_loopw [13] (fun i wr => ∃ k : Nat, k ≤ nl.length ∧ i = .int .i64 k ∧ Only [] w8 wr) (fun i _ => nl.length - (intOf i).toNat)
      case atStart => exact ⟨0, Nat.zero_le _, rfl, Only.refl _ _⟩
      case round =>
        obtain ⟨k, hk, rfl, hkk⟩ := hrel
        obtain ⟨c0, c1, c2, c3, c4, c5, c6⟩ := Lx.at b8 hkk (by simp)
        by_cases hkl : k < nl.length
        · obtain ⟨g2, o2, hA2, _, hat2⟩ := el8.get hkl
          have y1 := (hols_at (hat2.kept hkk (by simp)) hkl).2
          have ho1 := hNo.out nl[k] (List.getElem_mem hkl)
          generalize nl[k] = y at *
          obtain ⟨ya, yb⟩ := y
          simp only at y1 ho1
          clear hat2
          by_cases hy2 : yb = 2
          · have d11 : (yb == 2) = true := by simpa using hy2
            have d12 : ((nl.length : Int) != 1) = false := by have := ho1 hy2; simp; omega
            have d13 : (nl.length : Int) = 1 := by have := ho1 hy2; omega
            replace d13 := Lib.hid d13
            replace hy2 := Lib.hid hy2
            subst hA2
            clear ho1
            go_wp2_with fail
            go_roundw
            case rel => exact ⟨k + 1, by omega, by go_num, hkk⟩
            case measure => simp [intOf]; omega
          · have d11 : (yb == 2) = false := by simpa using hy2
            replace hy2 := Lib.hid hy2
            subst hA2
            clear ho1
            go_wp2_with fail
            go_roundw
            case rel => exact ⟨k + 1, by omega, by go_num, hkk⟩
            case measure => simp [intOf]; omega
        · have h9 := Own3.keep h8 hkk
          have b9 := Lx.kept b8 hkk (by simp)
          have el9 := Els.kept el8 hkk (by simp)
          have x9 := Blk.kept x8 hkk (by simp)
          clear h8 b8 el8 x8
          go_wp2_with fail
          go_roundw
          case rel => exact ⟨n + 1, _, _, _, C, M, E, by omega, by omega, by go_num, by omega, by omega, by omega, h9, b9, el9, hAg, hkN⟩
          case measure => simp [intOf]; omega
    · have s0 : (kd.tmod 5 == 0) = false := by simp; omega
      have t0 : ¬ kd.tmod 5 = 0 := by omega
      have s1 : (kd.tmod 5 == 1) = false := by simp; omega
      have t1 : ¬ kd.tmod 5 = 1 := by omega
      have s2 : (kd.tmod 5 == 2) = false := by simp; omega
      have t2 : ¬ kd.tmod 5 = 2 := by omega
      have s3 : (kd.tmod 5 == 3) = true := by simp; omega
      have t3 : kd.tmod 5 = 3 := by omega
      obtain ⟨ss, hss, hs1, hs2⟩ : ∃ ss, xm % 1025 = ss ∧ 0 ≤ ss ∧ ss ≤ 1024 := ⟨_, rfl, by omega, by omega⟩
      have hcall := settle_any wB ⟨f, ep, u, ct, fe, go, hs⟩ A c ep ss elB (by simp only; omega) hra
      rw [show settleL ⟨f, ep, u, ct, fe, go, hs⟩ ep ss = _ from settle_ok hri.out hs2] at hcall
      have hkN := Lib.hid (hkp.out.less (N := setL ⟨f, ep, u, ct, fe, go, hs⟩ ss) (fun G h => h.set hs2))
      have hgo : Hid (ep ≤ (setL ⟨f, ep, u, ct, fe, go, hs⟩ ss).epoch) := Int.le_of_eq (set_epoch ⟨f, ep, u, ct, fe, go, hs⟩ ss).symm
      simp only at hcall
      generalize setL ⟨f, ep, u, ct, fe, go, hs⟩ ss = N at *

      have hrN := Lib.hid hkN.out.right.1
      simp only [lkV] at hcall
      replace hcall := Lib.hid hcall

      go_wp2_with fail
      rw [hwB.out]
      refine (hcall.out).mono ?_; rintro e w4 ⟨v4, rfl, hm4⟩
      simp only at hm4

      obtain ⟨A2, d2, rfl, el4, _, hnew, _⟩ := hm4.shape
      have k4 := hm4.only
      have h34 := h3B.keep k4
      have bn2 := bn.kept k4 (by simp)
      have bl2 := Lib.hid (bB.kept k4 (by simp))
      have xw4 := Lib.hid (xB.kept k4 (by simp))
      have ww4 := Lib.hid (bw.kept k4 (by simp))
      have hA2new : ∀ a, A2 = some a → wB.heap.size ≤ a.block := fun a ha => (hnew a ha).resolve_left (by simp)
      have hA2lt := Lib.hid (show ∀ a, A2 = some a → a.block < w4.heap.size from fun a ha => (hm4.own.lt a.block (by rw [ha]; rfl)).2)
      have h34' := Lib.hid (Own3.other h3B h34 hA2new)
      have el4' := Lib.hid el4
      have hsz4 := Lib.hid (show wo.heap.size + 3 ≤ w4.heap.size by have := k4.size; have := sB'.out; omega)
      replace hA2new := Lib.hid hA2new
      clear hm4 hnew h34 el4 c0 c1 c2 c3 c4 c5 c6 bB xB bw bn

      obtain ⟨nf, ne, nu, nc, nfe, ngo, nl⟩ := N
      simp only at h34' el4' hA2lt bn2 bl2 hgo

      go_wp2_with (first
        | (refine wpList_store_lk ⟨nf, ne, nu, nc, nfe, ngo, nl⟩ ⟨f, ep, u, ct, fe, go, hs⟩ (.slice A2 nl.length d2) _ rfl rfl _ _ rfl (wo.heap.size + 1 + 1) rfl rfl bn2 ?_; intro wy by_ ky; obtain ⟨m0, m1, m2, m3, m4, m5, m6⟩ := Lx.at by_ (Only.refl [] _) (by simp); have bl3 := Lx.kept bl2.out ky (by simp only [List.mem_singleton]; omega); have ky2 := Lib.hid ky; clear ky)
        | (refine wpList_store_lk ⟨nf, ne, nu, nc, nfe, ngo, nl⟩ ⟨f, ep, u, ct, fe, go, hs⟩ (.slice A2 nl.length d2) _ rfl rfl _ _ rfl gl rfl rfl bl3 ?_; intro wz bz kz; have kz2 := Lib.hid kz; clear kz m0 m1 m2 m3 m4 m5 m6 bl3; obtain ⟨c0, c1, c2, c3, c4, c5, c6⟩ := Lx.at bz (Only.refl [] _) (by simp)))
      have hgl0 : w.heap.size ≤ wo.heap.size := h3.only.size
      have xz : Blk wz wo.heap.size 41 #[.int .i64 kd, .int .u32 xc, .int .u32 xm] := (xw4.out.kept ky2.out (by simp only [List.mem_singleton]; omega)).kept kz2.out (by simp only [List.mem_singleton]; omega)
      have wz' := Lx.kept (Lx.kept ww4.out ky2.out (by simp only [List.mem_singleton]; omega)) kz2.out (by simp only [List.mem_singleton]; omega)
      have h3y : Own3 w wy gl A2 _ _ _ C M E := Own3.fresh h34'.out ky2.out (by have := Own3.lt h3; omega) (fun g h => by have := (Own3.lt h3).1 g h; omega) (fun g h => by have := (Own3.lt h3).2.1 g h; omega) (fun g h => by have := (Own3.lt h3).2.2 g h; omega)
      have h3z := Own3.box h3y kz2.out hgl
      have elz : Els holE 2 wz A2 nl := Els.kept (Els.kept el4'.out ky2.out (fun a ha => by have := hA2new.out a ha; have := sB'.out; simp only [List.mem_singleton]; omega)) kz2.out (fun a ha => by have := hA2new.out a ha; have := sB'.out; simp only [List.mem_singleton]; omega)
      clear hAg
      have hAg : Hid (∀ a, A2 = some a → a.block ≠ gl) := fun a ha => by have := hA2new.out a ha; have := sB'.out; omega
      replace hA2lt : Hid (∀ a, A2 = some a → a.block < wz.heap.size) := fun a ha => by have := hA2lt.out a ha; have := ky2.out.size; have := kz2.out.size; omega
      clear h3y ky2 kz2 h34' bn2 bl2 xw4 ww4 by_ el4'
      by_cases hcut : ct < nc
      · -- the stores are done: lock N lies in the box
        have rN := right_any wz ⟨nf, ne, nu, nc, nfe, ngo, nl⟩ A2 d2 elz (by have := hrN.out.len; omega)
        rw [decide_eq_true hrN.out] at rN
        have hNo := fun (x : Hol) (hx : x ∈ nl) (h : x.mode = 2) => one_writer hrN.out hx h
        have hN4 := hrN.out.len
        have hgo1 := hgo.out
        simp only [lkV] at rN
        simp only at hNo hN4 bz elz hgo1
        have d9 : decide (ct < nc) = true := decide_eq_true hcut
        have d10 : decide (ne < ep) = false := decide_eq_false (by omega)
        replace rN := Lib.hid rN
        replace hNo := Lib.hid hNo
        clear hgo1
        refine rN.out.mono ?_; rintro e w8 ⟨rfl, k8⟩
        clear c0 c1 c2 c3 c4 c5 c6 rN
        have b8 := Lx.kept bz k8 (by simp)
        have x8 := Blk.kept xz k8 (by simp)
        have h8 := Own3.keep h3z k8
        have el8 := Els.kept elz k8 (by simp)
        obtain ⟨c0, c1, c2, c3, c4, c5, c6⟩ := Lx.at b8 (Only.refl [] _) (by simp)
        obtain ⟨p0, p1, p2, p3, p4, p5, p6⟩ := Lx.at wz' k8 (by simp)
        have y0 := x8.cell 0
        simp only [List.getElem?_toArray, List.getElem?_cons_zero] at y0
        clear bz xz h3z elz wz'
        go_wp2_with fail
        clear c0 c1 c2 c3 c4 c5 c6 p0 p1 p2 p3 p4 p5 p6 y0
        go_loopw [13] (fun i wr => ∃ k : Nat, k ≤ nl.length ∧ i = .int .i64 k ∧ Only [] w8 wr) (fun i _ => nl.length - (intOf i).toNat)
        case atStart => exact ⟨0, Nat.zero_le _, rfl, Only.refl _ _⟩
        case round =>
          obtain ⟨k, hk, rfl, hkk⟩ := hrel
          obtain ⟨c0, c1, c2, c3, c4, c5, c6⟩ := Lx.at b8 hkk (by simp)
          by_cases hkl : k < nl.length
          · obtain ⟨g2, o2, hA2, _, hat2⟩ := el8.get hkl
            have y1 := (hols_at (hat2.kept hkk (by simp)) hkl).2
            have ho1 := hNo.out nl[k] (List.getElem_mem hkl)
            generalize nl[k] = y at *
            obtain ⟨ya, yb⟩ := y
            simp only at y1 ho1
            clear hat2
            by_cases hy2 : yb = 2
            · have d11 : (yb == 2) = true := by simpa using hy2
              have d12 : ((nl.length : Int) != 1) = false := by have := ho1 hy2; simp; omega
              have d13 : (nl.length : Int) = 1 := by have := ho1 hy2; omega
              replace d13 := Lib.hid d13
              replace hy2 := Lib.hid hy2
              subst hA2
              clear ho1
              go_wp2_with fail
              go_roundw
              case rel => exact ⟨k + 1, by omega, by go_num, hkk⟩
              case measure => simp [intOf]; omega
            · have d11 : (yb == 2) = false := by simpa using hy2
              replace hy2 := Lib.hid hy2
              subst hA2
              clear ho1
              go_wp2_with fail
              go_roundw
              case rel => exact ⟨k + 1, by omega, by go_num, hkk⟩
              case measure => simp [intOf]; omega
          · have h9 := Own3.keep h8 hkk
            have b9 := Lx.kept b8 hkk (by simp)
            have el9 := Els.kept el8 hkk (by simp)
            have x9 := Blk.kept x8 hkk (by simp)
            clear h8 b8 el8 x8
            go_wp2_with fail
            go_roundw
            case rel => exact ⟨n + 1, _, _, _, C, M, E, by omega, by omega, by go_num, by omega, by omega, by omega, h9, b9, el9, hAg, hkN⟩
            case measure => simp [intOf]; omega
      · -- the stores are done: lock N lies in the box
        have rN := right_any wz ⟨nf, ne, nu, nc, nfe, ngo, nl⟩ A2 d2 elz (by have := hrN.out.len; omega)
        rw [decide_eq_true hrN.out] at rN
        have hNo := fun (x : Hol) (hx : x ∈ nl) (h : x.mode = 2) => one_writer hrN.out hx h
        have hN4 := hrN.out.len
        have hgo1 := hgo.out
        simp only [lkV] at rN
        simp only at hNo hN4 bz elz hgo1
        have d9 : decide (ct < nc) = false := decide_eq_false hcut
        have d10 : decide (ne < ep) = false := decide_eq_false (by omega)
        replace rN := Lib.hid rN
        replace hNo := Lib.hid hNo
        clear hgo1
        refine rN.out.mono ?_; rintro e w8 ⟨rfl, k8⟩
        clear c0 c1 c2 c3 c4 c5 c6 rN
        have b8 := Lx.kept bz k8 (by simp)
        have x8 := Blk.kept xz k8 (by simp)
        have h8 := Own3.keep h3z k8
        have el8 := Els.kept elz k8 (by simp)
        obtain ⟨c0, c1, c2, c3, c4, c5, c6⟩ := Lx.at b8 (Only.refl [] _) (by simp)
        obtain ⟨p0, p1, p2, p3, p4, p5, p6⟩ := Lx.at wz' k8 (by simp)
        have y0 := x8.cell 0
        simp only [List.getElem?_toArray, List.getElem?_cons_zero] at y0
        clear bz xz h3z elz wz'
        go_wp2_with fail
        clear c0 c1 c2 c3 c4 c5 c6 p0 p1 p2 p3 p4 p5 p6 y0
        go_loopw [13] (fun i wr => ∃ k : Nat, k ≤ nl.length ∧ i = .int .i64 k ∧ Only [] w8 wr) (fun i _ => nl.length - (intOf i).toNat)
        case atStart => exact ⟨0, Nat.zero_le _, rfl, Only.refl _ _⟩
        case round =>
          obtain ⟨k, hk, rfl, hkk⟩ := hrel
          obtain ⟨c0, c1, c2, c3, c4, c5, c6⟩ := Lx.at b8 hkk (by simp)
          by_cases hkl : k < nl.length
          · obtain ⟨g2, o2, hA2, _, hat2⟩ := el8.get hkl
            have y1 := (hols_at (hat2.kept hkk (by simp)) hkl).2
            have ho1 := hNo.out nl[k] (List.getElem_mem hkl)
            generalize nl[k] = y at *
            obtain ⟨ya, yb⟩ := y
            simp only at y1 ho1
            clear hat2
            by_cases hy2 : yb = 2
            · have d11 : (yb == 2) = true := by simpa using hy2
              have d12 : ((nl.length : Int) != 1) = false := by have := ho1 hy2; simp; omega
              have d13 : (nl.length : Int) = 1 := by have := ho1 hy2; omega
              replace d13 := Lib.hid d13
              replace hy2 := Lib.hid hy2
              subst hA2
              clear ho1
              go_wp2_with fail
              go_roundw
              case rel => exact ⟨k + 1, by omega, by go_num, hkk⟩
              case measure => simp [intOf]; omega
            · have d11 : (yb == 2) = false := by simpa using hy2
              replace hy2 := Lib.hid hy2
              subst hA2
              clear ho1
              go_wp2_with fail
              go_roundw
              case rel => exact ⟨k + 1, by omega, by go_num, hkk⟩
              case measure => simp [intOf]; omega
          · have h9 := Own3.keep h8 hkk
            have b9 := Lx.kept b8 hkk (by simp)
            have el9 := Els.kept el8 hkk (by simp)
            have x9 := Blk.kept x8 hkk (by simp)
            clear h8 b8 el8 x8
            go_wp2_with fail
            go_roundw
            case rel => exact ⟨n + 1, _, _, _, C, M, E, by omega, by omega, by go_num, by omega, by omega, by omega, h9, b9, el9, hAg, hkN⟩
            case measure => simp [intOf]; omega
    · have s0 : (kd.tmod 5 == 0) = false := by simp; omega
      have t0 : ¬ kd.tmod 5 = 0 := by omega
      have s1 : (kd.tmod 5 == 1) = false := by simp; omega
      have t1 : ¬ kd.tmod 5 = 1 := by omega
      have s2 : (kd.tmod 5 == 2) = false := by simp; omega
      have t2 : ¬ kd.tmod 5 = 2 := by omega
      have s3 : (kd.tmod 5 == 3) = false := by simp; omega
      have t3 : ¬ kd.tmod 5 = 3 := by omega
      have s4 : (kd.tmod 5 == 4) = true := by simp; omega
      have t4 : kd.tmod 5 = 4 := by omega
      have hcall := shrink_any wB ⟨f, ep, u, ct, fe, go, hs⟩ A c xm elB (by simp only; omega) hra
      rw [shrink_ok hri.out] at hcall
      have hkN := Lib.hid (hkp.out.less (N := cutL ⟨f, ep, u, ct, fe, go, hs⟩ xm) (fun G h => h.cut xm))
      have hgo := Lib.hid (cut_goes ⟨f, ep, u, ct, fe, go, hs⟩ xm)
      simp only at hcall
      generalize cutL ⟨f, ep, u, ct, fe, go, hs⟩ xm = N at *

      have hrN := Lib.hid hkN.out.right.1
      simp only [lkV] at hcall
      replace hcall := Lib.hid hcall

      go_wp2_with fail
      rw [hwB.out]
      refine (hcall.out).mono ?_; rintro e w4 ⟨v4, rfl, hm4⟩
      simp only at hm4

      obtain ⟨A2, d2, rfl, el4, _, hnew, _⟩ := hm4.shape
      have k4 := hm4.only
      have h34 := h3B.keep k4
      have bn2 := bn.kept k4 (by simp)
      have bl2 := Lib.hid (bB.kept k4 (by simp))
      have xw4 := Lib.hid (xB.kept k4 (by simp))
      have ww4 := Lib.hid (bw.kept k4 (by simp))
      have hA2new : ∀ a, A2 = some a → wB.heap.size ≤ a.block := fun a ha => (hnew a ha).resolve_left (by simp)
      have hA2lt := Lib.hid (show ∀ a, A2 = some a → a.block < w4.heap.size from fun a ha => (hm4.own.lt a.block (by rw [ha]; rfl)).2)
      have h34' := Lib.hid (Own3.other h3B h34 hA2new)
      have el4' := Lib.hid el4
      have hsz4 := Lib.hid (show wo.heap.size + 3 ≤ w4.heap.size by have := k4.size; have := sB'.out; omega)
      replace hA2new := Lib.hid hA2new
      clear hm4 hnew h34 el4 c0 c1 c2 c3 c4 c5 c6 bB xB bw bn

      obtain ⟨nf, ne, nu, nc, nfe, ngo, nl⟩ := N
      simp only at h34' el4' hA2lt bn2 bl2 hgo

      go_wp2_with (first
        | (refine wpList_store_lk ⟨nf, ne, nu, nc, nfe, ngo, nl⟩ ⟨f, ep, u, ct, fe, go, hs⟩ (.slice A2 nl.length d2) _ rfl rfl _ _ rfl (wo.heap.size + 1 + 1) rfl rfl bn2 ?_; intro wy by_ ky; obtain ⟨m0, m1, m2, m3, m4, m5, m6⟩ := Lx.at by_ (Only.refl [] _) (by simp); have bl3 := Lx.kept bl2.out ky (by simp only [List.mem_singleton]; omega); have ky2 := Lib.hid ky; clear ky)
        | (refine wpList_store_lk ⟨nf, ne, nu, nc, nfe, ngo, nl⟩ ⟨f, ep, u, ct, fe, go, hs⟩ (.slice A2 nl.length d2) _ rfl rfl _ _ rfl gl rfl rfl bl3 ?_; intro wz bz kz; have kz2 := Lib.hid kz; clear kz m0 m1 m2 m3 m4 m5 m6 bl3; obtain ⟨c0, c1, c2, c3, c4, c5, c6⟩ := Lx.at bz (Only.refl [] _) (by simp)))
      have hgl0 : w.heap.size ≤ wo.heap.size := h3.only.size
      have xz : Blk wz wo.heap.size 41 #[.int .i64 kd, .int .u32 xc, .int .u32 xm] := (xw4.out.kept ky2.out (by simp only [List.mem_singleton]; omega)).kept kz2.out (by simp only [List.mem_singleton]; omega)
      have wz' := Lx.kept (Lx.kept ww4.out ky2.out (by simp only [List.mem_singleton]; omega)) kz2.out (by simp only [List.mem_singleton]; omega)
      have h3y : Own3 w wy gl A2 _ _ _ C M E := Own3.fresh h34'.out ky2.out (by have := Own3.lt h3; omega) (fun g h => by have := (Own3.lt h3).1 g h; omega) (fun g h => by have := (Own3.lt h3).2.1 g h; omega) (fun g h => by have := (Own3.lt h3).2.2 g h; omega)
      have h3z := Own3.box h3y kz2.out hgl
      have elz : Els holE 2 wz A2 nl := Els.kept (Els.kept el4'.out ky2.out (fun a ha => by have := hA2new.out a ha; have := sB'.out; simp only [List.mem_singleton]; omega)) kz2.out (fun a ha => by have := hA2new.out a ha; have := sB'.out; simp only [List.mem_singleton]; omega)
      clear hAg
      have hAg : Hid (∀ a, A2 = some a → a.block ≠ gl) := fun a ha => by have := hA2new.out a ha; have := sB'.out; omega
      replace hA2lt : Hid (∀ a, A2 = some a → a.block < wz.heap.size) := fun a ha => by have := hA2lt.out a ha; have := ky2.out.size; have := kz2.out.size; omega
      clear h3y ky2 kz2 h34' bn2 bl2 xw4 ww4 by_ el4'
      -- the stores are done: lock N lies in the box
      have rN := right_any wz ⟨nf, ne, nu, nc, nfe, ngo, nl⟩ A2 d2 elz (by have := hrN.out.len; omega)
      rw [decide_eq_true hrN.out] at rN
      have hNo := fun (x : Hol) (hx : x ∈ nl) (h : x.mode = 2) => one_writer hrN.out hx h
      have hN4 := hrN.out.len
      have hgo1 := hgo.out.epoch
      have hgo2 := hgo.out.cut
      simp only [lkV] at rN
      simp only at hNo hN4 bz elz hgo1 hgo2
      have d9 : decide (ct < nc) = false := decide_eq_false (by omega)
      have d10 : decide (ne < ep) = false := decide_eq_false (by omega)
      replace rN := Lib.hid rN
      replace hNo := Lib.hid hNo
      clear hgo1
      refine rN.out.mono ?_; rintro e w8 ⟨rfl, k8⟩
      clear c0 c1 c2 c3 c4 c5 c6 rN
      have b8 := Lx.kept bz k8 (by simp)
      have x8 := Blk.kept xz k8 (by simp)
      have h8 := Own3.keep h3z k8
      have el8 := Els.kept elz k8 (by simp)
      obtain ⟨c0, c1, c2, c3, c4, c5, c6⟩ := Lx.at b8 (Only.refl [] _) (by simp)
      obtain ⟨p0, p1, p2, p3, p4, p5, p6⟩ := Lx.at wz' k8 (by simp)
      have y0 := x8.cell 0
      simp only [List.getElem?_toArray, List.getElem?_cons_zero] at y0
      clear bz xz h3z elz wz'
      go_wp2_with fail
      clear c0 c1 c2 c3 c4 c5 c6 p0 p1 p2 p3 p4 p5 p6 y0
      go_loopw [13] (fun i wr => ∃ k : Nat, k ≤ nl.length ∧ i = .int .i64 k ∧ Only [] w8 wr) (fun i _ => nl.length - (intOf i).toNat)
      case atStart => exact ⟨0, Nat.zero_le _, rfl, Only.refl _ _⟩
      case round =>
        obtain ⟨k, hk, rfl, hkk⟩ := hrel
        obtain ⟨c0, c1, c2, c3, c4, c5, c6⟩ := Lx.at b8 hkk (by simp)
        by_cases hkl : k < nl.length
        · obtain ⟨g2, o2, hA2, _, hat2⟩ := el8.get hkl
          have y1 := (hols_at (hat2.kept hkk (by simp)) hkl).2
          have ho1 := hNo.out nl[k] (List.getElem_mem hkl)
          generalize nl[k] = y at *
          obtain ⟨ya, yb⟩ := y
          simp only at y1 ho1
          clear hat2
          by_cases hy2 : yb = 2
          · have d11 : (yb == 2) = true := by simpa using hy2
            have d12 : ((nl.length : Int) != 1) = false := by have := ho1 hy2; simp; omega
            have d13 : (nl.length : Int) = 1 := by have := ho1 hy2; omega
            replace d13 := Lib.hid d13
            replace hy2 := Lib.hid hy2
            subst hA2
            clear ho1
            go_wp2_with fail
            go_roundw
            case rel => exact ⟨k + 1, by omega, by go_num, hkk⟩
            case measure => simp [intOf]; omega
          · have d11 : (yb == 2) = false := by simpa using hy2
            replace hy2 := Lib.hid hy2
            subst hA2
            clear ho1
            go_wp2_with fail
            go_roundw
            case rel => exact ⟨k + 1, by omega, by go_num, hkk⟩
            case measure => simp [intOf]; omega
        · have h9 := Own3.keep h8 hkk
          have b9 := Lx.kept b8 hkk (by simp)
          have el9 := Els.kept el8 hkk (by simp)
          have x9 := Blk.kept x8 hkk (by simp)
          clear h8 b8 el8 x8
          go_wp2_with fail
          go_roundw
          case rel => exact ⟨n + 1, _, _, _, C, M, E, by omega, by omega, by go_num, by omega, by omega, by omega, h9, b9, el9, hAg, hkN⟩
          case measure => simp [intOf]; omega
    · have s0 : (kd.tmod 5 == 0) = false := by simp; omega
      have t0 : ¬ kd.tmod 5 = 0 := by omega
      have s1 : (kd.tmod 5 == 1) = false := by simp; omega
      have t1 : ¬ kd.tmod 5 = 1 := by omega
      have s2 : (kd.tmod 5 == 2) = false := by simp; omega
      have t2 : ¬ kd.tmod 5 = 2 := by omega
      have s3 : (kd.tmod 5 == 3) = false := by simp; omega
      have t3 : ¬ kd.tmod 5 = 3 := by omega
      have s4 : (kd.tmod 5 == 4) = false := by simp; omega
      have t4 : ¬ kd.tmod 5 = 4 := by omega
      have hri' := hri
      have hgo := Lib.hid (Goes.refl ⟨f, ep, u, ct, fe, go, hs⟩)
      have bB' := bB
      rw [← hwB.out] at bB'
      go_wp2_with (refine wpList_store_lk ⟨f, ep, u, ct, fe, go, hs⟩ ⟨f, ep, u, ct, fe, go, hs⟩ (.slice A hs.length c) _ rfl rfl _ _ rfl gl rfl rfl bB' ?_; intro wz bz kz; rw [hwB.out] at kz; have kz2 := Lib.hid kz; clear kz c0 c1 c2 c3 c4 c5 c6; obtain ⟨c0, c1, c2, c3, c4, c5, c6⟩ := Lx.at bz (Only.refl [] _) (by simp))
      have hgl0 : w.heap.size ≤ wo.heap.size := h3.only.size
      have xz : Blk wz wo.heap.size 41 #[.int .i64 kd, .int .u32 xc, .int .u32 xm] := xB.kept kz2.out (by simp only [List.mem_singleton]; omega)
      have wz' := Lx.kept bw kz2.out (by simp only [List.mem_singleton]; omega)
      have h3z := Own3.box h3B kz2.out hgl
      have elz : Els holE 2 wz A hs := Els.kept elB kz2.out (fun a ha => by simpa using hAg.out a ha)
      have hrN := hri
      have hkN := hkp
      clear bB bB' xB bw bn elB kz2
      -- the stores are done: lock N lies in the box
      have rN := right_any wz ⟨f, ep, u, ct, fe, go, hs⟩ A c elz (by have := hrN.out.len; omega)
      rw [decide_eq_true hrN.out] at rN
      have hNo := fun (x : Hol) (hx : x ∈ hs) (h : x.mode = 2) => one_writer hrN.out hx h
      have hN4 := hrN.out.len
      have hgo1 := hgo.out.epoch
      have hgo2 := hgo.out.cut
      simp only [lkV] at rN
      simp only at hNo hN4 bz elz hgo1 hgo2
      have d9 : decide (ct < ct) = false := decide_eq_false (by omega)
      have d10 : decide (ep < ep) = false := decide_eq_false (by omega)
      replace rN := Lib.hid rN
      replace hNo := Lib.hid hNo
      clear hgo1
      refine rN.out.mono ?_; rintro e w8 ⟨rfl, k8⟩
      clear c0 c1 c2 c3 c4 c5 c6 rN
      have b8 := Lx.kept bz k8 (by simp)
      have x8 := Blk.kept xz k8 (by simp)
      have h8 := Own3.keep h3z k8
      have el8 := Els.kept elz k8 (by simp)
      obtain ⟨c0, c1, c2, c3, c4, c5, c6⟩ := Lx.at b8 (Only.refl [] _) (by simp)
      obtain ⟨p0, p1, p2, p3, p4, p5, p6⟩ := Lx.at wz' k8 (by simp)
      have y0 := x8.cell 0
      simp only [List.getElem?_toArray, List.getElem?_cons_zero] at y0
      clear bz xz h3z elz wz'
      go_wp2_with fail
      clear c0 c1 c2 c3 c4 c5 c6 p0 p1 p2 p3 p4 p5 p6 y0
      go_loopw [13] (fun i wr => ∃ k : Nat, k ≤ hs.length ∧ i = .int .i64 k ∧ Only [] w8 wr) (fun i _ => hs.length - (intOf i).toNat)
      case atStart => exact ⟨0, Nat.zero_le _, rfl, Only.refl _ _⟩
      case round =>
        obtain ⟨k, hk, rfl, hkk⟩ := hrel
        obtain ⟨c0, c1, c2, c3, c4, c5, c6⟩ := Lx.at b8 hkk (by simp)
        by_cases hkl : k < hs.length
        · obtain ⟨g2, o2, hA2, _, hat2⟩ := el8.get hkl
          have y1 := (hols_at (hat2.kept hkk (by simp)) hkl).2
          have ho1 := hNo.out hs[k] (List.getElem_mem hkl)
          generalize hs[k] = y at *
          obtain ⟨ya, yb⟩ := y
          simp only at y1 ho1
          clear hat2
          by_cases hy2 : yb = 2
          · have d11 : (yb == 2) = true := by simpa using hy2
            have d12 : ((hs.length : Int) != 1) = false := by have := ho1 hy2; simp; omega
            have d13 : (hs.length : Int) = 1 := by have := ho1 hy2; omega
            replace d13 := Lib.hid d13
            replace hy2 := Lib.hid hy2
            subst hA2
            clear ho1
            go_wp2_with fail
            go_roundw
            case rel => exact ⟨k + 1, by omega, by go_num, hkk⟩
            case measure => simp [intOf]; omega
          · have d11 : (yb == 2) = false := by simpa using hy2
            replace hy2 := Lib.hid hy2
            subst hA2
            clear ho1
            go_wp2_with fail
            go_roundw
            case rel => exact ⟨k + 1, by omega, by go_num, hkk⟩
            case measure => simp [intOf]; omega
        · have h9 := Own3.keep h8 hkk
          have b9 := Lx.kept b8 hkk (by simp)
          have el9 := Els.kept el8 hkk (by simp)
          have x9 := Blk.kept x8 hkk (by simp)
          clear h8 b8 el8 x8
          go_wp2_with fail
          go_roundw
          case rel => exact ⟨n + 1, _, _, _, C, M, E, by omega, by omega, by go_num, by omega, by omega, by omega, h9, b9, el9, hAg, hkN⟩
          case measure => simp [intOf]; omega
end Go.Proofs.Ytnmmdnecojgccaa
