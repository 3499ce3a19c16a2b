/- The walk of Read. -/
import Derived.Test.YtalkhhjfplahkaaGreatKRa14
namespace Go.Proofs.YtalkhhjfplahkaaGreat
open Go.RowKit
set_option linter.unusedVariables false

theorem start_ld {w w1 w2 : World} {g gx mb : Nat} (hm : Mine ndE 5 42 w w1 (.slice (some ⟨g, 0, none⟩) 1 1) [rootN]) (hgx : gx = w1.heap.size) (k : Only [] w1 w2) (hl : gx < w2.heap.size) (hmb : gx < mb) (hml : mb < w2.heap.size) :
    LdR ⟨w, mb, w2.heap[mb]?⟩ w2 gx baseS (.slice (some ⟨g, 0, none⟩) 1 1) (.slice none 0 0) (.slice none 0 0) (.slice none 0 0) (.slice none 0 0) [] := by
  have hg := hm.own.lt g rfl
  have h0 := hm.only.size
  have ho := hm.only.trans k
  have hap : Dis (owns6 gx (.slice (some ⟨g, 0, none⟩) 1 1) (.slice none 0 0) (.slice none 0 0) (.slice none 0 0) (.slice none 0 0)) := by
    intro i j b hij hi hj
    have e : owns6 gx (.slice (some ⟨g, 0, none⟩) 1 1) (.slice none 0 0) (.slice none 0 0) (.slice none 0 0) (.slice none 0 0) = [some gx, some g, none, none, none, none] := rfl
    rw [e] at hi hj
    have hi2 : i < 2 := by
      match i, hi with
      | 0, _ => omega
      | 1, _ => omega
      | 2, hi => simp at hi
      | 3, hi => simp at hi
      | 4, hi => simp at hi
      | 5, hi => simp at hi
      | n + 6, hi => simp at hi
    have hj2 : j < 2 := by
      match j, hj with
      | 0, _ => omega
      | 1, _ => omega
      | 2, hj => simp at hj
      | 3, hj => simp at hj
      | 4, hj => simp at hj
      | 5, hj => simp at hj
      | n + 6, hj => simp at hj
    obtain rfl : i = 0 := by omega
    obtain rfl : j = 1 := by omega
    simp at hi hj
    omega
  have hzn : some mb ∉ owns6 gx (.slice (some ⟨g, 0, none⟩) 1 1) (.slice none 0 0) (.slice none 0 0) (.slice none 0 0) (.slice none 0 0) := by
    simp [owns6, Value.ownBlock]
    omega
  exact ⟨hm.keep k, Mine.start _ _ _ ho, Mine.start _ _ _ ho, Mine.start _ _ _ ho, Mine.start _ _ _ ho, rfl, by simp only; omega, hl, hap, hzn, hml, rfl, by simp⟩


theorem Two.made {h0 : Nat} {w1 w2 : World} {kp kg vp vg : Nat} {kb vb : List UInt8} (hk : Rd w1 kp kg kb 0) (hv : Rd w2 vp vg vb 0) (k : Only [] w1 w2) (a : h0 ≤ kp) (b : h0 ≤ kg) (hg : kg < w1.heap.size) (c : w1.heap.size ≤ vp) (d : w1.heap.size ≤ vg) : Two h0 w2 kp kg vp vg (kb, 0) (vb, 0) := by
  have hkl : kp < w1.heap.size := by obtain ⟨o, c, h⟩ := hk; exact h.blk.lt
  exact ⟨hk.kept k (by simp) (by simp), hv, a, b, by omega, by omega, by omega, by omega, by omega⟩
theorem Two.made2 {h0 : Nat} {w1 w2 : World} {kp kg vp vg : Nat} {kb vb : List UInt8} (hv : Rd w1 vp vg vb 0) (hk : Rd w2 kp kg kb 0) (k : Only [] w1 w2) (a : h0 ≤ vp) (b : h0 ≤ vg) (hg : vg < w1.heap.size) (c : w1.heap.size ≤ kp) (d : w1.heap.size ≤ kg) : Two h0 w2 kp kg vp vg (kb, 0) (vb, 0) := by
  have hvl : vp < w1.heap.size := by obtain ⟨o, c, h⟩ := hv; exact h.blk.lt
  exact ⟨hk, hv.kept k (by simp) (by simp), by omega, by omega, a, b, by omega, by omega, by omega⟩
theorem Two.lts2 {h0 : Nat} {w : World} {kp kg vp vg : Nat} {kb vb : List UInt8 × Nat} (h : Two h0 w kp kg vp vg kb vb) : h0 ≤ kp ∧ h0 ≤ kg ∧ h0 ≤ vp ∧ h0 ≤ vg := ⟨h.a, h.b, h.c, h.d⟩
theorem Two.over {h0 gx : Nat} {w w2 : World} {kp kg vp vg : Nat} {kb vb : List UInt8 × Nat} (h : Two h0 w kp kg vp vg kb vb) (hg : gx < h0) (hl : kg < w.heap.size ∧ vg < w.heap.size) (k : Only [gx] w w2) : Two h0 w2 kp kg vp vg kb vb ∧ kg < w2.heap.size ∧ vg < w2.heap.size :=
  ⟨{ h with
    k := h.k.kept k (by have := h.a; simp; omega) (by have := h.b; simp; omega)
    v := h.v.kept k (by have := h.c; simp; omega) (by have := h.d; simp; omega) }, Nat.lt_of_lt_of_le hl.1 k.size, Nat.lt_of_lt_of_le hl.2 k.size⟩
set_option maxRecDepth 100000 in
set_option maxHeartbeats 16000000 in
theorem read_rows (w : World) (A : Option Addr) (c : Nat) (l : List Ch) (hb : Els chE 3 w A l) (hc : l.length ≤ c) (hl : l.length ≤ 10000) (hk : ∀ x ∈ l, x.key.length ≤ 1000 ∧ x.val.length ≤ 1048576) :
    Calls Tryz.prog 7 #[.slice A l.length c] w fun e w' => ReadAns l w w' e := by
  have k0 : Only [] w (w.alloc (.cells #[.int .u32 0, .int .u32 0, .slice none 0 0, .slice none 0 0, .slice none 0 0, .slice none 0 0, .slice none 0 0] 29)) := (Only.refl [] w).alloc _
  have b0 := Blk.new w 29 zSA
  have KZ : Hid (∀ W, Only [] (w.alloc (.cells #[.int .u32 0, .int .u32 0, .slice none 0 0, .slice none 0 0, .slice none 0 0, .slice none 0 0, .slice none 0 0] 29)) W → Blk W w.heap.size 29 zSA) := fun W kW => b0.kept kW (by simp)
  by_cases h0 : l = []
  · subst h0
    have hf := fun W => fresh_any W
    replace hf := Lib.hid hf
    replace k0 := Lib.hid k0
    clear b0 hb hk
    go_enter Tryz.func7, Tryz.ntmps7
    go_wp2_with fail
    refine (hf.out _).mono ?_; rintro e w1 ⟨g, hg, rfl, hq, k1⟩
    have hsz : (w.alloc (.cells #[.int .u32 0, .int .u32 0, .slice none 0 0, .slice none 0 0, .slice none 0 0, .slice none 0 0, .slice none 0 0] 29)).heap.size = w.heap.size + 1 := by simp
    rw [hsz] at hg
    have b1 := KZ.out _ k1
    replace hq := Lib.hid hq
    replace k1 := Lib.hid k1
    clear hsz
    go_wp2_with (refine wpList_store_sta (staA freshS (noSp (some ⟨g, 0, none⟩) 1)) zSA rfl _ _ rfl w.heap.size rfl rfl b1 rfl rfl (by simp [Value.oneCell', staA, noSp]) ?_; intro w5 b5 k5)
    refine bodyPost_ret (results_sta1 rfl _ _ w.heap.size rfl (staA freshS (noSp (some ⟨g, 0, none⟩) 1)) b5 rfl _ rfl) rfl ?_
    exact ⟨(k0.out.trans k1.out).beyond k5 (Nat.le_refl _), .inl ⟨freshS, _, .inl ⟨rfl, rfl⟩, rfl, fresh_keep hq.out k5 (by omega)⟩⟩
  have hlI : (l.length : Int) ≤ 10000 := by omega
  have hpos : 0 < l.length := List.length_pos_iff.2 h0
  have d0 : ((l.length : Int) == 0) = false := by simp; omega
  have d1 : ¬ (l.length : Int) = 0 := by omega
  have hr := fun W => root_any W
  have hM := fun W => meanings_any W
  replace hr := Lib.hid hr
  replace hM := Lib.hid hM
  clear b0
  go_enter Tryz.func7, Tryz.ntmps7
  go_wp2_with fail
  refine (hr.out _).mono ?_; rintro e w1 ⟨v, rfl, hm, rfl⟩
  have hsz : (w.alloc (.cells #[.int .u32 0, .int .u32 0, .slice none 0 0, .slice none 0 0, .slice none 0 0, .slice none 0 0, .slice none 0 0] 29)).heap.size = w.heap.size + 1 := by simp
  rw [hsz] at hm
  rw [hsz]
  have k1 := hm.only
  replace hm := Lib.hid hm
  have bx := Blk.new w1 68 (ldA baseS (.slice (some ⟨w.heap.size + 1, 0, none⟩) 1 1) (.slice none 0 0) (.slice none 0 0) (.slice none 0 0) (.slice none 0 0) ⟨#[]⟩ ⟨#[]⟩ false (.pointer none) (.pointer none))
  clear hsz
  go_wp2_with fail
  refine (hM.out _).mono ?_; rintro e w2 ⟨mb, rfl, hmb, hle, k2⟩
  have bx2 := bx.kept k2 (by simp)
  have hgm : w1.heap.size + 1 ≤ mb := by simpa using hle
  have hml : mb < w2.heap.size := World.ownsMap.lt hmb
  have k12 : Only [] w1 w2 := ((Only.refl [] w1).alloc _).trans k2
  have hL0 := start_ld hm.out rfl k12 (by omega) (by omega) hml
  have hz1 : w.heap.size + 1 ≤ w1.heap.size := by have := k1.size; simpa using this
  have kz1 : Only [] (w.alloc (.cells #[.int .u32 0, .int .u32 0, .slice none 0 0, .slice none 0 0, .slice none 0 0, .slice none 0 0, .slice none 0 0] 29)) w2 := k1.trans k12
  clear bx k12 hle hm k2 k1
  generalize w1.heap.size = gx at *
  generalize hB : (⟨w.alloc (.cells #[.int .u32 0, .int .u32 0, .slice none 0 0, .slice none 0 0, .slice none 0 0, .slice none 0 0, .slice none 0 0] 29), mb, w2.heap[mb]?⟩ : Bs) = B at *
  have hBw : Hid (B.w = w.alloc (.cells #[.int .u32 0, .int .u32 0, .slice none 0 0, .slice none 0 0, .slice none 0 0, .slice none 0 0, .slice none 0 0] 29)) := by unfold Hid; rw [← hB]
  have hBz : Hid (B.zb = mb) := by unfold Hid; rw [← hB]
  have hBE : Hid (B.E = w2.heap[mb]?) := by unfold Hid; rw [← hB]
  replace hB := Lib.hid hB
  have hA0 : LdAns B gx ((l.take 0).foldl oneL baseS) w2 := ⟨_, _, _, _, _, _, _, _, _, _, _, hL0, bx2⟩
  replace hmb := Lib.hid hmb
  have hfit := Lib.hid (fun n hn => fold_fit (l := l) (fun x hx => (hk x hx).2) n hn)
  replace kz1 := Lib.hid kz1
  clear hL0 bx2
  replace hk := Lib.hid hk
  go_wp2_with fail
  go_loopw [22] (fun i wr => ∃ n : Nat, n ≤ l.length ∧ i = .int .i64 n ∧ Hid (∀ x ∈ l.take n, knownB x = true) ∧ LdAns B gx ((l.take n).foldl oneL baseS) wr) (fun i _ => l.length - (intOf i).toNat)
  case atStart => exact ⟨0, Nat.zero_le _, rfl, Lib.hid (by simp), hA0⟩
  case round =>
  clear hA0
  obtain ⟨n, hn, rfl, hkn, tv, ov, kv, wv, sv, lvs, rk, rv, rg, kq, vq, hL, hx⟩ := hrel
  have hmt0 : Only [] (w.alloc (.cells #[.int .u32 0, .int .u32 0, .slice none 0 0, .slice none 0 0, .slice none 0 0, .slice none 0 0, .slice none 0 0] 29)) wr := by have := hL.mt.only; rwa [hBw.out] at this
  have hmt : Only [] w wr := k0.trans hmt0
  have hmr : MeansB wr mb := hmb.out.of (by have := hL.zk; rwa [hBz.out, hBE.out] at this)
  have hf := hfit.out n hn
  by_cases hlt : n < l.length
  · obtain ⟨g, o, rfl, hg, hat⟩ := hb.get hlt
    obtain ⟨e0, e1, e2⟩ := chs_at (hat.kept hmt (by simp)) hlt
    have hxn : l[n]? = some l[n] := List.getElem?_eq_getElem hlt
    have hft := fold_take hxn
    have hkl := hk.out l[n] (List.getElem_mem hlt)
    have hkt : knownB l[n] = true → ∀ x ∈ l.take (n + 1), knownB x = true := fun h => all_take hkn.out hxn h
    have hno : ¬ knownB l[n] = true → Reads l none := fun h => .inr (.inr ⟨h0, fun r => h (r.1 _ (List.getElem_mem hlt)), rfl⟩)
    generalize (l.take n).foldl oneL baseS = s at *
    generalize l[n] = x at *
    have kbox := (Only.refl [] wr).alloc (.cells #[.string (strOf x.key), .string (strOf x.val), .bool x.gone] 48)
    have bbox := Blk.new wr 48 #[.string (strOf x.key), .string (strOf x.val), .bool x.gone]
    obtain ⟨key, val, gn⟩ := x
    simp only at e0 e1 e2 hkl kbox bbox
    have KZr : Hid (∀ W, Only [] wr W → Blk W w.heap.size 29 zSA) := fun W kW => KZ.out _ (hmt0.trans kW)
    have hmt1 : Hid (Only [] w wr) := Lib.hid hmt
    clear hmt0
    cases key with
    | nil =>
      have hnn := Lib.hid (hno (by simp [knownB]))
      have hemp : ((strOf []).toList == (⟨#[]⟩ : ByteArray).toList) = true := by rw [str_empty]; exact decide_eq_true rfl
      have hemq : (strOf []).toList = [] := ByteArray.toList_mk _
      generalize strOf [] = K at *
      have bz := KZr.out _ kbox
      replace KZr := Lib.hid KZr.out
      replace hL := Lib.hid hL
      replace hx := Lib.hid hx
      replace hf := Lib.hid hf
      replace hmt := Lib.hid hmt
      replace hmr := Lib.hid hmr
      replace hft := Lib.hid hft
      replace hkl := Lib.hid hkl
      replace hat := Lib.hid hat
      replace hb := Lib.hid hb
      replace kbox := Lib.hid kbox
      clear hno hkt hkn hfit hmb hk hr hM
      go_wp2_with (refine wpList_store_sta zSA zSA rfl _ _ rfl w.heap.size rfl rfl bz rfl rfl (by simp [Value.oneCell', zSA]) ?_; intro w5 b5 k5)
      refine bodyPost_ret (results_sta1 rfl _ _ w.heap.size rfl zSA b5 rfl _ rfl) rfl ?_
      exact ⟨(hmt1.out.trans kbox.out).beyond k5 (Nat.le_refl _), .inr ⟨hnn.out, rfl⟩⟩
    | cons a k =>
      have hup := upto_strOf (P := Tryz.prog) 9 Tryz.underlying9 (a :: k) 1 1 .i64 rfl (by simp)
      have hfr := from_strOf (P := Tryz.prog) 9 Tryz.underlying9 (a :: k) 1 1 .i64 rfl (by simp)
      simp only [List.take_succ_cons, List.take_zero, List.drop_succ_cons, List.drop_zero] at hup hfr
      have hemp : ((strOf (a :: k)).toList == (⟨#[]⟩ : ByteArray).toList) = false := by rw [str_empty]; exact decide_eq_false (fun h => by have := congrArg ByteArray.size h; rw [strOf_size] at this; change k.length + 1 = 0 at this; omega)
      have hemq : ¬ (strOf (a :: k)).toList = [] := fun e => by rw [e] at hemp; simp at hemp
      have hemr : (strOf (a :: k)).toList.isEmpty = false := by simpa using hemq
      generalize strOf (a :: k) = KK at *
      by_cases ha : a = 66 ∨ a = 73 ∨ a = 76 ∨ a = 78 ∨ a = 79 ∨ a = 83 ∨ a = 87
      · have hlook : ∃ f, (∀ args w, (callFunc f args).run Tryz.prog w = .ok (.enter f args) w) ∧ RowIs B gx s ⟨a :: k, val, gn⟩ f ∧ ∀ W, MeansB W mb → (Instr.lookup 69 (.map (some mb)) (.string (strOf [a])) true).run Tryz.prog W = .ok (.tuple #[.func (.func f) #[] #[], .bool true]) W := by
          rcases ha with rfl | rfl | rfl | rfl | rfl | rfl | rfl
          · exact ⟨_, enters_of Tryz.func42 (by kernel_rfl) rfl, row_boot hf (by omega) hkl.2 rfl, fun W h => h.look_boot⟩
          · exact ⟨_, enters_of Tryz.func43 (by kernel_rfl) rfl, row_next hf (by omega) hkl.2 rfl, fun W h => h.look_next⟩
          · exact ⟨_, enters_of Tryz.func44 (by kernel_rfl) rfl, row_lock hf (by omega) hkl.2 rfl, fun W h => h.look_lock⟩
          · exact ⟨_, enters_of Tryz.func45 (by kernel_rfl) rfl, row_inode hf (by omega) hkl.2 rfl, fun W h => h.look_inode⟩
          · exact ⟨_, enters_of Tryz.func46 (by kernel_rfl) rfl, row_open hf (by omega) hkl.2 rfl, fun W h => h.look_open⟩
          · exact ⟨_, enters_of Tryz.func47 (by kernel_rfl) rfl, row_seat hf (by omega) hkl.2 rfl, fun W h => h.look_seat⟩
          · exact ⟨_, enters_of Tryz.func48 (by kernel_rfl) rfl, row_work hf (by omega) hkl.2 rfl, fun W h => h.look_work⟩
        obtain ⟨f, hent, hrow, hlook⟩ := hlook
        replace hent := Lib.hid hent
        have hkn2 := Lib.hid (hkt (by rcases ha with rfl | rfl | rfl | rfl | rfl | rfl | rfl <;> rfl))
        have hlk1 := hlook _ (hmr.kept kbox (by simp))
        have hN1 := fun W => newReader_two W (strOf k) (by rw [strOf_size]; have := hkl.1; simp at this; omega)
        have hN2 := fun W => newReader_two W (strOf val) (by rw [strOf_size]; have := hkl.2; omega)
        rw [strOf_list] at hN1 hN2
        have KC : Hid (∀ W S, Only S (wr.alloc (.cells #[.string KK, .string (strOf val), .bool gn] 48)) W → wr.heap.size ∉ S → W.cell? ⟨wr.heap.size, 0, none⟩ = some (.string KK) ∧ W.cell? ⟨wr.heap.size, 1, none⟩ = some (.string (strOf val)) ∧ W.cell? ⟨wr.heap.size, 2, none⟩ = some (.bool gn)) := fun W S kW hS => ⟨(Blk.kept bbox kW hS).cell 0, (Blk.kept bbox kW hS).cell 1, (Blk.kept bbox kW hS).cell 2⟩
        have hgx : Hid (gx < wr.heap.size) := Lib.hid hL.gxl
        have hxb := (Blk.kept hx kbox (by simp))
        replace hN1 := Lib.hid hN1
        replace hN2 := Lib.hid hN2
        replace hrow := Lib.hid hrow
        replace hlook := Lib.hid hlook
        replace hL := Lib.hid hL
        replace hx := Lib.hid hx
        replace hf := Lib.hid hf
        replace hmt := Lib.hid hmt
        replace hmr := Lib.hid hmr
        replace hkn := Lib.hid hkn
        replace hft := Lib.hid hft
        replace hkl := Lib.hid hkl
        replace hxn := Lib.hid hxn
        replace hxb := Lib.hid hxb
        replace hat := Lib.hid hat
        replace hb := Lib.hid hb
        replace ha := Lib.hid ha
        replace kbox := Lib.hid kbox
        clear hno hkt bbox
        go_wp2_with fail
        generalize hW0 : wr.alloc (.cells #[.string KK, .string (strOf val), .bool gn] 48) = W0 at *
        have hz0 : Hid (wr.heap.size ≤ W0.heap.size) := kbox.out.size
        have hgn : Hid (wr.heap.size ∉ [gx]) := by have := hgx.out; unfold Hid; simp; omega
        have hrow2 : Hid (RowIs B gx s ⟨a :: k, val, gn⟩ f) := hrow.out
        clear hW0 hlk1 hlook hrow
        have kk : Only [] W0 W0.drew := (Only.refl [] W0).drew
        refine wp_region_held_drew (S := fun w' => w'.cell? ⟨wr.heap.size, 0, none⟩ = some (.string KK) ∧ w'.cell? ⟨wr.heap.size, 1, none⟩ = some (.string (strOf val)) ∧ w'.cell? ⟨wr.heap.size, 2, none⟩ = some (.bool gn)) (by kernel_rfl) (KC.out _ _ kk (by simp)) (fun hHeld => ?_)
        refine held_take 0 (.agg #[.string KK, .string (strOf val), .bool gn]) rfl (by kernel_rfl) (by kernel_rfl) (by kernel_rfl) (fun _ _ _ h => h) hHeld (Or.inl ⟨by rfl, fun w' hSw => by (try dsimp only at hSw); (try subst hSw); go_simp⟩) ?_
        simp only [Act.put, List.setIfInBounds_toArray, List.set_cons_zero, List.set_cons_succ]
        refine held_take 1 (.pointer (some ⟨wr.heap.size, 0, none⟩)) rfl (by kernel_rfl) (by kernel_rfl) (by kernel_rfl) (fun _ _ _ h => h) hHeld (Or.inl ⟨by rfl, fun w' hSw => by (try dsimp only at hSw); (try subst hSw); go_simp⟩) ?_
        simp only [Act.put, List.setIfInBounds_toArray, List.set_cons_zero, List.set_cons_succ]
        refine held_take 2 (.string KK) rfl (by kernel_rfl) (by kernel_rfl) (by kernel_rfl) (fun _ _ _ h => h) hHeld (Or.inl ⟨by rfl, fun w' hSw => by (try dsimp only at hSw); (try subst hSw); go_simp⟩) ?_
        simp only [Act.put, List.setIfInBounds_toArray, List.set_cons_zero, List.set_cons_succ]
        refine held_take 3 (.string (strOf k)) rfl (by kernel_rfl) (by kernel_rfl) (by kernel_rfl) (fun _ _ _ h => h) hHeld (Or.inl ⟨by rfl, fun w' hSw => by (try dsimp only at hSw); (try subst hSw); go_simp⟩) ?_
        simp only [Act.put, List.setIfInBounds_toArray, List.set_cons_zero, List.set_cons_succ]
        refine held_take 5 (.pointer (some ⟨wr.heap.size, 1, none⟩)) rfl (by kernel_rfl) (by kernel_rfl) (by kernel_rfl) (fun _ _ _ h => h) hHeld (Or.inl ⟨by rfl, fun w' hSw => by (try dsimp only at hSw); (try subst hSw); go_simp⟩) ?_
        simp only [Act.put, List.setIfInBounds_toArray, List.set_cons_zero, List.set_cons_succ]
        refine held_take 6 (.string (strOf val)) rfl (by kernel_rfl) (by kernel_rfl) (by kernel_rfl) (fun _ _ _ h => h) hHeld (Or.inl ⟨by rfl, fun w' hSw => by (try dsimp only at hSw); (try subst hSw); go_simp⟩) ?_
        simp only [Act.put, List.setIfInBounds_toArray, List.set_cons_zero, List.set_cons_succ]
        clear hup hfr hemp hemq hemr
        refine held_step 4 rfl (by kernel_rfl) (fun K hK => ?_)
        go_simp
        refine (hN1.out _).mono ?_; rintro e w1 ⟨kp, kg, rfl, hrk, hpk, hgk, k1, hgl⟩
        replace kk := kk.trans k1
        go_wp2_with fail
        refine hK.out _ _ (KC.out _ _ kk (by simp)) (fun hHeld => ?_)
        clear hK K
        refine held_step 7 rfl (by kernel_rfl) (fun K hK => ?_)
        go_simp
        refine (hN2.out _).mono ?_; rintro e w2 ⟨vp, vg, rfl, hrv, hpv, hgv, k2, hvl⟩
        replace kk := kk.trans k2
        go_wp2_with fail
        refine hK.out _ _ (KC.out _ _ kk (by simp)) (fun hHeld => ?_)
        clear hK K
        have hT : Two wr.heap.size w2 kp kg vp vg (k, 0) (val, 0) := Two.made hrk hrv k2 (Nat.le_trans hz0.out hpk) (Nat.le_trans hz0.out hgk) hgl hpv hgv
        have hg2 : kg < w2.heap.size ∧ vg < w2.heap.size := ⟨Nat.lt_of_lt_of_le hgl k2.size, hvl⟩
        clear hrk hrv hpk hgk k1 hgl hpv hgv k2 hvl hN1 hN2
        have hgc := hT.lts2
        have bx := hxb.out.kept kk (by simp)
        have q7 := bx.cell 7
        have q8 := bx.cell 8
        have q9 := bx.cell 9
        have f7 := bx.free 7
        have f8 := bx.free 8
        have f9 := bx.free 9
        simp only [ldA, List.getElem?_toArray, List.getElem?_cons_zero, List.getElem?_cons_succ] at q7 q8 q9
        refine held_take 8 (.pointer (some ⟨gx, 7, none⟩)) rfl (by kernel_rfl) (by kernel_rfl) (by kernel_rfl) (fun _ _ _ h => h) hHeld (Or.inl ⟨by rfl, fun w' hSw => by (try dsimp only at hSw); (try subst hSw); go_simp⟩) ?_
        simp only [Act.put, List.setIfInBounds_toArray, List.set_cons_zero, List.set_cons_succ]
        refine held_step 9 rfl (by kernel_rfl) (fun K hK => ?_)
        go_simp
        have kS : Only [gx] W0 ((((w2).setCell ⟨gx, 7, none⟩ (.string KK)).setCell ⟨gx, 8, none⟩ (.string (strOf val))).setCell ⟨gx, 9, none⟩ (.bool gn)) := (((kk.more (T := [gx]) (by simp)).setCell (.inl (by simp)) _).setCell (.inl (by simp)) _).setCell (.inl (by simp)) _
        have b1 := ((bx.set 7 (.string KK)).set 8 (.string (strOf val))).set 9 (.bool gn)
        refine hK.out _ _ (KC.out _ _ kS hgn.out) (fun hHeld => ?_)
        clear hK K q7 q8 q9 f7 f8 f9 bx
        have q10 := b1.cell 10
        have f10 := b1.free 10
        simp only [ldA, List.setIfInBounds_toArray, List.set_cons_zero, List.set_cons_succ, List.getElem?_toArray, List.getElem?_cons_zero, List.getElem?_cons_succ] at q10
        refine held_take 10 (.pointer (some ⟨gx, 10, none⟩)) rfl (by kernel_rfl) (by kernel_rfl) (by kernel_rfl) (fun _ _ _ h => h) hHeld (Or.inl ⟨by rfl, fun w' hSw => by (try dsimp only at hSw); (try subst hSw); go_simp⟩) ?_
        simp only [Act.put, List.setIfInBounds_toArray, List.set_cons_zero, List.set_cons_succ]
        refine held_step 11 rfl (by kernel_rfl) (fun K hK => ?_)
        go_simp
        replace kS := kS.setCell (p := ⟨gx, 10, none⟩) (.inl (by simp)) (.pointer (some ⟨kp, 0, none⟩))
        have b2 := b1.set 10 (.pointer (some ⟨kp, 0, none⟩))
        refine hK.out _ _ (KC.out _ _ kS hgn.out) (fun hHeld => ?_)
        clear hK K q10 f10 b1
        have q11 := b2.cell 11
        have f11 := b2.free 11
        simp only [ldA, List.setIfInBounds_toArray, List.set_cons_zero, List.set_cons_succ, List.getElem?_toArray, List.getElem?_cons_zero, List.getElem?_cons_succ] at q11
        refine held_take 12 (.pointer (some ⟨gx, 11, none⟩)) rfl (by kernel_rfl) (by kernel_rfl) (by kernel_rfl) (fun _ _ _ h => h) hHeld (Or.inl ⟨by rfl, fun w' hSw => by (try dsimp only at hSw); (try subst hSw); go_simp⟩) ?_
        simp only [Act.put, List.setIfInBounds_toArray, List.set_cons_zero, List.set_cons_succ]
        refine held_step 13 rfl (by kernel_rfl) (fun K hK => ?_)
        go_simp
        replace kS := kS.setCell (p := ⟨gx, 11, none⟩) (.inl (by simp)) (.pointer (some ⟨vp, 0, none⟩))
        have b3 := b2.set 11 (.pointer (some ⟨vp, 0, none⟩))
        refine hK.out _ _ (KC.out _ _ kS hgn.out) (fun hHeld => ?_)
        clear hK K q11 f11 b2
        refine wpAnyH_done (by kernel_rfl) ?_ _
        clear hHeld
        have hT2 := (hT.over (gx := gx) hgx.out hg2 ((((((Only.refl [gx] (w2)).setCell (p := ⟨gx, 7, none⟩) (.inl (by simp)) (.string KK)).setCell (p := ⟨gx, 8, none⟩) (.inl (by simp)) (.string (strOf val))).setCell (p := ⟨gx, 9, none⟩) (.inl (by simp)) (.bool gn)).setCell (p := ⟨gx, 10, none⟩) (.inl (by simp)) (.pointer (some ⟨kp, 0, none⟩))).setCell (p := ⟨gx, 11, none⟩) (.inl (by simp)) (.pointer (some ⟨vp, 0, none⟩))))
        clear hT hg2 kk
        generalize hWe : ((((((w2).setCell ⟨gx, 7, none⟩ (.string KK)).setCell ⟨gx, 8, none⟩ (.string (strOf val))).setCell ⟨gx, 9, none⟩ (.bool gn)).setCell ⟨gx, 10, none⟩ (.pointer (some ⟨kp, 0, none⟩))).setCell ⟨gx, 11, none⟩ (.pointer (some ⟨vp, 0, none⟩))) = we at *
        have hC := hrow2.out wr we kp kg vp vg tv ov kv wv sv lvs KK (strOf val) gn hL.out ((kbox.out.more (T := [gx]) (by simp)).trans kS) b3 rfl hT2.1 hT2.2.1 hT2.2.2
        clear hT2 b3 hWe kS hgc
        have he := hent.out
        go_wp2_with fail
        clear he
        refine hC.mono ?_; rintro e w9 ⟨rfl, hA⟩
        clear hC
        rw [← hft.out] at hA
        go_wp2
        go_roundw
        case rel => exact ⟨n + 1, by omega, by go_num, hkn2, hA⟩
        case measure => simp [intOf]; omega
      · have hnn := Lib.hid (hno (by intro h; apply ha; simpa [knownB, or_assoc] using h))
        obtain ⟨zv, hlk1⟩ := (hmr.kept kbox (by simp)).look_none a ha
        have bz := KZr.out _ kbox
        replace hL := Lib.hid hL
        replace hx := Lib.hid hx
        replace hf := Lib.hid hf
        replace hmt := Lib.hid hmt
        replace hmr := Lib.hid hmr
        replace hft := Lib.hid hft
        replace hkl := Lib.hid hkl
        replace hat := Lib.hid hat
        replace hb := Lib.hid hb
        replace kbox := Lib.hid kbox
        replace ha := Lib.hid ha
        clear hno hkt hkn hfit hmb hk hr hM
        go_wp2_with (refine wpList_store_sta zSA zSA rfl _ _ rfl w.heap.size rfl rfl bz rfl rfl (by simp [Value.oneCell', zSA]) ?_; intro w5 b5 k5)
        refine bodyPost_ret (results_sta1 rfl _ _ w.heap.size rfl zSA b5 rfl _ rfl) rfl ?_
        exact ⟨(hmt1.out.trans kbox.out).beyond k5 (Nat.le_refl _), .inr ⟨hnn.out, rfl⟩⟩
  · have hnl : n = l.length := by omega
    subst hnl
    rw [List.take_length] at hx hL hf hkn
    obtain ⟨q, hq, _, hv⟩ := hL.stM2 hf (by omega)
    have hS := hq [] wr (Only.refl [] wr) (by simp)
    have hB1 : B.w.heap.size = w.heap.size + 1 := by rw [hBw.out]; simp
    rw [hB1] at hq
    have hW := fun W (kW : Only [] wr W) => rows_state W _ q (hS.kept kW)
    have KZr : Hid (∀ W, Only [] wr W → Blk W w.heap.size 29 zSA) := fun W kW => KZ.out _ (hmt0.trans kW)
    have hmt1 : Hid (Only [] w wr) := Lib.hid hmt
    have hno : ¬ (RightS (l.foldl oneL baseS) ∧ rowsL (l.foldl oneL baseS) = l) → Reads l none := fun h => .inr (.inr ⟨h0, fun r => h r.2, rfl⟩)
    have hyes : RightS (l.foldl oneL baseS) ∧ rowsL (l.foldl oneL baseS) = l → Reads l (some (l.foldl oneL baseS)) := fun h => .inr (.inl ⟨h0, hkn.out, h.1, h.2, rfl⟩)
    generalize l.foldl oneL baseS = s at *
    rw [hv] at hW
    have KX : Hid (∀ W, Only [] wr W → W.cell? ⟨gx, 0, none⟩ = some (.int .u32 s.boot) ∧ W.cell? ⟨gx, 1, none⟩ = some (.int .u32 s.next) ∧ W.cell? ⟨gx, 2, none⟩ = some tv ∧ W.cell? ⟨gx, 3, none⟩ = some ov ∧ W.cell? ⟨gx, 4, none⟩ = some kv ∧ W.cell? ⟨gx, 5, none⟩ = some wv ∧ W.cell? ⟨gx, 6, none⟩ = some sv) := fun W kW => by
      have b := Blk.kept hx kW (by simp)
      exact ⟨b.cell 0, b.cell 1, b.cell 2, b.cell 3, b.cell 4, b.cell 5, b.cell 6⟩
    have hO : Hid (tv.oneCell' = true ∧ ov.oneCell' = true ∧ kv.oneCell' = true ∧ wv.oneCell' = true ∧ sv.oneCell' = true) := by
      obtain ⟨A1, c1, rfl, _⟩ := hL.mt.shape ndE_length
      obtain ⟨A2, c2, rfl, _⟩ := hL.mo.shape opE_length
      obtain ⟨A3, c3, rfl, _⟩ := hL.ml.shape lvE_length
      obtain ⟨A4, c4, rfl, _⟩ := hL.mw.shape wkE_length
      obtain ⟨A5, c5, rfl, _⟩ := hL.ms.shape seaE_length
      exact ⟨rfl, rfl, rfl, rfl, rfl⟩
    obtain ⟨c0, c1, c2, c3, c4, c5, c6⟩ := KX.out wr (Only.refl [] wr)
    have hEq := fun W (kW : Only [] w W) B d (m : List Ch) (ha : Els chE 3 W B m) (hm : m.length ≤ 1048576) => equal_ch W B A d c m l ha (hb.kept kW (by simp)) hm (by omega)
    replace hW := Lib.hid hW
    replace hEq := Lib.hid hEq
    replace hq := Lib.hid hq
    replace hno := Lib.hid hno
    replace hyes := Lib.hid hyes
    replace hv := Lib.hid hv
    replace hb := Lib.hid hb
    clear hL hx hf hS hB1 hmt hmt0 hmr hkn hfit hmb hk hr hM
    go_wp2_with fail
    refine (hW.out _ (Only.refl [] wr)).mono ?_; rintro e w6 (⟨hrt, v, rfl, hm⟩ | ⟨hnr, rfl, k6⟩)
    rotate_left
    · have hnn := Lib.hid (hno.out (fun h => hnr h.1))
      have bz := KZr.out _ k6
      replace k6 := Lib.hid k6
      clear hnr c0 c1 c2 c3 c4 c5 c6
      go_wp2_with (refine wpList_store_sta zSA zSA rfl _ _ rfl w.heap.size rfl rfl bz rfl rfl (by simp [Value.oneCell', zSA]) ?_; intro w5 b5 k5)
      refine bodyPost_ret (results_sta1 rfl _ _ w.heap.size rfl zSA b5 rfl _ rfl) rfl ?_
      exact ⟨(hmt1.out.trans k6.out).beyond k5 (Nat.le_refl _), .inr ⟨hnn.out, rfl⟩⟩
    have k6 := hm.only
    have hfew := rows_few hrt
    obtain ⟨A1, d1, rfl, hels, _, _⟩ := hm.shape chE_length
    have hC := hEq.out w6 (hmt1.out.trans k6) A1 d1 _ hels (by omega)
    obtain ⟨c0, c1, c2, c3, c4, c5, c6⟩ := KX.out w6 k6
    replace hrt := Lib.hid hrt
    clear hm hels hfew
    go_wp2_with fail
    refine hC.mono ?_; rintro e w7 ⟨⟨r, rfl, hr2⟩, k7⟩
    clear hC c0 c1 c2 c3 c4 c5 c6
    replace k7 := k6.trans k7
    have bz := KZr.out _ k7
    obtain ⟨c0, c1, c2, c3, c4, c5, c6⟩ := KX.out w7 k7
    cases r
    · have hnn := Lib.hid (hno.out (fun h => by simpa using hr2.2 h.2))
      replace k7 := Lib.hid k7
      clear hr2 k6
      go_wp2_with (refine wpList_store_sta zSA zSA rfl _ _ rfl w.heap.size rfl rfl bz rfl rfl (by simp [Value.oneCell', zSA]) ?_; intro w5 b5 k5)
      refine bodyPost_ret (results_sta1 rfl _ _ w.heap.size rfl zSA b5 rfl _ rfl) rfl ?_
      exact ⟨(hmt1.out.trans k7.out).beyond k5 (Nat.le_refl _), .inr ⟨hnn.out, rfl⟩⟩
    · have hyy := Lib.hid (hyes.out ⟨hrt.out, hr2.1 rfl⟩)
      replace k7 := Lib.hid k7
      clear hr2 k6
      go_wp2_with (refine wpList_store_sta #[.int .u32 s.boot, .int .u32 s.next, tv, ov, kv, wv, sv] zSA rfl _ _ rfl w.heap.size rfl rfl bz rfl rfl (by obtain ⟨o1, o2, o3, o4, o5⟩ := hO.out; simp [o1, o2, o3, o4, o5]; exact ⟨rfl, rfl⟩) ?_; intro w5 b5 k5)
      refine bodyPost_ret (results_sta1 rfl _ _ w.heap.size rfl #[.int .u32 s.boot, .int .u32 s.next, tv, ov, kv, wv, sv] b5 rfl _ rfl) rfl ?_
      exact ⟨(hmt1.out.trans k7.out).beyond k5 (Nat.le_refl _), .inl ⟨s, q, hyy.out, by rw [hv.out]; rfl, hq.out [w.heap.size] w5 ((k7.out.more (T := [w.heap.size]) (by simp)).trans k5) (by simp)⟩⟩

end Go.Proofs.YtalkhhjfplahkaaGreat
