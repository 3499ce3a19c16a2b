/- What the rows mean: the boot, the next number, a seat. -/
import Derived.Test.YtalkhhjfplahkaaGreatKMe14
namespace Go.Proofs.YtalkhhjfplahkaaGreat
open Go.RowKit
set_option linter.unusedVariables false

theorem LdR.with_boot {b : Bs} {w : World} {gx : Nat} {s : Sta} {tv ov kv wv sv : Value} {lvs : List Lv} (h : LdR b w gx s tv ov kv wv sv lvs) (n : Int) : LdR b w gx { s with boot := n } tv ov kv wv sv lvs := ⟨h.mt, h.mo, h.ml, h.mw, h.ms, h.lks, h.gx0, h.gxl, h.ap, h.zn, h.zl, h.zk, h.hs⟩
set_option maxRecDepth 100000 in
set_option maxHeartbeats 4000000 in
theorem boot_any (b : Bs) (wr w : World) (gx kp kg vp vg : Nat) (s : Sta) (tv ov kv wv sv : Value) (lvs : List Lv) (rk rv : ByteArray) (rg : Bool) (kb vb : List UInt8) (hL : LdR b wr gx s tv ov kv wv sv lvs) (ho : Only [gx] wr w) (hx : LdB w gx s tv ov kv wv sv rk rv rg kp vp) (h2 : Two wr.heap.size w kp kg vp vg (kb, 0) (vb, 0)) :
    Calls Tryz.prog 42 #[.pointer (some ⟨gx, 0, none⟩)] w fun e w' => e = .returned (.tuple #[]) ∧ LdAns b gx { s with boot := (numAt vb 0 : Nat) } w' := by
  have hne : gx < wr.heap.size := hL.gxl
  have hgx : gx ∉ [kp, vp] := by
    have := h2.a
    have := h2.c
    simp
    omega
  have KP : Hid (∀ W, Only [kp, vp] w W → W.cell? ⟨gx, 11, none⟩ = some (.pointer (some ⟨vp, 0, none⟩)) ∧ Blk W gx 68 (ldA s tv ov kv wv sv rk rv rg (.pointer (some ⟨kp, 0, none⟩)) (.pointer (some ⟨vp, 0, none⟩)))) := fun W kW => ⟨(hx.kept kW hgx).cell 11, hx.kept kW hgx⟩
  obtain ⟨c11, _⟩ := KP.out _ (Only.refl _ _)
  have hn := rnum_s w vp vg (vb, 0) h2.v
  replace hL := Lib.hid hL
  replace hx := Lib.hid hx
  replace ho := Lib.hid ho
  replace hn := Lib.hid hn
  have ha := Lib.hid h2.a
  have hc := Lib.hid h2.c
  clear h2
  go_enter Tryz.func42, Tryz.ntmps42
  go_wp2_with fail
  refine hn.out.mono ?_; rintro e w1 ⟨rfl, hr, kn⟩
  have kk : Only [kp, vp] w w1 := kn.more (by simp)
  obtain ⟨_, b6⟩ := KP.out _ kk
  have hR := (hL.out.reach ho.out kk ha.out hc.out).with_boot ((nu1 (vb, 0) : Nat) : Int)
  have cq := b6.cell 0
  have fq := b6.free 0
  simp only [ldA, List.getElem?_toArray, List.getElem?_cons_zero] at cq
  have b7 := b6.set 0 (.int .u32 ((nu1 (vb, 0) : Nat) : Int))
  clear c11 hr kn b6
  go_wp2
  go_end0
  exact ⟨rfl, _, _, _, _, _, _, _, _, _, _, _, hR.keep (Only.set w1 [gx] (by simp) (.int .u32 ((nu1 (vb, 0) : Nat) : Int))) (by simp), b7⟩

theorem LdR.with_next {b : Bs} {w : World} {gx : Nat} {s : Sta} {tv ov kv wv sv : Value} {lvs : List Lv} (h : LdR b w gx s tv ov kv wv sv lvs) (n : Int) : LdR b w gx { s with next := n } tv ov kv wv sv lvs := ⟨h.mt, h.mo, h.ml, h.mw, h.ms, h.lks, h.gx0, h.gxl, h.ap, h.zn, h.zl, h.zk, h.hs⟩
set_option maxRecDepth 100000 in
set_option maxHeartbeats 4000000 in
theorem next_any (b : Bs) (wr w : World) (gx kp kg vp vg : Nat) (s : Sta) (tv ov kv wv sv : Value) (lvs : List Lv) (rk rv : ByteArray) (rg : Bool) (kb vb : List UInt8) (hL : LdR b wr gx s tv ov kv wv sv lvs) (ho : Only [gx] wr w) (hx : LdB w gx s tv ov kv wv sv rk rv rg kp vp) (h2 : Two wr.heap.size w kp kg vp vg (kb, 0) (vb, 0)) :
    Calls Tryz.prog 43 #[.pointer (some ⟨gx, 0, none⟩)] w fun e w' => e = .returned (.tuple #[]) ∧ LdAns b gx { s with next := (numAt vb 0 : Nat) } w' := by
  have hne : gx < wr.heap.size := hL.gxl
  have hgx : gx ∉ [kp, vp] := by
    have := h2.a
    have := h2.c
    simp
    omega
  have KP : Hid (∀ W, Only [kp, vp] w W → W.cell? ⟨gx, 11, none⟩ = some (.pointer (some ⟨vp, 0, none⟩)) ∧ Blk W gx 68 (ldA s tv ov kv wv sv rk rv rg (.pointer (some ⟨kp, 0, none⟩)) (.pointer (some ⟨vp, 0, none⟩)))) := fun W kW => ⟨(hx.kept kW hgx).cell 11, hx.kept kW hgx⟩
  obtain ⟨c11, _⟩ := KP.out _ (Only.refl _ _)
  have hn := rnum_s w vp vg (vb, 0) h2.v
  replace hL := Lib.hid hL
  replace hx := Lib.hid hx
  replace ho := Lib.hid ho
  replace hn := Lib.hid hn
  have ha := Lib.hid h2.a
  have hc := Lib.hid h2.c
  clear h2
  go_enter Tryz.func43, Tryz.ntmps43
  go_wp2_with fail
  refine hn.out.mono ?_; rintro e w1 ⟨rfl, hr, kn⟩
  have kk : Only [kp, vp] w w1 := kn.more (by simp)
  obtain ⟨_, b6⟩ := KP.out _ kk
  have hR := (hL.out.reach ho.out kk ha.out hc.out).with_next ((nu1 (vb, 0) : Nat) : Int)
  have cq := b6.cell 1
  have fq := b6.free 1
  simp only [ldA, List.getElem?_toArray, List.getElem?_cons_zero, List.getElem?_cons_succ] at cq
  have b7 := b6.set 1 (.int .u32 ((nu1 (vb, 0) : Nat) : Int))
  clear c11 hr kn b6
  go_wp2
  go_end0
  exact ⟨rfl, _, _, _, _, _, _, _, _, _, _, _, hR.keep (Only.set w1 [gx] (by simp) (.int .u32 ((nu1 (vb, 0) : Nat) : Int))) (by simp), b7⟩

end Go.Proofs.YtalkhhjfplahkaaGreat
