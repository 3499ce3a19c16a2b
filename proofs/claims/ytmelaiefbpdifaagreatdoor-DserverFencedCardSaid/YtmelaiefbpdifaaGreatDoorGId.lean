/- Joined: Rr1, Rr2, Rr3, Rr9, Open9. -/
import Derived.Test.YtmelaiefbpdifaaGreatDoorGIc
import Derived.Test.YtmelaiefbpdifaaGreatDoorChecked
import Derived.Tactics
import Derived.Tactics2
import Derived.StillTactics
import Derived.StillTailTactics
import Derived.RegionTactic
import Derived.WalkKit
import Derived.WalkLawsBesides
import Derived.WalkSpells
import Derived.Outline
import Derived.Laws.Pointers
import Derived.Laws.Small
import Derived.Laws.Build
import Derived.Laws.Cover3
import Derived.Laws.StructEq
import Derived.KernelRfl
import Derived.Lib.Hide
import Derived.BigQuiet
import Derived.BigRegion
import Derived.OwnWalk
import Derived.LoopTactic
import Derived.Laws.ResultCell
import Derived.Deep.Slices
import Derived.Deep.Fields
import Derived.ProofKit
import Derived.OpenShut
/- The walk of the document's Right: codes 1 to 5. -/
namespace Go.Proofs.YtmelaiefbpdifaaGreatDoor
set_option maxRecDepth 100000
open Go.RowKit
end Go.Proofs.YtmelaiefbpdifaaGreatDoor
/- The walk of the document's Right: codes 11 to 24. -/
namespace Go.Proofs.YtmelaiefbpdifaaGreatDoor
set_option maxRecDepth 100000
open Go.RowKit
end Go.Proofs.YtmelaiefbpdifaaGreatDoor
/- The walk of the document's Right: code 30. -/
namespace Go.Proofs.YtmelaiefbpdifaaGreatDoor
set_option maxRecDepth 100000
open Go.RowKit
end Go.Proofs.YtmelaiefbpdifaaGreatDoor
/- The walk of the document's Right. -/
namespace Go.Proofs.YtmelaiefbpdifaaGreatDoor
set_option maxRecDepth 100000
open Go.RowKit
end Go.Proofs.YtmelaiefbpdifaaGreatDoor
/- A packet that comes in, opened. -/
namespace Go.Proofs.YtmelaiefbpdifaaGreatDoor
set_option maxRecDepth 100000
open Go.RowKit Go.WideShapes Go.ChangeShapes Go.Deep
theorem i_range {n : Int} (h : (Lit.int .i64 n).wf = true) : I n := by
 have e1 : IntKind.i64.min = -9223372036854775808 := by decide +kernel
 have e2 : IntKind.i64.max = 9223372036854775807 := by decide +kernel
 simp only [Lit.wf, Bool.and_eq_true, decide_eq_true_eq] at h
 unfold I
 omega
theorem u_range {n : Int} (h : (Lit.int .u32 n).wf = true) : U n := by
 have e1 : IntKind.u32.min = 0 := by decide +kernel
 have e2 : IntKind.u32.max = 4294967295 := by decide +kernel
 simp only [Lit.wf, Bool.and_eq_true, decide_eq_true_eq] at h
 unfold U
 omega
theorem open_field {H : Type} {enc : TypeId × Value → H} {P : Program} {w : World} {base : Nat} {spare : Nat → Bool} {held : Bool} {t : TypeId} {fs : Array Field} {fuel : Nat} {cs : List Value} {x : DataW H × List MemPlace}
  (he : P.underlying t = some (.struct fs)) (h : DataW.trod enc P w base spare held fuel t cs = some x) (j : Nat) (f : Field) (hj : fs[j]? = some f) (o k : Nat) (ty : TypeId) (hty : f.type = ty) (ho : f.offset = o) (hk : P.cellsOf ty = k) :
  ∃ (n : Nat) (y : DataW H × List MemPlace), DataW.trod enc P w base spare held n ty ((cs.drop o).take k) = some y := by
 subst hty
 obtain ⟨ys, n', _, _, hlen', hyl, hf⟩ := DataW.trod_struct he h
 have h1 := hf j f hj
 rw [ho, hk] at h1
 have hjl : j < ys.length := by
  rw [hyl]
  exact (Array.getElem?_eq_some_iff.1 hj).1
 rw [List.getElem?_eq_getElem hjl] at h1
 exact ⟨n', ys[j], h1⟩
section
variable {H : Type} {enc : TypeId × Value → H} {w : World}
set_option maxHeartbeats 1000000 in
theorem open_packet {v : Value} {d : DataW H} {ps : List MemPlace} {r : Reach} {b0 : Nat} (hv : Value.okWide Tryz.prog w r b0 53 v) (h : DataW.Trod enc Tryz.prog w 0 (fun _ => true) true 53 v d ps) : ∃ p : Pk, v = pkV p ∧ p.Ok := by
 obtain ⟨cs, rfl, hsz⟩ := okWide_struct Tryz.underlying53 hv
 rw [show Tryz.prog.cellsOf 53 = 20 by kernel_rfl] at hsz
 obtain ⟨fuel, hf⟩ := h
 obtain ⟨c0, c1, c2, c3, c4, c5, c6, c7, c8, c9, c10, c11, c12, c13, c14, c15, c16, c17, c18, c19, rfl⟩ : ∃ c0 c1 c2 c3 c4 c5 c6 c7 c8 c9 c10 c11 c12 c13 c14 c15 c16 c17 c18 c19, cs = #[c0, c1, c2, c3, c4, c5, c6, c7, c8, c9, c10, c11, c12, c13, c14, c15, c16, c17, c18, c19] := by
  rcases cs with ⟨l⟩
  match l, hsz with
  | [c0, c1, c2, c3, c4, c5, c6, c7, c8, c9, c10, c11, c12, c13, c14, c15, c16, c17, c18, c19], _ => exact ⟨c0, c1, c2, c3, c4, c5, c6, c7, c8, c9, c10, c11, c12, c13, c14, c15, c16, c17, c18, c19, rfl⟩
 obtain ⟨n0, y0, t0⟩ := open_field Tryz.underlying53 hf 0 _ rfl 0 1 3 rfl rfl (by kernel_rfl)
 obtain ⟨n1, y1, t1⟩ := open_field Tryz.underlying53 hf 1 _ rfl 1 1 3 rfl rfl (by kernel_rfl)
 obtain ⟨n2, y2, t2⟩ := open_field Tryz.underlying53 hf 2 _ rfl 2 1 3 rfl rfl (by kernel_rfl)
 obtain ⟨n3, y3, t3⟩ := open_field Tryz.underlying53 hf 3 _ rfl 3 1 49 rfl rfl (by kernel_rfl)
 obtain ⟨n4, y4, t4⟩ := open_field Tryz.underlying53 hf 4 _ rfl 4 1 49 rfl rfl (by kernel_rfl)
 obtain ⟨n5, y5, t5⟩ := open_field Tryz.underlying53 hf 5 _ rfl 5 1 49 rfl rfl (by kernel_rfl)
 obtain ⟨n6, y6, t6⟩ := open_field Tryz.underlying53 hf 6 _ rfl 6 1 49 rfl rfl (by kernel_rfl)
 obtain ⟨nO, yO, tO⟩ := open_field Tryz.underlying53 hf 7 _ rfl 7 13 51 rfl rfl (by kernel_rfl)
 obtain ⟨n7, y7, t7⟩ := open_field Tryz.underlying51 tO 0 _ rfl 0 1 3 rfl rfl (by kernel_rfl)
 obtain ⟨n8, y8, t8⟩ := open_field Tryz.underlying51 tO 1 _ rfl 1 1 29 rfl rfl (by kernel_rfl)
 obtain ⟨n9, y9, t9⟩ := open_field Tryz.underlying51 tO 2 _ rfl 2 1 49 rfl rfl (by kernel_rfl)
 obtain ⟨n10, y10, t10⟩ := open_field Tryz.underlying51 tO 3 _ rfl 3 1 49 rfl rfl (by kernel_rfl)
 obtain ⟨n11, y11, t11⟩ := open_field Tryz.underlying51 tO 4 _ rfl 4 1 49 rfl rfl (by kernel_rfl)
 obtain ⟨n12, y12, t12⟩ := open_field Tryz.underlying51 tO 5 _ rfl 5 1 49 rfl rfl (by kernel_rfl)
 obtain ⟨n13, y13, t13⟩ := open_field Tryz.underlying51 tO 6 _ rfl 6 1 49 rfl rfl (by kernel_rfl)
 obtain ⟨n14, y14, t14⟩ := open_field Tryz.underlying51 tO 7 _ rfl 7 1 49 rfl rfl (by kernel_rfl)
 obtain ⟨n15, y15, t15⟩ := open_field Tryz.underlying51 tO 8 _ rfl 8 1 49 rfl rfl (by kernel_rfl)
 obtain ⟨n16, y16, t16⟩ := open_field Tryz.underlying51 tO 9 _ rfl 9 1 49 rfl rfl (by kernel_rfl)
 obtain ⟨n17, y17, t17⟩ := open_field Tryz.underlying51 tO 10 _ rfl 10 1 9 rfl rfl (by kernel_rfl)
 obtain ⟨n18, y18, t18⟩ := open_field Tryz.underlying51 tO 11 _ rfl 11 1 9 rfl rfl (by kernel_rfl)
 obtain ⟨n19, y19, t19⟩ := open_field Tryz.underlying51 tO 12 _ rfl 12 1 9 rfl rfl (by kernel_rfl)
 replace t0 : DataW.trod enc Tryz.prog w 0 (fun _ => true) true n0 3 [c0] = some y0 := t0
 replace t1 : DataW.trod enc Tryz.prog w 0 (fun _ => true) true n1 3 [c1] = some y1 := t1
 replace t2 : DataW.trod enc Tryz.prog w 0 (fun _ => true) true n2 3 [c2] = some y2 := t2
 replace t3 : DataW.trod enc Tryz.prog w 0 (fun _ => true) true n3 49 [c3] = some y3 := t3
 replace t4 : DataW.trod enc Tryz.prog w 0 (fun _ => true) true n4 49 [c4] = some y4 := t4
 replace t5 : DataW.trod enc Tryz.prog w 0 (fun _ => true) true n5 49 [c5] = some y5 := t5
 replace t6 : DataW.trod enc Tryz.prog w 0 (fun _ => true) true n6 49 [c6] = some y6 := t6
 replace t7 : DataW.trod enc Tryz.prog w 0 (fun _ => true) true n7 3 [c7] = some y7 := t7
 replace t8 : DataW.trod enc Tryz.prog w 0 (fun _ => true) true n8 29 [c8] = some y8 := t8
 replace t9 : DataW.trod enc Tryz.prog w 0 (fun _ => true) true n9 49 [c9] = some y9 := t9
 replace t10 : DataW.trod enc Tryz.prog w 0 (fun _ => true) true n10 49 [c10] = some y10 := t10
 replace t11 : DataW.trod enc Tryz.prog w 0 (fun _ => true) true n11 49 [c11] = some y11 := t11
 replace t12 : DataW.trod enc Tryz.prog w 0 (fun _ => true) true n12 49 [c12] = some y12 := t12
 replace t13 : DataW.trod enc Tryz.prog w 0 (fun _ => true) true n13 49 [c13] = some y13 := t13
 replace t14 : DataW.trod enc Tryz.prog w 0 (fun _ => true) true n14 49 [c14] = some y14 := t14
 replace t15 : DataW.trod enc Tryz.prog w 0 (fun _ => true) true n15 49 [c15] = some y15 := t15
 replace t16 : DataW.trod enc Tryz.prog w 0 (fun _ => true) true n16 49 [c16] = some y16 := t16
 replace t17 : DataW.trod enc Tryz.prog w 0 (fun _ => true) true n17 9 [c17] = some y17 := t17
 replace t18 : DataW.trod enc Tryz.prog w 0 (fun _ => true) true n18 9 [c18] = some y18 := t18
 replace t19 : DataW.trod enc Tryz.prog w 0 (fun _ => true) true n19 9 [c19] = some y19 := t19
 obtain ⟨z0, e0, _, w0⟩ := DataW.trod_int Tryz.underlying3 t0
 obtain ⟨z1, e1, _, w1⟩ := DataW.trod_int Tryz.underlying3 t1
 obtain ⟨z2, e2, _, w2⟩ := DataW.trod_int Tryz.underlying3 t2
 obtain ⟨z3, e3, _, w3⟩ := DataW.trod_int Tryz.underlying49 t3
 obtain ⟨z4, e4, _, w4⟩ := DataW.trod_int Tryz.underlying49 t4
 obtain ⟨z5, e5, _, w5⟩ := DataW.trod_int Tryz.underlying49 t5
 obtain ⟨z6, e6, _, w6⟩ := DataW.trod_int Tryz.underlying49 t6
 obtain ⟨z7, e7, _, w7⟩ := DataW.trod_int Tryz.underlying3 t7
 obtain ⟨z8, e8, _, w8⟩ := DataW.trod_int Tryz.underlying29 t8
 obtain ⟨z9, e9, _, w9⟩ := DataW.trod_int Tryz.underlying49 t9
 obtain ⟨z10, e10, _, w10⟩ := DataW.trod_int Tryz.underlying49 t10
 obtain ⟨z11, e11, _, w11⟩ := DataW.trod_int Tryz.underlying49 t11
 obtain ⟨z12, e12, _, w12⟩ := DataW.trod_int Tryz.underlying49 t12
 obtain ⟨z13, e13, _, w13⟩ := DataW.trod_int Tryz.underlying49 t13
 obtain ⟨z14, e14, _, w14⟩ := DataW.trod_int Tryz.underlying49 t14
 obtain ⟨z15, e15, _, w15⟩ := DataW.trod_int Tryz.underlying49 t15
 obtain ⟨z16, e16, _, w16⟩ := DataW.trod_int Tryz.underlying49 t16
 obtain ⟨z17, e17, _, w17⟩ := DataW.trod_string Tryz.underlying9 t17
 obtain ⟨z18, e18, _, w18⟩ := DataW.trod_string Tryz.underlying9 t18
 obtain ⟨z19, e19, _, w19⟩ := DataW.trod_string Tryz.underlying9 t19
 injection e0 with e0 _; injection e1 with e1 _; injection e2 with e2 _; injection e3 with e3 _; injection e4 with e4 _; injection e5 with e5 _; injection e6 with e6 _; injection e7 with e7 _; injection e8 with e8 _; injection e9 with e9 _; injection e10 with e10 _; injection e11 with e11 _; injection e12 with e12 _; injection e13 with e13 _; injection e14 with e14 _; injection e15 with e15 _; injection e16 with e16 _; injection e17 with e17 _; injection e18 with e18 _; injection e19 with e19 _
 subst e0; subst e1; subst e2; subst e3; subst e4; subst e5; subst e6; subst e7; subst e8; subst e9; subst e10; subst e11; subst e12; subst e13; subst e14; subst e15; subst e16; subst e17; subst e18; subst e19
 exact ⟨⟨z0, z1, z2, z3, z4, z5, z6, z7, z8, z9, z10, z11, z12, z13, z14, z15, z16, z17, z18, z19⟩, rfl, i_range w0, i_range w1, i_range w2, u_range w3, u_range w4, u_range w5, u_range w6, i_range w7, i_range w8, u_range w9, u_range w10, u_range w11, u_range w12, u_range w13, u_range w14, u_range w15, u_range w16⟩
end
end Go.Proofs.YtmelaiefbpdifaaGreatDoor
