/- Objects of a server: what is stable, what is loose; how many pages want new rows. -/
import Derived.Test.YtmelaiefbpdifaaGreatDoorFMm13
import Derived.Test.YtmelaiefbpdifaaGreatDoorFLd13
namespace Go.Proofs.YtmelaiefbpdifaaGreatDoor.Srv
open Go.RowKit Go.Maps
open Pgs (Pg pgE pgE_length pgE_one info_pg keyB headB find ldL ldOk errL mine_shape load_at)
abbrev NewPg (w w' : World) (v : Value) (o : List Pg) : Prop := NewEls pgE 2 w w' v o
theorem new_of_mine {w w' : World} {v : Value} {o : List Pg} (h : Mine pgE 2 138 w w' v o) : NewPg w w' v o := by
 have hk := h.only
 obtain ⟨A, c, e, h1, h2, h3⟩ := mine_shape h
 exact ⟨A, c, e, h2, h1, hk, h3⟩
set_option maxRecDepth 100000 in
theorem clone_pg (w : World) (A : Option Addr) (c : Nat) (l : List Pg) (hb : Els pgE 2 w A l) (hl : l.length ≤ 1000) :
  Calls Tryz.prog 58 #[.slice A l.length c] w fun e w' => ∃ v, e = .returned v ∧ NewPg w w' v l := by
 have hnil : ∀ W, (binOp .eql 57 (.slice A l.length c) (.slice none 0 0)).run Tryz.prog W = .ok (.bool A.isNone) W := fun W => Lib.run_eql_slice_nil W 57 138 _ _ _ _ _ Tryz.underlying57
 cases A with
 | none =>
  have h0 : l = [] := by
   rcases hb with h | ⟨g, o, h, _⟩
   ·exact h
   ·cases h
  subst h0
  simp only [Option.isNone_none, List.length_nil] at hnil ⊢
  go_enter Tryz.func58, Tryz.ntmps58
  go_wp2
  go_ret
  exact ⟨_, rfl, new_of_mine (Mine.start pgE 2 _ (Only.refl [] w))⟩
 | some ad =>
  simp only [Option.isNone_some] at hnil
  have hk0 : Only [] w (w.alloc (.cells #[] 138)) := (Only.refl [] w).alloc _
  have hown : (w.alloc (.cells #[] 138)).ownsRow 0 138 2 (.slice (some ⟨w.heap.size, 0, none⟩) 0 0) 0 (encs pgE []) := own_empty (Blk.new _ _ _)
  have hb2 : Els pgE 2 (w.alloc (.cells #[] 138)) (some ad) l := hb.kept hk0 (by simp)
  go_enter Tryz.func58, Tryz.ntmps58
  go_wp2_with (at_builtin; go_must (refine wpList_append_any pgE_length (by decide) pgE_one rfl _ _ 57 rfl 138 _ 24 Tryz.underlying57 info_pg rfl _ 0 [] rfl hown (some ad) c l rfl hb2 (by unfold maxLen; omega) (by omega) ?_); intro vv w6 h6 g6 a6)
  have hm : Mine pgE 2 138 w w6 vv l := by
   rw [Nat.zero_add, List.nil_append] at h6
   refine ⟨h6, fun j hj => ?_, hk0.grown g6 (fun j hj => ?_)⟩
   ·rcases a6 with a6 | a6
    ·rw [a6] at hj; have hj : w.heap.size = j := Option.some.inj hj; omega
    ·rw [a6] at hj; injection hj with hj; simp at hj; omega
   ·have hj : w.heap.size = j := Option.some.inj hj; right; omega
  replace hm := Lib.hid hm
  clear h6 g6 a6 hown hb2
  go_wp2
  go_ret
  exact ⟨_, rfl, new_of_mine hm.out⟩
section
variable {w w1 : World} {R : List Nat} {sb p n c rp mb lp lb : Nat} {σ : Sv} {s : St} {f : Bool} {F : List Nat} {vs : Nat → Value} {D : DataW Value}
set_option maxRecDepth 100000 in
theorem SrvAt.sure (h : SrvAt w w1 R sb p σ s n f c rp mb lp lb F vs D) (x : Int) (y : Nat) (hx : x = y) (hy : y < 4294967296) :
  Calls Tryz.prog 27 #[.pointer (some ⟨sb, 0, none⟩), .int .u32 x] w1 fun e w' => ∃ v, e = .returned v ∧ NewPg w1 w' v (sureL σ.M y) := by
 obtain ⟨_, _, _, c3, _⟩ := h.cells
 have hl := load_at w1 rp mb lp σ.M h.own.rows h.ok.good.sorted (by have := h.rowsFew; omega) y hy
 rw [← hx] at hl
 unfold sureL
 clear h hx
 generalize errL (ldOk (underL σ.M (headB y))) = er at *
 go_enter Tryz.func27, Tryz.ntmps27
 go_wp2_with fail
 refine hl.mono ?_; rintro e w2 ⟨v, rfl, hm⟩
 replace hm := Lib.hid (new_of_mine hm)
 go_wp2
 go_ret
 exact ⟨_, rfl, hm.out⟩
set_option maxRecDepth 100000 in
theorem SrvAt.object (h : SrvAt w w1 R sb p σ s n f c rp mb lp lb F vs D) (x : Int) (y : Nat) (hx : x = y) (hy : y < 4294967296) :
  Calls Tryz.prog 19 #[.pointer (some ⟨sb, 0, none⟩), .int .u32 x] w1 fun e w' => ∃ v, e = .returned v ∧ NewPg w1 w' v (objL σ y) := by
 obtain ⟨_, _, _, _, c4⟩ := h.cells
 have hlook := h.loose.look_ok y hy
 rw [← hx] at hlook
 have hsure := h.sure x y hx hy
 have hlists := h.lists y
 have hloose := h.ok.loose
 unfold objL
 unfold looseV at hlook
 clear h hx
 cases hl : lookL σ.L y with
 | none =>
  rw [hl] at hlook
  simp only [Option.isSome_none, Bool.false_eq_true, if_false] at hlook
  simp only [Option.getD_none]
  generalize sureL σ.M y = o at *
  clear hlists hloose hl
  replace hsure := Lib.hid hsure
  go_enter Tryz.func19, Tryz.ntmps19
  go_wp2_with fail
  refine hsure.out.mono ?_; rintro e w2 ⟨v, rfl, hm⟩
  replace hm := Lib.hid hm
  go_wp2
  go_ret
  exact ⟨_, rfl, hm.out⟩
 | some o =>
  rw [hl] at hlook
  obtain ⟨A, k, hv, hk, hE, _⟩ := hlists o hl
  have hlen := Pgs.right_len (hloose _ (look_some hl)).1
  simp only at hlen
  simp only [Option.isSome_some, if_true] at hlook
  simp only [Option.getD_some]
  rw [hv] at hlook
  have hcl := clone_pg w1 A k o hE (by omega)
  obtain ⟨m, hm⟩ : ∃ m, m = o.length := ⟨_, rfl⟩
  rw [← hm] at hlook hcl
  replace hm := Lib.hid hm
  replace hcl := Lib.hid hcl
  clear hsure hlists hloose hl hv hk hE hlen
  go_enter Tryz.func19, Tryz.ntmps19
  go_wp2_with fail
  refine hcl.out.mono ?_; rintro e w2 ⟨v, rfl, hm2⟩
  replace hm2 := Lib.hid hm2
  go_wp2
  go_ret
  exact ⟨_, rfl, hm2.out⟩
end
end Go.Proofs.YtmelaiefbpdifaaGreatDoor.Srv
