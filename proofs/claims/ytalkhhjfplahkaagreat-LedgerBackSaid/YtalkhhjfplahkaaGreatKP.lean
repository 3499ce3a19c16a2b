/- Joined: Mn14, Fr14. -/
import Derived.Test.YtalkhhjfplahkaaGreatKMe14
import Derived.Maps.OwnSet
import Derived.Maps.RangeWalk
namespace Go.Proofs.YtalkhhjfplahkaaGreat
open Go.RowKit Go.Maps
set_option linter.unusedVariables false

theorem rkey14 : Keyed Tryz.prog 9 := string_keyed Tryz.underlying9
theorem key14 (k : List UInt8) (hk : k.length ≤ 1048576) : keyOf Tryz.prog 9 (.string (strOf k)) = some (.string k) := by
  have := WideMaps.keyOf_string_mk (P := Tryz.prog) Tryz.underlying9 (s := strOf k) (by rw [strOf_size]; unfold maxLen; omega)
  rwa [strOf_list] at this
/-- How a function reads. -/
def fnR (v : Value) : Option (DataW Unit × List MemPlace) := match v with
  | .func (.func f) c b => if c.size = 0 ∧ b.size = 0 then some (.lit (.int .i64 ((f : Nat) : Int)), []) else none
  | .nilFunc => some (.lit (.bool false), [])
  | _ => none
theorem fnR_inv {v : Value} {n : Nat} {ps : List MemPlace} (h : fnR v = some (.lit (.int .i64 (n : Int)), ps)) : v = .func (.func n) #[] #[] := by
  unfold fnR at h
  split at h
  · rename_i f c b
    split at h
    · rename_i hc
      simp only [Option.some.injEq, Prod.mk.injEq, DataW.lit.injEq, Lit.int.injEq, true_and] at h
      have e : f = n := by have h3 := h.1; exact Int.ofNat.inj h3
      rw [e, Array.eq_empty_of_size_eq_zero hc.1, Array.eq_empty_of_size_eq_zero hc.2]
    · cases h
  · simp at h
  · cases h
theorem zeroFn (w : World) : (zeroValue 71).run Tryz.prog w = .ok .nilFunc w := by kernel_rfl
/-- The meanings. -/
def mD0 : DataW Unit := .map []
def mD1 : DataW Unit := mD0.put (.string [66]) (.lit (.int .i64 ((42 : Nat) : Int)))
def mD2 : DataW Unit := mD1.put (.string [73]) (.lit (.int .i64 ((43 : Nat) : Int)))
def mD3 : DataW Unit := mD2.put (.string [76]) (.lit (.int .i64 ((44 : Nat) : Int)))
def mD4 : DataW Unit := mD3.put (.string [78]) (.lit (.int .i64 ((45 : Nat) : Int)))
def mD5 : DataW Unit := mD4.put (.string [79]) (.lit (.int .i64 ((46 : Nat) : Int)))
def mD6 : DataW Unit := mD5.put (.string [83]) (.lit (.int .i64 ((47 : Nat) : Int)))
def mD7 : DataW Unit := mD6.put (.string [87]) (.lit (.int .i64 ((48 : Nat) : Int)))
def MeansB (w : World) (mb : Nat) : Prop := w.ownsMap Tryz.prog 9 fnR mb 7 mD7
theorem MeansB.kept {S : List Nat} {w w' : World} {mb : Nat} (h : MeansB w mb) (k : Only S w w') (hmb : mb ∉ S) : MeansB w' mb := by
  have hlt := World.ownsMap.lt h
  obtain ⟨es, clock, h1, h2⟩ := h
  exact ⟨es, clock, (k.block mb hlt hmb).trans h1, h2⟩
theorem MeansB.look_boot {w : World} {mb : Nat} (h : MeansB w mb) : (Instr.lookup 69 (.map (some mb)) (.string (strOf [66])) true).run Tryz.prog w = .ok (.tuple #[.func (.func 42) #[] #[], .bool true]) w := by
  obtain ⟨v, ps, h1, h2⟩ := World.ownsMap.look_ok h rkey14 Tryz.underlying69 (zeroFn w) (zd := .lit (.bool false)) (zp := []) rfl (key14 [66] (by simp))
  have e1 : Maps.has mD7 (.string [66]) = true := by decide +kernel
  have e2 : DataW.atKey mD7 (.string [66]) (.lit (.bool false)) = .lit (.int .i64 ((42 : Nat) : Int)) := by kernel_rfl
  rw [e2] at h2
  rw [h1, fnR_inv h2, e1]
theorem MeansB.look_next {w : World} {mb : Nat} (h : MeansB w mb) : (Instr.lookup 69 (.map (some mb)) (.string (strOf [73])) true).run Tryz.prog w = .ok (.tuple #[.func (.func 43) #[] #[], .bool true]) w := by
  obtain ⟨v, ps, h1, h2⟩ := World.ownsMap.look_ok h rkey14 Tryz.underlying69 (zeroFn w) (zd := .lit (.bool false)) (zp := []) rfl (key14 [73] (by simp))
  have e1 : Maps.has mD7 (.string [73]) = true := by decide +kernel
  have e2 : DataW.atKey mD7 (.string [73]) (.lit (.bool false)) = .lit (.int .i64 ((43 : Nat) : Int)) := by kernel_rfl
  rw [e2] at h2
  rw [h1, fnR_inv h2, e1]
theorem MeansB.look_lock {w : World} {mb : Nat} (h : MeansB w mb) : (Instr.lookup 69 (.map (some mb)) (.string (strOf [76])) true).run Tryz.prog w = .ok (.tuple #[.func (.func 44) #[] #[], .bool true]) w := by
  obtain ⟨v, ps, h1, h2⟩ := World.ownsMap.look_ok h rkey14 Tryz.underlying69 (zeroFn w) (zd := .lit (.bool false)) (zp := []) rfl (key14 [76] (by simp))
  have e1 : Maps.has mD7 (.string [76]) = true := by decide +kernel
  have e2 : DataW.atKey mD7 (.string [76]) (.lit (.bool false)) = .lit (.int .i64 ((44 : Nat) : Int)) := by kernel_rfl
  rw [e2] at h2
  rw [h1, fnR_inv h2, e1]
theorem MeansB.look_inode {w : World} {mb : Nat} (h : MeansB w mb) : (Instr.lookup 69 (.map (some mb)) (.string (strOf [78])) true).run Tryz.prog w = .ok (.tuple #[.func (.func 45) #[] #[], .bool true]) w := by
  obtain ⟨v, ps, h1, h2⟩ := World.ownsMap.look_ok h rkey14 Tryz.underlying69 (zeroFn w) (zd := .lit (.bool false)) (zp := []) rfl (key14 [78] (by simp))
  have e1 : Maps.has mD7 (.string [78]) = true := by decide +kernel
  have e2 : DataW.atKey mD7 (.string [78]) (.lit (.bool false)) = .lit (.int .i64 ((45 : Nat) : Int)) := by kernel_rfl
  rw [e2] at h2
  rw [h1, fnR_inv h2, e1]
theorem MeansB.look_open {w : World} {mb : Nat} (h : MeansB w mb) : (Instr.lookup 69 (.map (some mb)) (.string (strOf [79])) true).run Tryz.prog w = .ok (.tuple #[.func (.func 46) #[] #[], .bool true]) w := by
  obtain ⟨v, ps, h1, h2⟩ := World.ownsMap.look_ok h rkey14 Tryz.underlying69 (zeroFn w) (zd := .lit (.bool false)) (zp := []) rfl (key14 [79] (by simp))
  have e1 : Maps.has mD7 (.string [79]) = true := by decide +kernel
  have e2 : DataW.atKey mD7 (.string [79]) (.lit (.bool false)) = .lit (.int .i64 ((46 : Nat) : Int)) := by kernel_rfl
  rw [e2] at h2
  rw [h1, fnR_inv h2, e1]
theorem MeansB.look_seat {w : World} {mb : Nat} (h : MeansB w mb) : (Instr.lookup 69 (.map (some mb)) (.string (strOf [83])) true).run Tryz.prog w = .ok (.tuple #[.func (.func 47) #[] #[], .bool true]) w := by
  obtain ⟨v, ps, h1, h2⟩ := World.ownsMap.look_ok h rkey14 Tryz.underlying69 (zeroFn w) (zd := .lit (.bool false)) (zp := []) rfl (key14 [83] (by simp))
  have e1 : Maps.has mD7 (.string [83]) = true := by decide +kernel
  have e2 : DataW.atKey mD7 (.string [83]) (.lit (.bool false)) = .lit (.int .i64 ((47 : Nat) : Int)) := by kernel_rfl
  rw [e2] at h2
  rw [h1, fnR_inv h2, e1]
theorem MeansB.look_work {w : World} {mb : Nat} (h : MeansB w mb) : (Instr.lookup 69 (.map (some mb)) (.string (strOf [87])) true).run Tryz.prog w = .ok (.tuple #[.func (.func 48) #[] #[], .bool true]) w := by
  obtain ⟨v, ps, h1, h2⟩ := World.ownsMap.look_ok h rkey14 Tryz.underlying69 (zeroFn w) (zd := .lit (.bool false)) (zp := []) rfl (key14 [87] (by simp))
  have e1 : Maps.has mD7 (.string [87]) = true := by decide +kernel
  have e2 : DataW.atKey mD7 (.string [87]) (.lit (.bool false)) = .lit (.int .i64 ((48 : Nat) : Int)) := by kernel_rfl
  rw [e2] at h2
  rw [h1, fnR_inv h2, e1]
theorem has_other (a : UInt8) (h : ¬ (a = 66 ∨ a = 73 ∨ a = 76 ∨ a = 78 ∨ a = 79 ∨ a = 83 ∨ a = 87)) : Maps.has mD7 (.string [a]) = false := by
  have hh : ∀ b : UInt8, Maps.has mD7 (.string [b]) = (b == 66 || b == 73 || b == 76 || b == 78 || b == 79 || b == 83 || b == 87) := by
    intro b
    have hm : mD7 = .map [(.string [66], .lit (.int .i64 ((42 : Nat) : Int))), (.string [73], .lit (.int .i64 ((43 : Nat) : Int))), (.string [76], .lit (.int .i64 ((44 : Nat) : Int))), (.string [78], .lit (.int .i64 ((45 : Nat) : Int))), (.string [79], .lit (.int .i64 ((46 : Nat) : Int))), (.string [83], .lit (.int .i64 ((47 : Nat) : Int))), (.string [87], .lit (.int .i64 ((48 : Nat) : Int)))] := by kernel_rfl
    rw [hm]
    simp only [Maps.has, List.any_cons, List.any_nil, Bool.or_false, Lit.sameKey]
    have h2 : ∀ c : UInt8, ([c] == [b]) = (b == c) := fun c => by rw [Bool.eq_iff_iff, beq_iff_eq, beq_iff_eq, List.cons.injEq]; exact ⟨fun h => h.1.symm, fun h => ⟨h.symm, rfl⟩⟩
    simp only [h2, Bool.or_assoc]
  rw [hh]
  simp only [not_or] at h
  simp [h]
theorem MeansB.look_none {w : World} {mb : Nat} (h : MeansB w mb) (a : UInt8) (ha : ¬ (a = 66 ∨ a = 73 ∨ a = 76 ∨ a = 78 ∨ a = 79 ∨ a = 83 ∨ a = 87)) : ∃ v, (Instr.lookup 69 (.map (some mb)) (.string (strOf [a])) true).run Tryz.prog w = .ok (.tuple #[v, .bool false]) w := by
  obtain ⟨v, ps, h1, h2⟩ := World.ownsMap.look_ok h rkey14 Tryz.underlying69 (zeroFn w) (zd := .lit (.bool false)) (zp := []) rfl (key14 [a] (by simp))
  rw [has_other a ha] at h1
  exact ⟨v, h1⟩

theorem wpList_insert14 {H : Type} {P : Program} (w : World) {ops : Array Oper} {rest : List Oper} {o : Oper} {a : Act} {Q : Exit → Act → World → Prop}
    (hg : o.guard = none) (m x v : Operand) (t : TypeId) (hop : o.op = Op.insert t m x v)
    (k e : TypeId) (K : Keyed P k) (ht : P.underlying t = some (.map k e)) (R : Value → Option (DataW H × List MemPlace)) (b n : Nat) (D : DataW H)
    (hm : a.eval m = .map (some b)) (hown : w.ownsMap P k R b n D) (hn : n < maxLen) (key val : Value) (kl : Lit) (hx : a.eval x = key) (hv : a.eval v = val) (hkey : keyOf P k key = some kl)
    (d : DataW H) (ps : List MemPlace) (hval : R val = some (d, ps))
    (hK : ∀ w', w'.ownsMap P k R b (n + 1) (D.put kl d) → w.grownBy w' (some b) → wpList P ops Q rest (a.put o.dst undef) w') :
    wpList P ops Q (o :: rest) a w := by
  refine wpList_plain hg fun K' hK' => ?_
  obtain ⟨w', hrun, r1, r2⟩ := hown.update K ht hn hkey hval
  unfold Oper.wp
  simp [execOp, hop, hm, hx, hv, hrun, Result.andThen]
  exact hK' _ _ (hK w' r1 r2)

set_option maxRecDepth 100000 in
set_option maxHeartbeats 4000000 in
theorem meanings_any (w : World) : Calls Tryz.prog 20 #[] w fun e w' => ∃ mb, e = .returned (.map (some mb)) ∧ MeansB w' mb ∧ w.heap.size ≤ mb ∧ Only [] w w' := by
  have hmm := @run_makeMap Tryz.prog
  have k0 : Only [] w (w.alloc (.map #[] 0)) := (Only.refl [] w).alloc _
  have o0 := World.ownsMap_made w Tryz.prog 9 fnR
  change (w.alloc (.map #[] 0)).ownsMap Tryz.prog 9 fnR w.heap.size 0 mD0 at o0
  obtain ⟨mb, hmb⟩ : ∃ mb, mb = w.heap.size := ⟨_, rfl⟩
  have hle : w.heap.size ≤ mb := by omega
  replace hmb := Lib.hid hmb
  replace o0 := Lib.hid o0
  replace k0 := Lib.hid k0
  go_enter Tryz.func20, Tryz.ntmps20
  go_wp2_with (first | (refine wpList_insert14 _ rfl _ _ _ 69 rfl 9 71 rkey14 Tryz.underlying69 fnR w.heap.size 6 mD6 rfl o6.out (by unfold maxLen; decide) _ _ (.string [87]) rfl rfl (key14 [87] (by simp)) (.lit (.int .i64 ((48 : Nat) : Int))) [] rfl ?_; intro w7 o7 g7; replace o7 := Lib.hid o7; have k7 := Lib.hid (k6.out.grown g7 (fun j hj => .inr (by injection hj with hj; omega))); clear g7) | (refine wpList_insert14 _ rfl _ _ _ 69 rfl 9 71 rkey14 Tryz.underlying69 fnR w.heap.size 5 mD5 rfl o5.out (by unfold maxLen; decide) _ _ (.string [83]) rfl rfl (key14 [83] (by simp)) (.lit (.int .i64 ((47 : Nat) : Int))) [] rfl ?_; intro w6 o6 g6; replace o6 := Lib.hid o6; have k6 := Lib.hid (k5.out.grown g6 (fun j hj => .inr (by injection hj with hj; omega))); clear g6) | (refine wpList_insert14 _ rfl _ _ _ 69 rfl 9 71 rkey14 Tryz.underlying69 fnR w.heap.size 4 mD4 rfl o4.out (by unfold maxLen; decide) _ _ (.string [79]) rfl rfl (key14 [79] (by simp)) (.lit (.int .i64 ((46 : Nat) : Int))) [] rfl ?_; intro w5 o5 g5; replace o5 := Lib.hid o5; have k5 := Lib.hid (k4.out.grown g5 (fun j hj => .inr (by injection hj with hj; omega))); clear g5) | (refine wpList_insert14 _ rfl _ _ _ 69 rfl 9 71 rkey14 Tryz.underlying69 fnR w.heap.size 3 mD3 rfl o3.out (by unfold maxLen; decide) _ _ (.string [78]) rfl rfl (key14 [78] (by simp)) (.lit (.int .i64 ((45 : Nat) : Int))) [] rfl ?_; intro w4 o4 g4; replace o4 := Lib.hid o4; have k4 := Lib.hid (k3.out.grown g4 (fun j hj => .inr (by injection hj with hj; omega))); clear g4) | (refine wpList_insert14 _ rfl _ _ _ 69 rfl 9 71 rkey14 Tryz.underlying69 fnR w.heap.size 2 mD2 rfl o2.out (by unfold maxLen; decide) _ _ (.string [76]) rfl rfl (key14 [76] (by simp)) (.lit (.int .i64 ((44 : Nat) : Int))) [] rfl ?_; intro w3 o3 g3; replace o3 := Lib.hid o3; have k3 := Lib.hid (k2.out.grown g3 (fun j hj => .inr (by injection hj with hj; omega))); clear g3) | (refine wpList_insert14 _ rfl _ _ _ 69 rfl 9 71 rkey14 Tryz.underlying69 fnR w.heap.size 1 mD1 rfl o1.out (by unfold maxLen; decide) _ _ (.string [73]) rfl rfl (key14 [73] (by simp)) (.lit (.int .i64 ((43 : Nat) : Int))) [] rfl ?_; intro w2 o2 g2; replace o2 := Lib.hid o2; have k2 := Lib.hid (k1.out.grown g2 (fun j hj => .inr (by injection hj with hj; omega))); clear g2) | (refine wpList_insert14 _ rfl _ _ _ 69 rfl 9 71 rkey14 Tryz.underlying69 fnR w.heap.size 0 mD0 rfl o0.out (by unfold maxLen; decide) _ _ (.string [66]) rfl rfl (key14 [66] (by simp)) (.lit (.int .i64 ((42 : Nat) : Int))) [] rfl ?_; intro w1 o1 g1; replace o1 := Lib.hid o1; have k1 := Lib.hid (k0.out.grown g1 (fun j hj => .inr (by injection hj with hj; omega))); clear g1))
  go_ret
  exact ⟨w.heap.size, rfl, o7.out, Nat.le_refl _, k7.out⟩

end Go.Proofs.YtalkhhjfplahkaaGreat
namespace Go.Proofs.YtalkhhjfplahkaaGreat
open Go.RowKit
set_option linter.unusedVariables false

theorem root_any (w : World) : Calls Tryz.prog 19 #[] w fun e w' => ∃ v, e = .returned v ∧ Mine ndE 5 42 w w' v [rootN] ∧ v = .slice (some ⟨w.heap.size, 0, none⟩) 1 1 := by
  have hm : Mine ndE 5 42 w (w.alloc (.cells (encs ndE [rootN]).toArray 42)) (.slice (some ⟨w.heap.size, 0, none⟩) 1 1) [rootN] := Mine.lit (l := [rootN]) ndE_length (Nat.le_refl _) (Blk.new w _ _) (by unfold maxLen; simp) ((Only.refl [] w).alloc _)
  go_enter Tryz.func19, Tryz.ntmps19
  go_wp2
  go_ret
  exact ⟨_, rfl, hm, rfl⟩

/-- A state in its own block, stored whole. -/
theorem wpList_store_sta {ops : Array Oper} {rest : List Oper} {o : Oper} {a : Act} {w : World} {Q : Exit → Act → World → Prop} (C D : Array Value) (hw : Region.wanted o (yielded ops a.tmps) = true) (x y : Operand) (ho : o.op = .store 29 x y) (g : Nat) (hx : a.eval x = .pointer (some ⟨g, 0, none⟩)) (hy : a.eval y = .agg C) (hb : Blk w g 29 D) (hc : C.size = 7) (hd : D.size = 7) (h1 : C.all (·.oneCell') = true)
    (h : ∀ w', Blk w' g 29 C → Only [g] w w' → wpList Tryz.prog ops Q rest (a.put o.dst undef) w') : wpList Tryz.prog ops Q (o :: rest) a w :=
  wpList_store_blk hw 29 x y ho g D C hx hy hb (by rw [size_sta, hc]) (by rw [hc, hd]) h1 h
theorem results_sta {fn : Func} {p : Tmp} (h : fn.results = #[.cell p 29]) (tmps : Array Value) (w : World) (g : Nat) (hp : tmps.getD p undef = .pointer (some ⟨g, 0, none⟩)) (s : Sta) (q : Sp) (hb : Blk w g 29 (staA s q)) :
    (results fn tmps).run Tryz.prog w = .ok (staV s q) w := by
  rw [results_cell h, hp]
  simp only [asAddr, Sem.run_pure, Result.andThen_ok]
  exact run_loadVar_mid (P := Tryz.prog) w g 0 29 (staA s q).toList _ (Blk.range9 hb) Tryz.underlying29 rfl size_sta
def noSp (A : Option Addr) (c : Nat) : Sp := ⟨A, c, none, 0, none, 0, [], none, 0, none, 0⟩
theorem fresh_fit : freshS.Fit := by
  refine ⟨⟨by decide, by decide⟩, ⟨by decide, by decide⟩, ?_, by simp [freshS], by simp [freshS], by simp [freshS], by simp [freshS]⟩
  intro x hx
  simp [freshS] at hx
  subst hx
  exact ⟨⟨by decide, by decide⟩, ⟨by decide, by decide⟩, ⟨by decide, by decide⟩⟩

set_option maxRecDepth 100000 in
theorem fresh_any (w : World) : Calls Tryz.prog 10 #[] w fun e w' => ∃ g, w.heap.size ≤ g ∧ e = .returned (staV freshS (noSp (some ⟨g, 0, none⟩) 1)) ∧ StM w' freshS (noSp (some ⟨g, 0, none⟩) 1) ∧ Only [] w w' := by
  have k0 : Only [] w (w.alloc (.cells #[.int .u32 0, .int .u32 0, .slice none 0 0, .slice none 0 0, .slice none 0 0, .slice none 0 0, .slice none 0 0] 29)) := (Only.refl [] w).alloc _
  have b0 := Blk.new w 29 #[.int .u32 0, .int .u32 0, .slice none 0 0, .slice none 0 0, .slice none 0 0, .slice none 0 0, .slice none 0 0]
  have hr := fun W => root_any W
  replace hr := Lib.hid hr
  go_enter Tryz.func10, Tryz.ntmps10
  go_wp2_with fail
  refine (hr.out _).mono ?_; rintro e w1 ⟨v, rfl, hm, rfl⟩
  have b1 := b0.kept hm.only (by simp)
  obtain ⟨A, c, hv, hels, hc, _⟩ := hm.shape ndE_length
  have hsz : (w.alloc (.cells #[.int .u32 0, .int .u32 0, .slice none 0 0, .slice none 0 0, .slice none 0 0, .slice none 0 0, .slice none 0 0] 29)).heap.size = w.heap.size + 1 := by simp
  rw [hsz] at hv
  injection hv with hA hl hcap
  subst hA
  rw [hsz]
  have ho := k0.trans hm.only
  replace hels := Lib.hid hels
  replace ho := Lib.hid ho
  clear hm hc hl hcap hsz k0 b0
  go_wp2_with (refine wpList_store_sta (staA freshS (noSp (some ⟨w.heap.size + 1, 0, none⟩) 1)) _ rfl _ _ rfl w.heap.size rfl rfl b1 rfl rfl (by simp [Value.oneCell', staA, noSp]) ?_; intro w5 b5 k5)
  refine bodyPost_ret (results_sta rfl _ _ w.heap.size rfl freshS (noSp (some ⟨w.heap.size + 1, 0, none⟩) 1) b5) rfl ?_
  refine ⟨w.heap.size + 1, by omega, rfl, ?_, ho.out.beyond k5 (Nat.le_refl _)⟩
  exact { tree := hels.out.kept k5 (fun a ha => by injection ha with ha; subst ha; simp), tc := Nat.le_refl _, tl := by simp [freshS], opens := .inl rfl, oc := Nat.le_refl _, ol := by simp [freshS], lks := rfl, locks := .inl rfl, lvs := by simp [noSp], lc := Nat.le_refl _, ll := by simp [freshS], lh := by simp [noSp], works := .inl rfl, wc := Nat.le_refl _, wl := by simp [freshS], wd := by simp [freshS], seats := .inl rfl, sc := Nat.le_refl _, sl := by simp [freshS], fit := fresh_fit }
theorem fresh_keep {w w' : World} {g z : Nat} (h : StM w freshS (noSp (some ⟨g, 0, none⟩) 1)) (k : Only [z] w w') (hz : z < g) : StM w' freshS (noSp (some ⟨g, 0, none⟩) 1) :=
  { h with tree := h.tree.kept k (fun a ha => by injection ha with ha; subst ha; simp; omega), opens := .inl rfl, locks := .inl rfl, lvs := by simp [noSp], works := .inl rfl, seats := .inl rfl }

end Go.Proofs.YtalkhhjfplahkaaGreat
