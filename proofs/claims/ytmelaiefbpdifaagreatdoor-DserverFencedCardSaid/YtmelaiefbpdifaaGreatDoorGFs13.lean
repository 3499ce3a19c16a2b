/- DserverFenced: what was seen of four files; again; acts as boxes. -/
import Derived.Test.YtmelaiefbpdifaaGreatDoorGFc13
import Derived.Deep.CutBlock
import Derived.Deep.DeepCutAuto
import Derived.Deep.LoopGhost
namespace Go.Proofs.YtmelaiefbpdifaaGreatDoor.Srv
open Go.RowKit Go.Maps
open Pgs (Pg pgE)
abbrev yEps : Array Value := #[.int .u32 0, .int .u32 0, .int .u32 0, .int .u32 0]
abbrev yObs : Array Value := #[.slice none 0 0, .slice none 0 0, .slice none 0 0, .slice none 0 0]
structure Look (w0 w : World) (ge go : Nat) (σ : Sv) (i j : Nat) : Prop where
 eps : ∃ cs : Array Value, cs.size = 4 ∧ Blk w ge 56 cs ∧ ∀ k, k < i → cs[k]? = some (.int .u32 (epN σ.M k : Int))
 obs : ∃ cs : Array Value, cs.size = 4 ∧ Blk w go 58 cs ∧ ∀ k, k < j → ∃ A c, cs[k]? = some (.slice A (objL σ k).length c) ∧ Els pgE 2 w A (objL σ k) ∧ ∀ a, A = some a → w0.heap.size ≤ a.block ∧ a.block ≠ ge ∧ a.block ≠ go
 new : w0.heap.size ≤ ge ∧ w0.heap.size ≤ go ∧ ge ≠ go
section
variable {w0 w w' : World} {ge go i j : Nat} {σ : Sv}
theorem Look.past {S : List Nat} (h : Look w0 w ge go σ i j) (k : Only S w w') (hS : ∀ x ∈ S, x < w0.heap.size) : Look w0 w' ge go σ i j := by
 obtain ⟨⟨cs, h1, h2, h3⟩, ⟨ds, d1, d2, d3⟩, n1, n2, n3⟩ := h
 refine ⟨⟨cs, h1, h2.kept k (fun hm => by have := hS _ hm; omega), h3⟩, ⟨ds, d1, d2.kept k (fun hm => by have := hS _ hm; omega), fun x hx => ?_⟩, n1, n2, n3⟩
 obtain ⟨A, c, e1, e2, e3⟩ := d3 x hx
 exact ⟨A, c, e1, e2.kept k (fun a ha hm => by have := hS _ hm; have := (e3 a ha).1; omega), e3⟩
theorem Look.keep (h : Look w0 w ge go σ i j) (k : Only [] w w') : Look w0 w' ge go σ i j := h.past k (by simp)
theorem Look.ep {k : Nat} (h : Look w0 w ge go σ k j) (hk : k < 4) : Look w0 (w.setCell ⟨ge, k, none⟩ (.int .u32 (epN σ.M k : Int))) ge go σ (k + 1) j := by
 obtain ⟨⟨cs, h1, h2, h3⟩, ⟨ds, d1, d2, d3⟩, n1, n2, n3⟩ := h
 have ko : Only [ge] w (w.setCell ⟨ge, k, none⟩ (.int .u32 (epN σ.M k : Int))) := (Only.refl [ge] w).setCell (.inl (by simp)) _
 refine ⟨⟨_, by simpa using h1, h2.set k _, fun x hx => ?_⟩, ⟨ds, d1, d2.kept ko (by simpa using fun h => n3 h.symm), fun x hx => ?_⟩, n1, n2, n3⟩
 ·by_cases hx' : x = k
  ·subst hx'
   rw [Array.getElem?_setIfInBounds_self_of_lt (by omega)]
  ·rw [Array.getElem?_setIfInBounds_ne (by omega)]
   exact h3 x (by omega)
 ·obtain ⟨A, c, e1, e2, e3⟩ := d3 x hx
  exact ⟨A, c, e1, e2.kept ko (fun a ha => by simpa using (e3 a ha).2.1), e3⟩
theorem Look.ob {k c : Nat} {A : Option Addr} (h : Look w0 w ge go σ i k) (hk : k < 4) (hA : Els pgE 2 w A (objL σ k)) (ha : ∀ a, A = some a → w0.heap.size ≤ a.block ∧ a.block ≠ ge ∧ a.block ≠ go) : Look w0 (w.setCell ⟨go, k, none⟩ (.slice A (objL σ k).length c)) ge go σ i (k + 1) := by
 obtain ⟨⟨cs, h1, h2, h3⟩, ⟨ds, d1, d2, d3⟩, n1, n2, n3⟩ := h
 have ko : Only [go] w (w.setCell ⟨go, k, none⟩ (.slice A (objL σ k).length c)) := (Only.refl [go] w).setCell (.inl (by simp)) _
 refine ⟨⟨cs, h1, h2.kept ko (by simpa using n3), h3⟩, ⟨_, by simpa using d1, d2.set k _, fun x hx => ?_⟩, n1, n2, n3⟩
 by_cases hx' : x = k
 ·subst hx'
  exact ⟨A, c, by rw [Array.getElem?_setIfInBounds_self_of_lt (by omega)], hA.kept ko (fun a h => by simpa using (ha a h).2.2), ha⟩
 ·obtain ⟨A', c', e1, e2, e3⟩ := d3 x (by omega)
  exact ⟨A', c', by rw [Array.getElem?_setIfInBounds_ne (by omega)]; exact e1, e2.kept ko (fun a h => by simpa using (e3 a h).2.2), e3⟩
theorem Look.cellE {k : Nat} (h : Look w0 w ge go σ i j) (hk : k < 4) : (∃ v, w.cell? ⟨ge, k, none⟩ = some v) ∧ w.frozen? ⟨ge, k, none⟩ = false ∧ ge < w.heap.size := by
 obtain ⟨⟨cs, h1, h2, _⟩, _⟩ := h
 exact ⟨⟨cs[k]'(by omega), by rw [h2.cell k]; exact Array.getElem?_eq_getElem (by omega)⟩, h2.free k, h2.lt⟩
theorem Look.cellO {k : Nat} (h : Look w0 w ge go σ i j) (hk : k < 4) : (∃ v, w.cell? ⟨go, k, none⟩ = some v) ∧ w.frozen? ⟨go, k, none⟩ = false ∧ go < w.heap.size := by
 obtain ⟨_, ⟨cs, h1, h2, _⟩, _⟩ := h
 exact ⟨⟨cs[k]'(by omega), by rw [h2.cell k]; exact Array.getElem?_eq_getElem (by omega)⟩, h2.free k, h2.lt⟩
theorem Look.readE {k : Nat} (h : Look w0 w ge go σ i j) (hk : k < i) : w.cell? ⟨ge, k, none⟩ = some (.int .u32 (epN σ.M k : Int)) := by
 obtain ⟨⟨cs, h1, h2, h3⟩, _⟩ := h
 rw [h2.cell k, h3 k hk]
theorem Look.readO {k : Nat} (h : Look w0 w ge go σ i j) (hk : k < j) : ∃ A c, w.cell? ⟨go, k, none⟩ = some (.slice A (objL σ k).length c) ∧ Els pgE 2 w A (objL σ k) := by
 obtain ⟨_, ⟨cs, h1, h2, h3⟩, _⟩ := h
 obtain ⟨A, c, e1, e2, _⟩ := h3 k hk
 exact ⟨A, c, by rw [h2.cell k, e1], e2⟩
end
theorem act_row {w : World} {A : Option Addr} {l : List Ac} (h : Els acE 23 w A l) {k : Nat} (hk : k < l.length) : ∃ g o, A = some ⟨g, o, none⟩ ∧ w.rangeAt g (o + k * 23) (acE l[k]) := by
 obtain ⟨g, o, rfl, _, hat⟩ := h.get hk
 exact ⟨g, o, rfl, fun j v hj => hat k hk j v hj⟩
theorem act_size : (Tryz.prog.info? 55).map (·.size) = some 23 := by kernel_rfl
theorem act_one (x : Ac) : (acE x).toArray.all (·.oneCell') = true := by
 obtain ⟨a, b, c, y⟩ := x
 simp [acE, Value.oneCell']
set_option maxRecDepth 100000 in
set_option maxHeartbeats 4000000 in
theorem again_any (w : World) (A : Option Addr) (c : Nat) (l : List Ac) (hA : Els acE 23 w A l) (k : Nat) (hk : k < l.length) (hkb : k ≤ 40) :
  Calls Tryz.prog 26 #[.slice A l.length c, .int .i64 k] w fun e w' => e = .returned (.bool ((l.take k).any (agR l[k].p))) ∧ Only [] w w' := by
 obtain ⟨g, o, rfl, _, hat⟩ := hA.get hk
 obtain ⟨n, hn⟩ : ∃ n, n = l.length := ⟨_, rfl⟩
 rw [← hn]
 have hkn : k < n := by omega
 have hcell : ∀ W, Only [] w W → ∀ j, j < l.length → ∀ x, l[j]? = some x → W.cell? ⟨g, o + j * 23 + 4, none⟩ = some (.int .i64 x.p.frm) ∧ W.cell? ⟨g, o + j * 23 + 6, none⟩ = some (.int .u32 x.p.life) ∧ W.cell? ⟨g, o + j * 23 + 7, none⟩ = some (.int .u32 x.p.seq) := fun W kk j hj x hx => by
  obtain ⟨y, hy⟩ : ∃ y, y = l[j] := ⟨_, rfl⟩
  have hxy : x = y := by rw [List.getElem?_eq_getElem hj] at hx; injection hx with hx; rw [hy, hx]
  have h1 := hat j hj 4 (.int .i64 y.p.frm) (by rw [hy]; rfl)
  have h2 := hat j hj 6 (.int .u32 y.p.life) (by rw [hy]; rfl)
  have h3 := hat j hj 7 (.int .u32 y.p.seq) (by rw [hy]; rfl)
  rw [hxy]
  exact ⟨kk.cell h1 (by simp), kk.cell h2 (by simp), kk.cell h3 (by simp)⟩
 have hp : l[k]? = some l[k] := List.getElem?_eq_getElem hk
 have htake : ∀ j x, l[j]? = some x → (l.take (j + 1)).any (agR l[k].p) = ((l.take j).any (agR l[k].p) || agR l[k].p x) := fun j x hx => by
  rw [List.take_add_one, hx, List.any_append]
  simp
 have hup : ∀ j x, l[j]? = some x → j < k → agR l[k].p x = true → (l.take k).any (agR l[k].p) = true := fun j x hx hj hr => by
  rw [List.any_eq_true]
  refine ⟨x, ?_, hr⟩
  rw [List.mem_iff_getElem?]
  exact ⟨j, by rw [List.getElem?_take, if_pos hj]; exact hx⟩
 generalize l[k] = p at *
 replace hcell := Lib.hid hcell
 replace htake := Lib.hid htake
 replace hup := Lib.hid hup
 replace hn := Lib.hid hn
 replace hp := Lib.hid hp
 clear hat hA
 go_enter Tryz.func26, Tryz.ntmps26
 go_wp2_with fail
 go_loopw [5] (fun i wx => ∃ j : Nat, j ≤ k ∧ i = .int .i64 j ∧ Hid ((l.take j).any (agR p.p) = false) ∧ Only [] w wx) (fun i _ => k - (intOf i).toNat)
 case atStart => exact ⟨0, by omega, rfl, Lib.hid (by simp), Only.refl [] _⟩
 case round =>
  obtain ⟨j, hj, rfl, hno, kx⟩ := hrel
  by_cases hlt : j < k
  ·have hjl : j < l.length := by have := hn.out; omega
   obtain ⟨x, hx⟩ : ∃ x, l[j]? = some x := ⟨_, List.getElem?_eq_getElem hjl⟩
   have hjn : j < n := by have := hn.out; omega
   obtain ⟨c1, c2, c3⟩ := hcell.out _ kx j hjl x hx
   obtain ⟨d1, d2, d3⟩ := hcell.out _ kx k (by have := hn.out; omega) p hp.out
   have hstep := htake.out j x hx
   have hbig := fun h => hup.out j x hx hlt h
   unfold agR at hstep hbig
   replace hstep := Lib.hid hstep
   replace hbig := Lib.hid hbig
   replace hx := Lib.hid hx
   by_cases h1 : x.p.frm = p.p.frm
   case neg =>
    have h1' : (x.p.frm == p.p.frm) = false := by rw [beq_eq_false_iff_ne]; exact h1
    go_wp2_with fail
    go_quiet (fail)
    go_wp2_with fail
    go_roundw
    case rel => exact ⟨j + 1, by omega, by go_num, Lib.hid (by rw [htake.out j x hx.out, hno.out]; unfold agR; rw [h1']; rfl), kx.drewN _⟩
    case measure => simp [intOf]; omega
   have h1' : (x.p.frm == p.p.frm) = true := by rw [beq_iff_eq]; exact h1
   by_cases h2 : x.p.life = p.p.life
   case neg =>
    have h2' : (x.p.life == p.p.life) = false := by rw [beq_eq_false_iff_ne]; exact h2
    go_wp2_with fail
    go_quiet (fail)
    go_wp2_with fail
    go_roundw
    case rel => exact ⟨j + 1, by omega, by go_num, Lib.hid (by rw [htake.out j x hx.out, hno.out]; unfold agR; rw [h1', h2']; rfl), kx.drewN _⟩
    case measure => simp [intOf]; omega
   have h2' : (x.p.life == p.p.life) = true := by rw [beq_iff_eq]; exact h2
   by_cases h3 : x.p.seq = p.p.seq
   case neg =>
    have h3' : (x.p.seq == p.p.seq) = false := by rw [beq_eq_false_iff_ne]; exact h3
    go_wp2_with fail
    go_quiet (fail)
    go_wp2_with fail
    go_roundw
    case rel => exact ⟨j + 1, by omega, by go_num, Lib.hid (by rw [htake.out j x hx.out, hno.out]; unfold agR; rw [h1', h2', h3']; rfl), kx.drewN _⟩
    case measure => simp [intOf]; omega
   have h3' : (x.p.seq == p.p.seq) = true := by rw [beq_iff_eq]; exact h3
   go_wp2_with fail
   go_quiet (fail)
   go_wp2_with fail
   go_ret
   refine ⟨?_, kx.drewN _⟩
   rw [hup.out j x hx.out hlt (by unfold agR; rw [h1', h2', h3']; rfl)]
   rfl
  ·obtain rfl : j = k := by omega
   go_wp2_with fail
   go_ret
   exact ⟨by rw [hno.out]; rfl, kx⟩
def blkIn (n : Nat) : Code → Option Code
 | .block m b => if m = n then some (.block m b) else blkIn n b
 | .loop b => blkIn n b
 | .scope b => blkIn n b
 | .cond _ x y => (blkIn n x).or (blkIn n y)
 | .seq x y => (blkIn n x).or (blkIn n y)
 | _ => none
noncomputable def fFill : Code := ((Tryz.f4.body.bind (blkIn 2)).getD .skip)
noncomputable def fCrash : Code := ((Tryz.f4.body.bind (blkIn 4)).getD .skip)
noncomputable def fCheck : Code := ((Tryz.f4.body.bind (blkIn 6)).getD .skip)
def takesOk (md : Region.Mode) (ops : Array Oper) : Array Bool → List Nat → Bool
 | _, [] => true
 | listed, i :: is => Region.free md ops listed i && (Region.ready md ops listed).contains i && takesOk md ops (listed.setIfInBounds i true) is
theorem sgS {P : Program} {ops : Array Oper} {Q : Exit → Act → World → Prop} {md : Region.Mode} {S : World → Prop} {fuel : Nat} {listed : Array Bool} {a : Act} {w : World} (is : List Nat) (hk : takesOk md ops listed is = true)
  (h : takesOk md ops listed is = true → wpAnyH P md ops Q S fuel listed a w) : wpAnyH P md ops Q S fuel listed a w := h hk
theorem sgT {P : Program} {ops : Array Oper} {Q : Exit → Act → World → Prop} {md : Region.Mode} {S : World → Prop} {fuel : Nat} {listed : Array Bool} {a : Act} {w : World} {i : Nat} {is : List Nat} {oi : Oper} (v : Value) (hk : takesOk md ops listed (i :: is) = true) (hS : S w)
  (h : takesOk md ops (listed.setIfInBounds i true) is = true → wpAnyH P md ops Q S fuel (listed.setIfInBounds i true) (a.put oi.dst v) w) (hi : ops.toList[i]? = some oi := by rfl) (hs : Region.noSelect ops = true := by kernel_rfl)
  (hQ : ∀ c a w, Q (.panic c) (a.put oi.dst v) w → Q (.panic c) a w := by first | exact fun _ _ _ h => h | exact fun _ _ _ h => hpan _ _ _ _ _ h)
  (hy : YieldsIf P ops S oi v a) : wpAnyH P md ops Q S (fuel + 1) listed a w := by
 unfold takesOk at hk
 rw [Bool.and_eq_true, Bool.and_eq_true] at hk
 exact held_take i v hi hs hk.1.1 hk.1.2 hQ hS hy (h hk.2)
theorem sgU {P : Program} {ops : Array Oper} {Q : Exit → Act → World → Prop} {md : Region.Mode} {S : World → Prop} {fuel : Nat} {listed : Array Bool} {a : Act} {w : World} {i : Nat} {is : List Nat} {oi : Oper} (hk : takesOk md ops listed (i :: is) = true) (hS : S w)
  (h : takesOk md ops (listed.setIfInBounds i true) is = true → wpAnyH P md ops Q S fuel (listed.setIfInBounds i true) (a.put oi.dst undef) w) (hi : ops.toList[i]? = some oi := by rfl) (hs : Region.noSelect ops = true := by kernel_rfl)
  (hQ : ∀ c a w, Q (.panic c) (a.put oi.dst undef) w → Q (.panic c) a w := by first | exact fun _ _ _ h => h | exact fun _ _ _ h => hpan _ _ _ _ _ h)
  (hy : YieldsIf P ops S oi undef a := by exact Or.inr ⟨by rfl, rfl⟩) : wpAnyH P md ops Q S (fuel + 1) listed a w :=
 sgT undef hk hS h hi hs hQ hy
theorem nA : (∀ (a : Act) (d : Nat) (v : Value), a.put (some d) v = ⟨a.tmps.setIfInBounds d v, a.defers⟩) ∧ (∀ (l : List Value) (i : Nat) (v : Value), l.toArray.setIfInBounds i v = (l.set i v).toArray) ∧ (∀ (x : Value) (l : List Value) (v : Value), (x :: l).set 0 v = v :: l) ∧ (∀ (x : Value) (l : List Value) (n : Nat) (v : Value), (x :: l).set (n + 1) v = x :: l.set n v) :=
 ⟨fun _ _ _ => rfl, fun _ _ _ => by simp, fun _ _ _ => rfl, fun _ _ _ _ => rfl⟩
theorem same_says (w : World) (A B : Option Addr) (c d : Nat) (L M : List Pg) (hA : Els pgE 2 w A L) (hB : Els pgE 2 w B M) (hl : L.length ≤ 32) :
  Calls Tryz.prog 24 #[.slice A L.length c, .slice B M.length d] w fun e w' => ∃ r : Bool, e = .returned (.bool r) ∧ (r = true ↔ L = M) ∧ Only [] w w' := by
 refine (Pgs.same_any w A B c d _ _ L M rfl rfl hA hB (by omega)).mono ?_
 rintro e w1 ⟨⟨r, rfl, hr⟩, k, rfl⟩
 exact ⟨r, rfl, hr, (Only.refl [] w).drewN k⟩
end Go.Proofs.YtmelaiefbpdifaaGreatDoor.Srv
