/- A data server in memory: its header, its map of loose objects, its rows. -/
import Derived.Test.YtmelaiefbpdifaaGreatDoorFSv
import Derived.Test.YtmelaiefbpdifaaGreatDoorFFn2
import Derived.Test.YtmelaiefbpdifaaGreatDoorFAp13
import Derived.Maps.Views
namespace Go.Proofs.YtmelaiefbpdifaaGreatDoor.Srv
open Go.RowKit Go.Maps
open Pgs (Pg pgE pgE_length pgE_one info_pg keyB headB find)
def heldR (v : Value) : Option (DataW Value × List MemPlace) := some (.held v, [])
theorem ukey : Keyed Tryz.prog 49 := int_keyed Tryz.underlying49
theorem u_wf (x : Nat) (hx : x < 4294967296) : (Lit.int .u32 (x : Int)).wf = true := by
 simp [Lit.wf, IntKind.min, IntKind.max, IntKind.bits, IntKind.signed]
 omega
theorem key_lit (x : Nat) : WideAt.IsKeyLit (Lit.int .u32 (x : Int)) := trivial
theorem key_u (x : Nat) (hx : x < 4294967296) : keyOf Tryz.prog 49 (.int .u32 (x : Int)) = some (.int .u32 (x : Int)) := keyOf_int_mk Tryz.underlying49 (u_wf x hx)
theorem ne_key {x y : Nat} (h : y ≠ x) : (Lit.int .u32 (y : Int)) ≠ .int .u32 (x : Int) := fun e => by
 injection e with _ e
 omega
structure LooseB (w : World) (lb n : Nat) (L : List (Nat × List Pg)) (vs : Nat → Value) (D : DataW Value) : Prop where
 own : w.ownsMap Tryz.prog 49 heldR lb n D
 has : ∀ x : Nat, x < 4294967296 → Maps.has D (.int .u32 (x : Int)) = (lookL L x).isSome
 at_ : ∀ (x : Nat) (o : List Pg), x < 4294967296 → lookL L x = some o → ∀ z, D.atKey (.int .u32 (x : Int)) z = .held (vs x)
def looseV (L : List (Nat × List Pg)) (vs : Nat → Value) (x : Nat) : Value := if (lookL L x).isSome then vs x else .slice none 0 0
section
variable {S : List Nat} {w w' : World} {lb n : Nat} {L : List (Nat × List Pg)} {vs : Nat → Value} {D : DataW Value}
theorem LooseB.lt (h : LooseB w lb n L vs D) : lb < w.heap.size := World.ownsMap.lt h.own
theorem LooseB.kept (h : LooseB w lb n L vs D) (k : Only S w w') (hn : lb ∉ S) : LooseB w' lb n L vs D := by
 have hlt := h.lt
 obtain ⟨⟨es, clock, h1, h2⟩, h3, h4⟩ := h
 exact ⟨⟨es, clock, (k.block lb hlt hn).trans h1, h2⟩, h3, h4⟩
theorem LooseB.new (w : World) (vs : Nat → Value) : LooseB (w.alloc (.map #[] 0)) w.heap.size 0 [] vs (.map []) :=
 ⟨World.ownsMap_made w _ _ _, fun _ _ => rfl, fun _ _ _ h => by cases h⟩
theorem LooseB.mono (h : LooseB w lb n L vs D) {m : Nat} (hm : n ≤ m) : LooseB w lb m L vs D := ⟨h.own.mono hm, h.has, h.at_⟩
set_option maxRecDepth 100000 in
theorem LooseB.look_ok (h : LooseB w lb n L vs D) (x : Nat) (hx : x < 4294967296) :
  (Instr.lookup 111 (.map (some lb)) (.int .u32 (x : Int)) true).run Tryz.prog w = .ok (.tuple #[looseV L vs x, .bool (lookL L x).isSome]) w := by
 have hz : (zeroValue 57).run Tryz.prog w = .ok (.slice none 0 0) w := by kernel_rfl
 obtain ⟨v, ps, h1, h2⟩ := World.ownsMap.look_ok h.own ukey Tryz.underlying111 hz (zd := .held (.slice none 0 0)) (zp := []) rfl (key_u x hx)
 rw [h1, h.has x hx]
 unfold heldR at h2
 injection h2 with h2
 injection h2 with h2 _
 unfold looseV
 cases hl : lookL L x with
 | none =>
  rw [Maps.atKey_of_not_has (by rw [h.has x hx, hl]; rfl)] at h2
  injection h2 with h2
  rw [h2]; rfl
 | some o =>
  rw [h.at_ x o hx hl] at h2
  injection h2 with h2
  rw [h2]; rfl
theorem LooseB.put_data (h : LooseB w lb n L vs D) (x : Nat) (hx : x < 4294967296) (v : Value) (o : List Pg) (hown : w'.ownsMap Tryz.prog 49 heldR lb (n + 1) (D.put (.int .u32 (x : Int)) (.held v))) :
  LooseB w' lb (n + 1) (putLo L x o) (fun y => if y = x then v else vs y) (D.put (.int .u32 (x : Int)) (.held v)) := by
 have hm := World.ownsMap.isMap h.own
 refine ⟨hown, fun y hy => ?_, fun y q hy hq z => ?_⟩
 ·by_cases hyx : y = x
  ·subst hyx
   rw [Maps.has_put_same hm (key_lit y), look_put_same]; rfl
  ·rw [Maps.has_put_other (ne_key hyx), look_put_other hyx]
   exact h.has y hy
 ·by_cases hyx : y = x
  ·subst hyx
   rw [Maps.atKey_put_same hm (key_lit y), if_pos rfl]
  ·rw [Maps.atKey_put_other (ne_key hyx), if_neg hyx]
   rw [look_put_other hyx] at hq
   exact h.at_ y q hy hq z
theorem LooseB.del_data (h : LooseB w lb n L vs D) (x : Nat) (hown : w'.ownsMap Tryz.prog 49 heldR lb n (D.del (.int .u32 (x : Int)))) :
  LooseB w' lb n (delLo L x) vs (D.del (.int .u32 (x : Int))) := by
 refine ⟨hown, fun y hy => ?_, fun y q hy hq z => ?_⟩
 ·by_cases hyx : y = x
  ·subst hyx
   rw [Maps.has_del_same, look_del_same]; rfl
  ·rw [Maps.has_del_other (ne_key hyx), look_del_other hyx]
   exact h.has y hy
 ·by_cases hyx : y = x
  ·subst hyx
   rw [look_del_same] at hq
   cases hq
  ·rw [Maps.atKey_del_other (ne_key hyx)]
   rw [look_del_other hyx] at hq
   exact h.at_ y q hy hq z
theorem wpList_put_loose {ops : Array Oper} {rest : List Oper} {o : Oper} {a : Act} {Q : Exit → Act → World → Prop} (hg : o.guard = none) (m y v : Operand) (hop : o.op = Op.mapUpdate 111 m y v)
  (hm : a.eval m = .map (some lb)) (h : LooseB w lb n L vs D) (hn : n ≤ 1048576) (x : Nat) (hx : x < 4294967296) (l : List Pg) (u : Value) (hy : a.eval y = .int .u32 (x : Int)) (hv : a.eval v = u)
  (hK : ∀ w' D', LooseB w' lb (n + 1) (putLo L x l) (fun y => if y = x then u else vs y) D' → Only [lb] w w' → wpList Tryz.prog ops Q rest (a.put o.dst undef) w') :
  wpList Tryz.prog ops Q (o :: rest) a w :=
 wpList_mapUpdate_in w hg m y v _ hop _ _ ukey Tryz.underlying111 heldR lb n D hm h.own (by unfold maxLen; omega) _ _ (.int .u32 (x : Int)) hy hv (key_u x hx) (.held u) []
  rfl (fun w' h1 h2 => hK w' _ (h.put_data x hx u l h1) (only_turned h2))
end
def seatE (s : Sat) : List Value := [.int .u32 s.life, .int .u32 s.seq, .string s.reply]
def seatCs (f : Nat → Sat) : List Value := ((List.range 256).map fun k => seatE (f k)).flatten
def srvCs (σ : Sv) (rp lb : Nat) : List Value := .int .i64 σ.me :: .int .u32 σ.boot :: .bool σ.up :: .pointer (some ⟨rp, 0, none⟩) :: .map (some lb) :: seatCs σ.seat
structure SrvAt (w w1 : World) (R : List Nat) (sb p : Nat) (σ : Sv) (s : St) (n : Nat) (f : Bool) (c rp mb lp lb : Nat) (F : List Nat) (vs : Nat → Value) (D : DataW Value) : Prop where
 own : Own5 w w1 F rp mb lp p s n f σ.M
 hdr : Blk w1 sb 116 (srvCs σ rp lb).toArray
 loose : LooseB w1 lb c σ.L vs D
 lists : ∀ x o, lookL σ.L x = some o → ∃ A k, vs x = .slice A o.length k ∧ o.length ≤ k ∧ Els pgE 2 w1 A o ∧ ∀ a, A = some a → a.block ∈ R ∧ a.block ∉ sb :: lb :: mb :: lp :: F
 ap1 : sb ≠ lb
 ap2 : sb ∉ rp :: mb :: lp :: F
 ap3 : lb ∉ rp :: mb :: lp :: F
 inR : ∀ i ∈ sb :: lb :: rp :: mb :: lp :: F, i ∈ R
 new : ∀ i ∈ R, w.heap.size ≤ i ∧ i < w1.heap.size
 len : s.firm.length = 41 + σ.N
 ok : σ.Ok c
 few : c ≤ 1000000
def SrvM (w w1 : World) (R : List Nat) (sb p : Nat) (σ : Sv) (s : St) (n : Nat) (f : Bool) (c : Nat) : Prop := ∃ rp mb lp lb F vs D, SrvAt w w1 R sb p σ s n f c rp mb lp lb F vs D
section
variable {w w1 w2 : World} {R : List Nat} {sb p n c rp mb lp lb : Nat} {σ : Sv} {s : St} {f : Bool} {F : List Nat} {vs : Nat → Value} {D : DataW Value}
theorem SrvAt.beside {S : List Nat} (h : SrvAt w w1 R sb p σ s n f c rp mb lp lb F vs D) (k : Only S w1 w2) (hw : Only [] w w2) (hS : ∀ i ∈ S, i ∉ R) : SrvAt w w2 R sb p σ s n f c rp mb lp lb F vs D := by
 have hin : ∀ i, i ∈ sb :: lb :: rp :: mb :: lp :: F → i ∉ S := fun i hi hm => hS i hm (h.inR i hi)
 have hmem : ∀ i ∈ rp :: mb :: lp :: F, i ∈ sb :: lb :: rp :: mb :: lp :: F := fun i hi => List.mem_cons_of_mem _ (List.mem_cons_of_mem _ hi)
 have h5 := h.own
 refine ⟨⟨h5.own.beside k hw (fun i hi hm => hin i (hmem i (List.mem_cons_of_mem _ (List.mem_cons_of_mem _ hm))) hi), h5.rows.kept k (hin rp (by simp)) (hin mb (by simp)), h5.ne1, h5.ne2, h5.ne3, h5.out1, h5.out2, h5.old1, h5.old2⟩,
  h.hdr.kept k (hin sb (by simp)), h.loose.kept k (hin lb (by simp)), fun x o hx => ?_, h.ap1, h.ap2, h.ap3, h.inR, fun i hi => ⟨(h.new i hi).1, Nat.lt_of_lt_of_le (h.new i hi).2 k.size⟩, h.len, h.ok, h.few⟩
 obtain ⟨A, j, e1, e2, e3, e4⟩ := h.lists x o hx
 exact ⟨A, j, e1, e2, e3.kept k (fun a ha hm => hS _ hm (e4 a ha).1), e4⟩
theorem SrvAt.only (h : SrvAt w w1 R sb p σ s n f c rp mb lp lb F vs D) : Only [] w w1 := h.own.own.only
theorem SrvAt.keep (h : SrvAt w w1 R sb p σ s n f c rp mb lp lb F vs D) (k : Only [] w1 w2) : SrvAt w w2 R sb p σ s n f c rp mb lp lb F vs D := h.beside k (h.only.trans k) (by simp)
theorem SrvM.beside {S : List Nat} (h : SrvM w w1 R sb p σ s n f c) (k : Only S w1 w2) (hw : Only [] w w2) (hS : ∀ i ∈ S, i ∉ R) : SrvM w w2 R sb p σ s n f c := by
 obtain ⟨rp, mb, lp, lb, F, vs, D, h⟩ := h
 exact ⟨rp, mb, lp, lb, F, vs, D, h.beside k hw hS⟩
theorem SrvM.keep (h : SrvM w w1 R sb p σ s n f c) (k : Only [] w1 w2) : SrvM w w2 R sb p σ s n f c := by
 obtain ⟨rp, mb, lp, lb, F, vs, D, h⟩ := h
 exact ⟨rp, mb, lp, lb, F, vs, D, h.keep k⟩
theorem SrvM.only (h : SrvM w w1 R sb p σ s n f c) : Only [] w w1 := by
 obtain ⟨rp, mb, lp, lb, F, vs, D, h⟩ := h
 exact h.only
theorem SrvM.ok (h : SrvM w w1 R sb p σ s n f c) : σ.Ok c := by
 obtain ⟨rp, mb, lp, lb, F, vs, D, h⟩ := h
 exact h.ok
theorem SrvM.new (h : SrvM w w1 R sb p σ s n f c) : ∀ i ∈ R, w.heap.size ≤ i ∧ i < w1.heap.size := by
 obtain ⟨rp, mb, lp, lb, F, vs, D, h⟩ := h
 exact h.new
theorem SrvAt.cells (h : SrvAt w w1 R sb p σ s n f c rp mb lp lb F vs D) : w1.cell? ⟨sb, 0, none⟩ = some (.int .i64 σ.me) ∧ w1.cell? ⟨sb, 1, none⟩ = some (.int .u32 σ.boot) ∧ w1.cell? ⟨sb, 2, none⟩ = some (.bool σ.up) ∧ w1.cell? ⟨sb, 3, none⟩ = some (.pointer (some ⟨rp, 0, none⟩)) ∧ w1.cell? ⟨sb, 4, none⟩ = some (.map (some lb)) := by
 have e := h.hdr.cell
 refine ⟨(e 0).trans ?_, (e 1).trans ?_, (e 2).trans ?_, (e 3).trans ?_, (e 4).trans ?_⟩ <;> simp [srvCs]
theorem SrvAt.val (h : SrvAt w w1 R sb p σ s n f c rp mb lp lb F vs D) (k : List UInt8) : (valL σ.M k).length ≤ 200 := by
 unfold valL
 split
 ·rename_i r hr
  exact (h.ok.good.small r (findR_mem hr).1).2.2
 ·simp
theorem SrvAt.rowsFew (h : SrvAt w w1 R sb p σ s n f c rp mb lp lb F vs D) : σ.M.length ≤ 983 := Nat.le_trans h.ok.good.length h.ok.few
end
end Go.Proofs.YtmelaiefbpdifaaGreatDoor.Srv
