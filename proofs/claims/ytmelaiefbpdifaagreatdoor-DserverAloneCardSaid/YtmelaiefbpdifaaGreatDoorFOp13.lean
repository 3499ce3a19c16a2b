/- What is asked, as a struct in a packet: loaded and stored as one value; whether it comes in its file's epoch. -/
import Derived.Test.YtmelaiefbpdifaaGreatDoorFSt13
namespace Go.Proofs.YtmelaiefbpdifaaGreatDoor.Srv
open Go.RowKit Go.Maps
open Pgs (Pg pgE keyB headB find)
abbrev opL (p : Pk) : List Value := [.int .i64 p.code, .int .i64 p.err, .int .u32 p.file, .int .u32 p.epoch, .int .u32 p.off, .int .u32 p.len, .int .u32 p.size, .int .u32 p.mode, .int .u32 p.deny, .int .u32 p.handle, .string p.path, .string p.other, .string p.data]
abbrev opV (p : Pk) : Value := .agg (opL p).toArray
abbrev zeroOp : Array Value := #[.int .i64 0, .int .i64 0, .int .u32 0, .int .u32 0, .int .u32 0, .int .u32 0, .int .u32 0, .int .u32 0, .int .u32 0, .int .u32 0, .string ⟨#[]⟩, .string ⟨#[]⟩, .string ⟨#[]⟩]
theorem size_op : (Tryz.prog.info? 51).map (·.size) = some 13 := by kernel_rfl
theorem range_of_pk {w : World} {q : Nat} {p : Pk} (h : Blk w q 53 (pkA p)) : w.rangeAt q 7 (opL p) := fun j v hj => by
 rw [h.cell]
 have : j < 13 := by
  have := (List.getElem?_eq_some_iff.1 hj).1
  simpa using this
 match j, this, hj with
 | 0, _, hj => exact hj
 | 1, _, hj => exact hj
 | 2, _, hj => exact hj
 | 3, _, hj => exact hj
 | 4, _, hj => exact hj
 | 5, _, hj => exact hj
 | 6, _, hj => exact hj
 | 7, _, hj => exact hj
 | 8, _, hj => exact hj
 | 9, _, hj => exact hj
 | 10, _, hj => exact hj
 | 11, _, hj => exact hj
 | 12, _, hj => exact hj
section
variable {ops : Array Oper} {rest : List Oper} {o : Oper} {a : Act} {w : World} {Q : Exit → Act → World → Prop}
theorem wpList_load_op (p : Pk) (hw : Region.wanted o (yielded ops a.tmps) = true) (x : Operand) (ho : o.op = .load 51 x) (q : Nat) (hx : a.eval x = .pointer (some ⟨q, 7, none⟩)) (hb : Blk w q 53 (pkA p))
  (h : wpList Tryz.prog ops Q rest (a.put o.dst (opV p)) w) : wpList Tryz.prog ops Q (o :: rest) a w :=
 wpList_want hw fun _ hK => wp_load_mid 51 x ho q 7 hx (opL p) _ (range_of_pk hb) Tryz.underlying51 rfl size_op (hK _ _ h)
theorem wpList_store_op (p : Pk) (c : Array Value) (hs : c.size = 13) (hw : Region.wanted o (yielded ops a.tmps) = true) (x y : Operand) (ho : o.op = .store 51 x y) (g : Nat) (hx : a.eval x = .pointer (some ⟨g, 0, none⟩)) (hy : a.eval y = opV p) (hb : Blk w g 51 c)
  (h : ∀ w', Blk w' g 51 (opL p).toArray → Only [g] w w' → wpList Tryz.prog ops Q rest (a.put o.dst undef) w') : wpList Tryz.prog ops Q (o :: rest) a w :=
 wpList_store_blk hw 51 x y ho g _ _ hx hy hb size_op (by rw [hs]; rfl) (by simp [Value.oneCell']) h
theorem wpList_load_opB (p : Pk) (hw : Region.wanted o (yielded ops a.tmps) = true) (x : Operand) (ho : o.op = .load 51 x) (g : Nat) (hx : a.eval x = .pointer (some ⟨g, 0, none⟩)) (hb : Blk w g 51 (opL p).toArray)
  (h : wpList Tryz.prog ops Q rest (a.put o.dst (opV p)) w) : wpList Tryz.prog ops Q (o :: rest) a w :=
 wpList_load_blk hw 51 x ho g hx (opL p) _ hb Tryz.underlying51 rfl size_op h
end
structure OpB (w : World) (g : Nat) (p : Pk) : Prop where
 blk : Blk w g 51 (opL p).toArray
theorem OpB.cells {w : World} {g : Nat} {p : Pk} (h : OpB w g p) : w.cell? ⟨g, 2, none⟩ = some (.int .u32 p.file) ∧ w.cell? ⟨g, 3, none⟩ = some (.int .u32 p.epoch) ∧ w.cell? ⟨g, 4, none⟩ = some (.int .u32 p.off) ∧ w.cell? ⟨g, 5, none⟩ = some (.int .u32 p.len) ∧ w.cell? ⟨g, 6, none⟩ = some (.int .u32 p.size) ∧ w.cell? ⟨g, 12, none⟩ = some (.string p.data) :=
 ⟨(h.blk.cell 2).trans rfl, (h.blk.cell 3).trans rfl, (h.blk.cell 4).trans rfl, (h.blk.cell 5).trans rfl, (h.blk.cell 6).trans rfl, (h.blk.cell 12).trans rfl⟩
theorem OpB.kept {S : List Nat} {w w' : World} {g : Nat} {p : Pk} (h : OpB w g p) (k : Only S w w') (hg : g ∉ S) : OpB w' g p := ⟨h.blk.kept k hg⟩
theorem cur_is (M : List Rw) (x : Nat) (e : Int) : cur M x e = ((findR M (eK x)).isSome && ((numOf (valL M (eK x)) : Int) == e)) := by
 unfold cur epB epN
 rw [(get_val M (eK x)).2, (get_val M (eK x)).1]
theorem epN_is (M : List Rw) (x : Nat) : epN M x = numOf (valL M (eK x)) := by
 unfold epN
 rw [(get_val M (eK x)).1]
theorem nat_of {x : Int} (h : U x) : ∃ y : Nat, x = y ∧ y < 4294967296 ∧ x.toNat = y := by
 obtain ⟨h1, h2⟩ := h
 exact ⟨x.toNat, by omega, by omega, rfl⟩
section
variable {w w1 : World} {R : List Nat} {sb p n c rp mb lp lb : Nat} {σ : Sv} {s : St} {f : Bool} {F : List Nat} {vs : Nat → Value} {D : DataW Value}
theorem SrvAt.known (h : SrvAt w w1 R sb p σ s n f c rp mb lp lb F vs D) (x : Int) (hx : U x) :
  Calls Tryz.prog 57 #[.pointer (some ⟨sb, 0, none⟩), .int .u32 x] w1 fun e w' => e = .returned (.tuple #[.int .u32 (numOf (valL σ.M (eK x.toNat)) : Int), .bool (findR σ.M (eK x.toNat)).isSome]) ∧ Only [] w1 w' := by
 obtain ⟨y, h1, h2, h3⟩ := nat_of hx
 rw [h3]
 exact known_at w1 sb rp mb lp σ.M x y h1 h2 h.cells.2.2.2.1 h.own.rows (by have := h.val (eK y); omega)
theorem SrvAt.epoch (h : SrvAt w w1 R sb p σ s n f c rp mb lp lb F vs D) (x : Int) (hx : U x) :
  Calls Tryz.prog 18 #[.pointer (some ⟨sb, 0, none⟩), .int .u32 x] w1 fun e w' => e = .returned (.int .u32 (epN σ.M x.toNat : Int)) ∧ Only [] w1 w' := by
 obtain ⟨y, h1, h2, h3⟩ := nat_of hx
 rw [h3, epN_is]
 exact epoch_at w1 sb rp mb lp σ.M x y h1 h2 h.cells.2.2.2.1 h.own.rows (by have := h.val (eK y); omega)
set_option maxRecDepth 100000 in
set_option maxHeartbeats 2000000 in
theorem SrvAt.current (h : SrvAt w w1 R sb p σ s n f c rp mb lp lb F vs D) (q : Pk) (hq : U q.file) :
  Calls Tryz.prog 201 #[.pointer (some ⟨sb, 0, none⟩), opV q] w1 fun e w' => e = .returned (.bool (cur σ.M q.file.toNat q.epoch)) ∧ Only [] w1 w' := by
 have hk := fun W (k : Only [] w1 W) => (h.keep k).known q.file hq
 rw [cur_is]
 clear h
 generalize (findR σ.M (eK q.file.toNat)).isSome = b at *
 generalize (numOf (valL σ.M (eK q.file.toNat)) : Int) = y at *
 have k0 : Only [] w1 (w1.alloc (.cells (opL q).toArray 51)) := (Only.refl [] w1).alloc _
 have b0 : OpB (w1.alloc (.cells (opL q).toArray 51)) w1.heap.size q := ⟨Blk.new w1 _ _⟩
 have hc := hk _ k0
 replace hc := Lib.hid hc
 replace k0 := Lib.hid k0
 clear hk
 obtain ⟨c2, c3, _⟩ := b0.cells
 go_enter Tryz.func201, Tryz.ntmps201
 go_wp2_with fail
 refine hc.out.mono ?_; rintro e w2 ⟨rfl, k2⟩
 have c32 := k2.cell c3 (by simp)
 have kend := k0.out.trans k2
 replace kend := Lib.hid kend
 clear b0 c2 c3 k2
 cases b with
 | false =>
  go_wp2
  go_ret
  exact ⟨rfl, kend.out⟩
 | true =>
  go_wp2
  go_ret
  exact ⟨by simp, kend.out⟩
end
end Go.Proofs.YtmelaiefbpdifaaGreatDoor.Srv
