/- Strings cut, compared; lists of structs opened; a whole row stored; changes: of no program but for the changes' own layout. -/
import Derived.Test.YtchlcmgdfbabdaaDoorMine
import Derived.Deep.Slices
import Derived.Deep.Fields
import Derived.ProofKit
import Derived.Deep.WholeRow
import Derived.Deep.MidRow
import Derived.Laws.BitsAllLaws
import Derived.Lib.BufferWrite
import Derived.Lib.Hide
import Derived.Deep.RegionHeld3
import Derived.Deep.AppendLies
import Derived.Laws.CopyRow
import Derived.StillTailTactics
import Derived.Test.YtchlcmgdfbabdaaDoorChecked
namespace Go.Proofs.YtchlcmgdfbabdaaDoor
open Go.RowKit Go.WideShapes Go.ChangeShapes Go.Deep

theorem strOf_inj {a b : List UInt8} (h : strOf a = strOf b) : a = b := by
  have := congrArg (fun s : ByteArray => s.data.toList) h
  simpa [strOf] using this

theorem beq_toList (a b : List UInt8) : ((strOf a).toList == (strOf b).toList) = (a == b) := by
  rw [show (strOf a).toList = a from ByteArray.toList_mk _, show (strOf b).toList = b from ByteArray.toList_mk _]

theorem str_ne {a b : List UInt8} (h : ¬ strOf a = strOf b) : ((strOf a).toList == (strOf b).toList) = false := by
  rw [beq_toList, beq_eq_false_iff_ne]
  exact fun e => h (by rw [e])
theorem index_strOf {P : Program} (t : TypeId) (ht : P.underlying t = some .string) (bs : List UInt8) (i : Nat) (x : Int) (k : IntKind) (hx : x = i) (h : i < bs.length) :
    ∀ W : World, (Instr.index t (.string (strOf bs)) (.int k x)).run P W = .ok (.int .u8 (((bs.getD i 0).toNat : Nat) : Int)) W := by
  intro W
  subst hx
  have hs := strOf_size bs
  rw [run_index_string W t _ k _ ht, dif_pos ⟨by omega, by omega⟩]
  rw [List.getD_eq_getElem?_getD, List.getElem?_eq_getElem h]
  rfl
theorem from_strOf {P : Program} (t : TypeId) (ht : P.underlying t = some .string) (bs : List UInt8) (i : Nat) (x : Int) (k : IntKind) (hx : x = i) (h : i ≤ bs.length) :
    ∀ W : World, (Instr.slice t (.string (strOf bs)) (some (.int k x)) none none).run P W = .ok (.string (strOf (bs.drop i))) W := by
  intro W
  subst hx
  have hs := strOf_size bs
  rw [run_slice_string_from_if W t _ k _ ht, if_pos ⟨by omega, by omega⟩, hs]
  congr 2
  show (ByteArray.mk bs.toArray).extract _ _ = _
  rw [ByteArray.extract_mk, Int.toNat_natCast, List.take_of_length_le (by simp)]
  rfl

theorem upto_strOf {P : Program} (t : TypeId) (ht : P.underlying t = some .string) (bs : List UInt8) (j : Nat) (y : Int) (k : IntKind) (hy : y = j) (h : j ≤ bs.length) :
    ∀ W : World, (Instr.slice t (.string (strOf bs)) none (some (.int k y)) none).run P W = .ok (.string (strOf (bs.take j))) W := by
  intro W
  subst hy
  have hs := strOf_size bs
  rw [run_slice_string_to_if W t _ k _ ht, if_pos ⟨by omega, by omega⟩]
  congr 2
  show (ByteArray.mk bs.toArray).extract _ _ = _
  rw [ByteArray.extract_mk, Int.toNat_natCast]
  simp [strOf]

section
variable {H : Type} {enc : TypeId × Value → H} {P : Program} {w : World} {base : Nat} {spare : Nat → Bool} {held : Bool}

theorem addr_plain {a : Addr} {v : Value} (h : w.cell? a = some v) : a = ⟨a.block, a.off, none⟩ := by
  obtain ⟨b, o, s⟩ := a
  cases s with
  | none => rfl
  | some x =>
    unfold World.cell? at h
    split at h
    · simp at h
    · cases h

/-- A slice of structs of one-cell fields: nil, or each element's cells, and each cell's reading. -/
theorem open_structs {t e : TypeId} {fs : Array Field} {fuel : Nat} {cs : List Value} {x : DataW H × List MemPlace} (ht : P.underlying t = some (.slice e)) (he : P.underlying e = some (.struct fs))
    (hone : oneCellFields P fs = true) (hC : P.cellsOf e = fs.size) (hpos : 0 < fs.size) (h : DataW.trod enc P w base spare held fuel t cs = some x) :
    cs = [.slice none 0 0] ∨ ∃ (A : Option Addr) (len cap : Nat), cs = [.slice A len cap] ∧ (len ≤ maxLen ∧ len ≤ cap) ∧
      (len = 0 ∨ ∃ g o, A = some ⟨g, o, none⟩ ∧ g < w.heap.size ∧ ∀ i, i < len → ∀ (j : Nat) (f : Field), fs[j]? = some f →
        ∃ (n : Nat) (v : Value) (y : DataW H × List MemPlace), w.cell? ⟨g, o + i * fs.size + j, none⟩ = some v ∧ DataW.trod enc P w base spare held n f.type [v] = some y) := by
  rcases open_slice ht h with h0 | ⟨a, len, cap, m, n, D, Pl, hcs, hb, hl, hm, hmm, _, hi⟩
  · exact .inl h0.1
  right
  refine ⟨some a, len, cap, hcs, ⟨by omega, hl⟩, ?_⟩
  by_cases hz : len = 0
  · exact .inl hz
  right
  have hlm : ∀ i, i < len → i < m := fun i hi' => by rw [hmm]; split <;> omega
  have cell0 : ∃ v, w.cell? a = some v := by
    obtain ⟨cs', hc, _⟩ := hi 0 (hlm 0 (by omega))
    obtain ⟨_, hcl, hat⟩ := World.cells?_some hc
    have := hat 0 (by omega)
    rw [Nat.zero_mul] at this
    have hadd : (a.add 0).add 0 = a := by simp [Addr.add]
    rw [hadd] at this
    exact ⟨_, this.trans (List.getElem?_eq_getElem (by omega))⟩
  obtain ⟨v0, hv0⟩ := cell0
  have hap := addr_plain hv0
  refine ⟨a.block, a.off, by rw [← hap], World.block_lt_of_cell? w a hv0, fun i hil j f hj => ?_⟩
  obtain ⟨cs', hc, ht'⟩ := hi i (hlm i hil)
  obtain ⟨ys, n', _, _, hlen', hyl, hf⟩ := DataW.trod_struct he ht'
  obtain ⟨_, hcl, hat⟩ := World.cells?_some hc
  obtain ⟨ho, hk⟩ := hone_of hone j f hj
  have hjl : j < fs.size := (Array.getElem?_eq_some_iff.1 hj).1
  have hcell := hat j (by omega)
  have hcj : j < cs'.length := by omega
  have h1 := hf j f hj
  rw [ho, hk, List.drop_eq_getElem_cons hcj] at h1
  refine ⟨n', cs'[j], ys[j]'(by omega), ?_, ?_⟩
  · rw [hap, addr_add, hC, addr_add, List.getElem?_eq_getElem hcj] at hcell
    exact hcell
  · rw [List.getElem?_eq_getElem (by omega)] at h1
    exact h1

end

def Says (P : Prop) (e : Ending) : Prop := ∃ r : Bool, e = .returned (.bool r) ∧ (r = true ↔ P)
theorem Says.no {P : Prop} (h : ¬ P) : Says P (.returned (.bool false)) := ⟨false, rfl, by simp [h]⟩
theorem Says.yes {P : Prop} (h : P) : Says P (.returned (.bool true)) := ⟨true, rfl, by simp [h]⟩

theorem results_cell {fn : Func} {p : Tmp} {ty : TypeId} (h : fn.results = #[.cell p ty]) (tmps : Array Value) (P : Program) (w : World) :
    (results fn tmps).run P w = ((asAddr (tmps.getD p undef)).run P w).andThen fun a w₁ => (loadVar ty a).run P w₁ := by
  simp only [results, h]
  simp [Sem.run_bind, Result.andThen]

theorem Only.setRow {S : List Nat} {a w : World} (h : Only S a w) {g : Nat} (hg : g ∈ S ∨ a.heap.size ≤ g) (cs : Array Value) : Only S a (w.setRow g cs) :=
  ⟨h.os, h.tape, h.output, by simpa [World.setRow] using h.size, fun i hi hn => (setRow_other w g i cs (by
    rintro rfl
    rcases hg with hg | hg
    · exact hn hg
    · omega)).trans (h.block i hi hn)⟩

/-- A whole value goes into its own block. -/
theorem wpList_store_whole {P : Program} {ops : Array Oper} {rest : List Oper} {op : Oper} {a : Act} {w : World} {Q : Exit → Act → World → Prop} (hgd : op.guard = none) (ty : TypeId) (x y : Operand) (ho : op.op = .store ty x y)
    (g : Nat) (c c' : Array Value) (hx : a.eval x = .pointer (some ⟨g, 0, none⟩)) (hy : a.eval y = .agg c') (hb : Blk w g ty c) (hi : (P.info? ty).map (·.size) = some c'.size) (hs : c.size = c'.size) (h1 : c'.all (·.oneCell') = true)
    (h : ∀ w', Blk w' g ty c' → Only [g] w w' → wpList P ops Q rest (a.put op.dst undef) w') : wpList P ops Q (op :: rest) a w := by
  refine wpList_plain hgd fun K hK => ?_
  have hrun := run_storeVar_row (P := P) w g ty ty c c' hb hi hs h1
  unfold Oper.wp execOp
  simp only [ho, hx, hy, Instr.storeAt, Instr.sureAddr, Sem.run_bind, Sem.run_pure, Result.andThen_ok, hrun]
  exact hK _ _ (h _ (setRow_heap w g c c' ty _ hb) ((Only.refl [g] w).setRow (.inl (by simp)) _))

theorem byteCells_byteVs (l : List UInt8) : Lib.byteCells l = byteVs l := rfl

section
variable {P : Program}
/-! The moves of a walk through a region that draws its order, an operation found in the region's list: so it stands written out. -/
theorem held_take {ops : Array Oper} {Q : Exit → Act → World → Prop} {md : Region.Mode} {S : World → Prop} {fuel : Nat} {listed : Array Bool} {a : Act} {w : World} (i : Nat) {oi : Oper} (v : Value) (hi : ops.toList[i]? = some oi)
    (hs : Region.noSelect ops = true) (hf : Region.free md ops listed i = true) (hr : (Region.ready md ops listed).contains i = true)
    (hQ : ∀ c a w, Q (.panic c) (a.put oi.dst v) w → Q (.panic c) a w) (hS : S w) (hy : YieldsIf P ops S oi v a)
    (h : wpAnyH P md ops Q S fuel (listed.setIfInBounds i true) (a.put oi.dst v) w) : wpAnyH P md ops Q S (fuel + 1) listed a w :=
  wpAnyH_take (by simpa using hi) hs hf hr hQ hy hS h
theorem held_step {ops : Array Oper} {Q : Exit → Act → World → Prop} {md : Region.Mode} {S : World → Prop} {fuel : Nat} {listed : Array Bool} {a : Act} {w : World} (i : Nat) {oi : Oper} (hi : ops.toList[i]? = some oi)
    (hr : Region.ready md ops listed = [i])
    (h : ∀ K' : Act → World → Prop, Shut (∀ a w, S w → (S w → wpAnyH P md ops Q S fuel (listed.setIfInBounds i true) a w) → K' a w) → if Region.wanted oi (yielded ops a.tmps) = true then Oper.wp P oi a w K' Q else K' (a.put oi.dst undef) w) :
    wpAnyH P md ops Q S (fuel + 1) listed a w :=
  wpAnyH_ready hr (by simp) (AllReadyH.cons (by simpa using hi) h AllReadyH.nil)
theorem held_step2 {ops : Array Oper} {Q : Exit → Act → World → Prop} {md : Region.Mode} {S : World → Prop} {fuel : Nat} {listed : Array Bool} {a : Act} {w : World} (i j : Nat) {oi oj : Oper} (hi : ops.toList[i]? = some oi) (hj : ops.toList[j]? = some oj)
    (hr : Region.ready md ops listed = [i, j])
    (h : ∀ K' : Act → World → Prop, Shut (∀ a w, S w → (S w → wpAnyH P md ops Q S fuel (listed.setIfInBounds i true) a w) → K' a w) → if Region.wanted oi (yielded ops a.tmps) = true then Oper.wp P oi a w K' Q else K' (a.put oi.dst undef) w)
    (h' : ∀ K' : Act → World → Prop, Shut (∀ a w, S w → (S w → wpAnyH P md ops Q S fuel (listed.setIfInBounds j true) a w) → K' a w) → if Region.wanted oj (yielded ops a.tmps) = true then Oper.wp P oj a w K' Q else K' (a.put oj.dst undef) w) :
    wpAnyH P md ops Q S (fuel + 1) listed a w :=
  wpAnyH_ready hr (by simp) (AllReadyH.cons (by simpa using hi) h (AllReadyH.cons (by simpa using hj) h' AllReadyH.nil))
end
theorem held_more {P : Program} {ops : Array Oper} {Q : Exit → Act → World → Prop} {md : Region.Mode} {S S' : World → Prop} (hS : ∀ w, S' w → S w) : ∀ (fuel : Nat) (listed : Array Bool) (a : Act) (w : World), wpAnyH P md ops Q S' fuel listed a w → wpAnyH P md ops Q S fuel listed a w
  | 0, _, _, _, h => h
  | fuel + 1, _, _, _, h => ⟨h.1, fun i hi => wpOp_mono (fun a' w' h' => ⟨hS _ h'.1, held_more hS fuel _ a' w' h'.2⟩) (h.2 i hi)⟩

structure Ch where
  key : List UInt8
  val : List UInt8
  gone : Bool
instance : Inhabited Ch := ⟨⟨[], [], false⟩⟩
def chE (c : Ch) : List Value := [.string (strOf c.key), .string (strOf c.val), .bool c.gone]
theorem chE_length (c : Ch) : (chE c).length = 3 := rfl
theorem chE_one (c : Ch) : ∀ v ∈ chE c, v.oneCell' = true := by
  intro v hv
  simp [chE] at hv
  rcases hv with rfl | rfl | rfl <;> rfl
theorem info_ch : (Tryd.prog.info? 69).map (fun i => (i.zero, i.size, i.bytes)) = some (some (.agg #[.string ⟨#[]⟩, .string ⟨#[]⟩, .bool false]), 3, 40) := by kernel_rfl
theorem chs_at {w : World} {g o : Nat} {l : List Ch} (h : ElsAt chE 3 w g o l) {i : Nat} (hi : i < l.length) : w.cell? ⟨g, o + i * 3, none⟩ = some (.string (strOf l[i].key)) ∧ w.cell? ⟨g, o + i * 3 + 1, none⟩ = some (.string (strOf l[i].val)) ∧ w.cell? ⟨g, o + i * 3 + 2, none⟩ = some (.bool l[i].gone) :=
  ⟨by simpa using h i hi 0 _ rfl, h i hi 1 _ rfl, h i hi 2 _ rfl⟩


end Go.Proofs.YtchlcmgdfbabdaaDoor
