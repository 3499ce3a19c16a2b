/- Lists of blocks that are to be changed: opened to what lies in memory; whether they may be. -/
import Derived.Test.YtihoebmfanelkaaNum
import Derived.Deep.Slices
import Derived.Deep.Fields
import Derived.ProofKit
namespace Go.Proofs.Ytihoebmfanelkaa
open Go.RowKit Go.WideShapes Go.ChangeShapes Go.Deep

section
variable {H : Type} {enc : TypeId × Value → H} {P : Program} {w : World} {base : Nat} {spare : Nat → Bool} {held : Bool}

theorem addr_plain {a : Addr} {v : Value} (h : w.cell? a = some v) : a = ⟨a.block, a.off, none⟩ := by
  obtain ⟨b, o, s⟩ := a
  cases s with
  | none => rfl
  | some x =>
    unfold World.cell? at h
    split at h
    · simp at h
    · cases h

/-- A slice of structs of one-cell fields: nil, or each element's cells, and each cell's reading. -/
theorem open_structs {t e : TypeId} {fs : Array Field} {fuel : Nat} {cs : List Value} {x : DataW H × List MemPlace} (ht : P.underlying t = some (.slice e)) (he : P.underlying e = some (.struct fs))
    (hone : oneCellFields P fs = true) (hC : P.cellsOf e = fs.size) (hpos : 0 < fs.size) (h : DataW.trod enc P w base spare held fuel t cs = some x) :
    cs = [.slice none 0 0] ∨ ∃ (A : Option Addr) (len cap : Nat), cs = [.slice A len cap] ∧ (len ≤ maxLen ∧ len ≤ cap) ∧
      (len = 0 ∨ ∃ g o, A = some ⟨g, o, none⟩ ∧ g < w.heap.size ∧ ∀ i, i < len → ∀ (j : Nat) (f : Field), fs[j]? = some f →
        ∃ (n : Nat) (v : Value) (y : DataW H × List MemPlace), w.cell? ⟨g, o + i * fs.size + j, none⟩ = some v ∧ DataW.trod enc P w base spare held n f.type [v] = some y) := by
  rcases open_slice ht h with h0 | ⟨a, len, cap, m, n, D, Pl, hcs, hb, hl, hm, hmm, _, hi⟩
  · exact .inl h0.1
  right
  refine ⟨some a, len, cap, hcs, ⟨by omega, hl⟩, ?_⟩
  by_cases hz : len = 0
  · exact .inl hz
  right
  have hlm : ∀ i, i < len → i < m := fun i hi' => by rw [hmm]; split <;> omega
  have cell0 : ∃ v, w.cell? a = some v := by
    obtain ⟨cs', hc, _⟩ := hi 0 (hlm 0 (by omega))
    obtain ⟨_, hcl, hat⟩ := World.cells?_some hc
    have := hat 0 (by omega)
    rw [Nat.zero_mul] at this
    have hadd : (a.add 0).add 0 = a := by simp [Addr.add]
    rw [hadd] at this
    exact ⟨_, this.trans (List.getElem?_eq_getElem (by omega))⟩
  obtain ⟨v0, hv0⟩ := cell0
  have hap := addr_plain hv0
  refine ⟨a.block, a.off, by rw [← hap], World.block_lt_of_cell? w a hv0, fun i hil j f hj => ?_⟩
  obtain ⟨cs', hc, ht'⟩ := hi i (hlm i hil)
  obtain ⟨ys, n', _, _, hlen', hyl, hf⟩ := DataW.trod_struct he ht'
  obtain ⟨_, hcl, hat⟩ := World.cells?_some hc
  obtain ⟨ho, hk⟩ := hone_of hone j f hj
  have hjl : j < fs.size := (Array.getElem?_eq_some_iff.1 hj).1
  have hcell := hat j (by omega)
  have hcj : j < cs'.length := by omega
  have h1 := hf j f hj
  rw [ho, hk, List.drop_eq_getElem_cons hcj] at h1
  refine ⟨n', cs'[j], ys[j]'(by omega), ?_, ?_⟩
  · rw [hap, addr_add, hC, addr_add, List.getElem?_eq_getElem hcj] at hcell
    exact hcell
  · rw [List.getElem?_eq_getElem (by omega)] at h1
    exact h1

end

/-- A block that is to be changed: which, and what it is to have. -/
structure Bk where
  at_ : Int
  data : List UInt8
def Bk.okay (x : Bk) : Prop := (-9223372036854775808 ≤ x.at_ ∧ x.at_ ≤ 9223372036854775807) ∧ x.data.length ≤ 9223372036854775807

def BlksAt (w : World) (g o : Nat) (l : List Bk) : Prop := ∀ i (h : i < l.length), w.cell? ⟨g, o + i * 2, none⟩ = some (.int .i64 l[i].at_) ∧ w.cell? ⟨g, o + i * 2 + 1, none⟩ = some (.string (strOf l[i].data))
/-- The blocks that a slice of address A holds. -/
def Blks (w : World) (A : Option Addr) (l : List Bk) : Prop := (l = [] ∨ ∃ g o, A = some ⟨g, o, none⟩ ∧ g < w.heap.size ∧ BlksAt w g o l) ∧ ∀ x ∈ l, x.okay

theorem Blks.kept {S : List Nat} {w w' : World} {A : Option Addr} {l : List Bk} (h : Blks w A l) (k : Only S w w') (hA : ∀ a, A = some a → a.block ∉ S) : Blks w' A l := by
  refine ⟨h.1.imp id ?_, h.2⟩
  rintro ⟨g, o, rfl, hg, hc⟩
  have hS := hA _ rfl
  exact ⟨g, o, rfl, Nat.lt_of_lt_of_le hg k.size, fun i hi => ⟨k.cell (hc i hi).1 hS, k.cell (hc i hi).2 hS⟩⟩
theorem Blks.get {w : World} {A : Option Addr} {l : List Bk} (h : Blks w A l) {i : Nat} (hi : i < l.length) : ∃ g o, A = some ⟨g, o, none⟩ ∧ g < w.heap.size ∧ BlksAt w g o l := by
  rcases h.1 with rfl | h
  · simp at hi
  · exact h

section
variable {H : Type} {enc : TypeId × Value → H} {w : World}
set_option maxRecDepth 100000 in
theorem open_blks' {v : Value} {fuel : Nat} {x : DataW H × List MemPlace} (h : DataW.trod enc Try.prog w 0 (fun _ => true) true fuel 37 [v] = some x) : ∃ (A : Option Addr) (c : Nat) (l : List Bk), v = .slice A (List.length l) c ∧ Blks w A l ∧ l.length ≤ 9223372036854775807 ∧ l.length ≤ c := by
  rcases open_structs Try.underlying37 Try.underlying64 (by kernel_rfl) (by kernel_rfl) (by decide) h with h0 | ⟨A, len, cap, hcs, ⟨hm, hcap⟩, hz⟩
  · injection h0 with h0 _
    exact ⟨none, 0, [], h0, ⟨.inl rfl, by simp⟩, by simp, by simp⟩
  · injection hcs with hcs _
    subst hcs
    have hm' : len ≤ 9223372036854775807 := by simp only [maxLen] at hm; omega
    rcases hz with rfl | ⟨g, o, rfl, hg, hall⟩
    · exact ⟨A, cap, [], rfl, ⟨.inl rfl, by simp⟩, by simp, by simp⟩
    have each : ∀ i, i < len → ∃ x : Bk, (w.cell? ⟨g, o + i * 2, none⟩ = some (.int .i64 x.at_) ∧ w.cell? ⟨g, o + i * 2 + 1, none⟩ = some (.string (strOf x.data))) ∧ x.okay := by
      intro i hi
      obtain ⟨n0, v0, y0, k0, t0⟩ := hall i hi 0 _ rfl
      obtain ⟨n1, v1, y1, k1, t1⟩ := hall i hi 1 _ rfl
      obtain ⟨a0, e0, _, w0⟩ := DataW.trod_int Try.underlying3 t0
      obtain ⟨s, e1, _, hs⟩ := DataW.trod_string Try.underlying9 t1
      injection e0 with e0 _; injection e1 with e1 _
      subst e0; subst e1
      have r0 := i64_range w0
      refine ⟨⟨a0, s.data.toList⟩, ⟨by simpa using k0, ?_⟩, r0, ?_⟩
      · simp only [strOf_toList]
        simpa using k1
      · simp only [maxLen] at hs
        have : s.data.toList.length = s.size := by rw [Array.length_toList]; rfl
        simp only [this]
        omega
    haveI : Inhabited Bk := ⟨⟨0, []⟩⟩
    obtain ⟨f, hf'⟩ := choose_lt each
    refine ⟨_, cap, (List.range len).map f, by simp, ⟨.inr ⟨g, o, rfl, hg, fun j hj => ?_⟩, ?_⟩, by rw [List.length_map, List.length_range]; exact hm', by rw [List.length_map, List.length_range]; exact hcap⟩
    · have e : ((List.range len).map f)[j] = f j := by simp
      rw [e]
      exact (hf' j (by simpa using hj)).1
    · intro x hx
      simp only [List.mem_map, List.mem_range] at hx
      obtain ⟨i, hi, rfl⟩ := hx
      exact (hf' i hi).2
set_option maxRecDepth 100000 in
/-- A list of blocks that comes in. -/
theorem open_blks {v : Value} {d : DataW H} {ps : List MemPlace} {r : Reach} {b0 : Nat} (hv : Value.okWide Try.prog w r b0 37 v) (h : DataW.Trod enc Try.prog w 0 (fun _ => true) true 37 v d ps) :
    ∃ A c l, v = .slice A (List.length l) c ∧ Blks w A l ∧ l.length ≤ 9223372036854775807 ∧ l.length ≤ c := by
  obtain ⟨A, len, cap, rfl⟩ := okWide_slice Try.underlying37 hv
  obtain ⟨fuel, hf⟩ := h
  exact open_blks' (by simpa [Value.cells] using hf)
end

/-! Which blocks may be changed together. -/
def goodAt (l : List Bk) (size : Int) (i : Nat) : Prop := ∀ x, l[i]? = some x → 0 ≤ x.at_ ∧ x.at_ < size ∧ x.data.length ≤ 248 ∧ ∀ k y, k < i → l[k]? = some y → y.at_ ≠ x.at_
def RightL (l : List Bk) (size : Int) : Prop := 1 ≤ l.length ∧ l.length ≤ 40 ∧ ∀ i, i < l.length → goodAt l size i

/-- The answer is whether P. -/
def Says (P : Prop) (e : Ending) : Prop := ∃ r : Bool, e = .returned (.bool r) ∧ (r = true ↔ P)
theorem Says.no {P : Prop} (h : ¬ P) : Says P (.returned (.bool false)) := ⟨false, rfl, by simp [h]⟩
theorem Says.yes {P : Prop} (h : P) : Says P (.returned (.bool true)) := ⟨true, rfl, by simp [h]⟩

set_option maxRecDepth 100000 in
set_option maxHeartbeats 2000000 in
theorem right_any (w : World) (A : Option Addr) (c : Nat) (l : List Bk) (size : Int) (h : Blks w A l) (hl : l.length ≤ 9223372036854775807) :
    Calls Try.prog 37 #[.slice A l.length c, .int .i64 size] w fun e w' => Says (RightL l size) e ∧ Only [] w w' := by
  by_cases h1 : l.length < 1
  · have hno : Hid (¬ RightL l size) := fun h => by have := h.1; omega
    have h1' : (l.length : Int) < 1 := by omega
    go_enter Try.func37, Try.ntmps37
    go_wp2
    go_ret
    exact ⟨Says.no (show ¬ RightL l size from hno), Only.refl _ _⟩
  by_cases h2 : 40 < l.length
  · have hno : Hid (¬ RightL l size) := fun h => by have := h.2.1; omega
    have h1' : ¬ (l.length : Int) < 1 := by omega
    have h2' : (40 : Int) < (l.length : Int) := by omega
    go_enter Try.func37, Try.ntmps37
    go_wp2
    go_ret
    exact ⟨Says.no (show ¬ RightL l size from hno), Only.refl _ _⟩
  have h1' : ¬ (l.length : Int) < 1 := by omega
  have h2' : ¬ (40 : Int) < (l.length : Int) := by omega
  go_enter Try.func37, Try.ntmps37
  go_wp2_with fail
  go_loopw [5] (fun i wr => ∃ n : Nat, n ≤ l.length ∧ i = .int .i64 n ∧ (∀ j, j < n → goodAt l size j) ∧ Only [] w wr) (fun i _ => l.length - (intOf i).toNat)
  case atStart => exact ⟨0, Nat.zero_le _, rfl, by omega, Only.refl _ _⟩
  case round =>
    obtain ⟨n, hn, rfl, hgood, hk⟩ := hrel
    by_cases hlt : n < l.length
    · obtain ⟨g, o, rfl, hg, hat⟩ := h.get hlt
      have hx : l[n]? = some l[n] := List.getElem?_eq_getElem hlt
      have c0 := hk.cell (hat n hlt).1 (by simp)
      have c1 := hk.cell (hat n hlt).2 (by simp)
      have hsz : (strOf l[n].data).size = l[n].data.length := strOf_size _
      have hgx := hgood
      obtain ⟨x, hxx⟩ : ∃ x, x = l[n] := ⟨_, rfl⟩
      rw [← hxx] at hx c0 c1 hsz
      replace hxx := Lib.hid hxx
      obtain ⟨at_, data⟩ := x
      simp only at c0 c1 hsz
      generalize strOf data = s at *
      by_cases a1 : at_ < 0
      · have hno : Hid (¬ RightL l size) := fun h => by
          have := (h.2.2 n hlt _ hx).1
          simp only at this
          omega
        clear hgx hgood
        go_wp2
        go_ret
        exact ⟨Says.no (show ¬ RightL l size from hno), hk⟩
      by_cases a2 : size ≤ at_
      · have hno : Hid (¬ RightL l size) := fun h => by
          have := (h.2.2 n hlt _ hx).2.1
          simp only at this
          omega
        clear hgx hgood
        go_wp2
        go_ret
        exact ⟨Says.no (show ¬ RightL l size from hno), hk⟩
      by_cases a3 : 248 < data.length
      · have hno : Hid (¬ RightL l size) := fun h => by
          have := (h.2.2 n hlt _ hx).2.2.1
          simp only at this
          omega
        have a3' : (248 : Int) < (s.size : Int) := by omega
        clear hgx hgood
        go_wp2
        go_ret
        exact ⟨Says.no (show ¬ RightL l size from hno), hk⟩
      have a3' : ¬ (248 : Int) < (s.size : Int) := by omega
      replace hsz := Lib.hid hsz
      replace hgood := Lib.hid hgood
      clear hgx
      go_wp2_with fail
      go_loopw [6] (fun i wr => ∃ m : Nat, m ≤ n ∧ i = .int .i64 m ∧ (∀ k y, k < m → l[k]? = some y → y.at_ ≠ at_) ∧ Only [] w wr) (fun i _ => n - (intOf i).toNat)
      case atStart => exact ⟨0, Nat.zero_le _, rfl, by omega, hk⟩
      case round =>
        clear hk c0 c1
        obtain ⟨m, hm, rfl, hdiff, hk⟩ := hrel
        by_cases hlt2 : m < n
        · have hml : m < l.length := by omega
          have hy : l[m]? = some l[m] := List.getElem?_eq_getElem hml
          have c0 := hk.cell (hat m hml).1 (by simp)
          have d0 := hk.cell (hat n hlt).1 (by simp)
          rw [← hxx.out] at d0
          simp only at d0
          generalize l[m] = y at *
          obtain ⟨aty, dy⟩ := y
          simp only at c0
          by_cases e : aty = at_
          · have hno : Hid (¬ RightL l size) := fun h => (h.2.2 n hlt _ hx).2.2.2 m _ hlt2 hy e
            subst e
            clear hdiff
            go_wp2
            go_quiet (fail)
            go_wp2
            go_ret
            exact ⟨Says.no (show ¬ RightL l size from hno), hk.drewN _⟩
          · have hdiff2 : Hid (∀ k y, k < m + 1 → l[k]? = some y → y.at_ ≠ at_) := fun k y hkm hky => by
              by_cases hkk : k = m
              · subst hkk
                rw [hy] at hky
                injection hky with hky
                subst hky
                exact e
              · exact hdiff k y (by omega) hky
            clear hdiff
            go_wp2
            go_quiet (fail)
            go_wp2
            go_roundw
            case rel => exact ⟨m + 1, by omega, by go_num, hdiff2, hk.drewN _⟩
            case measure => simp [intOf]; omega
        · have hmn : m = n := by omega
          subst hmn
          have hgood2 : Hid (∀ j, j < m + 1 → goodAt l size j) := fun j hj => by
            by_cases hjm : j = m
            · subst hjm
              intro z hz
              rw [hx] at hz
              injection hz with hz
              subst hz
              exact ⟨by simp only; omega, by simp only; omega, by simp only; omega, hdiff⟩
            · exact hgood.out j (by omega)
          clear hdiff
          go_wp2
          go_roundw
          case rel => exact ⟨m + 1, by omega, by go_num, hgood2, hk⟩
          case measure => simp [intOf]; omega
    · have hyes : Hid (RightL l size) := ⟨by omega, by omega, fun i hi => hgood i (by omega)⟩
      have hge : (l.length : Int) ≤ n := by omega
      go_wp2
      go_ret
      exact ⟨Says.yes (show RightL l size from hyes), hk⟩

end Go.Proofs.Ytihoebmfanelkaa
