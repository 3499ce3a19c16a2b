/- Lists of acts that come in: opened to what lies in memory; what a state shows. -/
import Derived.Test.YthpjkhmkjhgbkaaGreatDoorDu9
import Derived.Test.YthpjkhmkjhgbkaaGreatDoorLong5
namespace Go.Proofs.YthpjkhmkjhgbkaaGreatDoor
open Go.RowKit Go.WideShapes Go.ChangeShapes Go.Deep

/-- An act: its kind, its number, what a crash keeps, a raw block's bytes, and the blocks of a commit, where they lie. -/
structure Deed where
  kind : Int
  num : Int
  keep : Nat
  raw : List UInt8
  A : Option Addr
  c : Nat
  l : List Ch
structure Deed.okay (w : World) (x : Deed) : Prop where
  kind : -9223372036854775808 ≤ x.kind ∧ x.kind ≤ 9223372036854775807
  num : -9223372036854775808 ≤ x.num ∧ x.num ≤ 9223372036854775807
  keep : x.keep < 18446744073709551616
  raw : x.raw.length ≤ 9223372036854775807
  chs : Els chE 3 w x.A x.l
  okc : okayC x.l
  len : x.l.length ≤ 9223372036854775807
  cap : x.l.length ≤ x.c

def DeedAt (w : World) (g o : Nat) (x : Deed) : Prop :=
  w.cell? ⟨g, o, none⟩ = some (.int .i64 x.kind) ∧ w.cell? ⟨g, o + 1, none⟩ = some (.int .i64 x.num) ∧ w.cell? ⟨g, o + 2, none⟩ = some (.int .u64 (x.keep : Int)) ∧
    w.cell? ⟨g, o + 3, none⟩ = some (.string (strOf x.raw)) ∧ w.cell? ⟨g, o + 4, none⟩ = some (.slice x.A x.l.length x.c)
def Deeds (w : World) (A : Option Addr) (l : List Deed) : Prop :=
  (l = [] ∨ ∃ g o, A = some ⟨g, o, none⟩ ∧ g < w.heap.size ∧ ∀ i (h : i < l.length), DeedAt w g (o + i * 5) l[i]) ∧ ∀ x ∈ l, x.okay w
theorem Deeds.get {w : World} {A : Option Addr} {l : List Deed} (h : Deeds w A l) {i : Nat} (hi : i < l.length) : ∃ g o, A = some ⟨g, o, none⟩ ∧ g < w.heap.size ∧ DeedAt w g (o + i * 5) l[i] := by
  rcases h.1 with rfl | ⟨g, o, h1, h2, h3⟩
  · simp at hi
  · exact ⟨g, o, h1, h2, h3 i hi⟩
theorem DeedAt.kept {w w' : World} {g o : Nat} {x : Deed} (h : DeedAt w g o x) (k : Only [] w w') : DeedAt w' g o x :=
  ⟨k.cell h.1 (by simp), k.cell h.2.1 (by simp), k.cell h.2.2.1 (by simp), k.cell h.2.2.2.1 (by simp), k.cell h.2.2.2.2 (by simp)⟩
theorem Deed.okay.kept {w w' : World} {x : Deed} (h : x.okay w) (k : Only [] w w') : x.okay w' :=
  ⟨h.kind, h.num, h.keep, h.raw, h.chs.kept k (by simp), h.okc, h.len, h.cap⟩

section
variable {H : Type} {enc : TypeId × Value → H} {w : World}
set_option maxRecDepth 100000 in
/-- A list of acts that comes in. -/
theorem open_deeds {v : Value} {d : DataW H} {ps : List MemPlace} {r : Reach} {b0 : Nat} (hv : Value.okWide Tryz.prog w r b0 22 v) (h : DataW.Trod enc Tryz.prog w 0 (fun _ => true) true 22 v d ps) :
    ∃ A c l, v = .slice A (List.length l) c ∧ Deeds w A l ∧ l.length ≤ 9223372036854775807 := by
  obtain ⟨A, len, cap, rfl⟩ := okWide_slice Tryz.underlying22 hv
  obtain ⟨fuel, hf⟩ := h
  have hf' : DataW.trod enc Tryz.prog w 0 (fun _ => true) true fuel 22 [.slice A len cap] = some (d, ps) := by simpa [Value.cells] using hf
  rcases open_structs Tryz.underlying22 Tryz.underlying39 (by kernel_rfl) (by kernel_rfl) (by decide) hf' with h0 | ⟨A', len', cap', hcs, ⟨hm, hcap⟩, hz⟩
  · injection h0 with h0 _
    injection h0 with h1 h2 h3
    subst h1; subst h2; subst h3
    exact ⟨none, 0, [], rfl, ⟨.inl rfl, by simp⟩, by simp⟩
  · injection hcs with hcs _
    injection hcs with h1 h2 h3
    subst h1; subst h2; subst h3
    have hm' : len ≤ 9223372036854775807 := by simp only [maxLen] at hm; omega
    rcases hz with rfl | ⟨g, o, rfl, hg, hall⟩
    · exact ⟨A, cap, [], rfl, ⟨.inl rfl, by simp⟩, by simp⟩
    have each : ∀ i, i < len → ∃ x : Deed, DeedAt w g (o + i * 5) x ∧ x.okay w := by
      intro i hi
      obtain ⟨n0, v0, y0, k0, t0⟩ := hall i hi 0 _ rfl
      obtain ⟨n1, v1, y1, k1, t1⟩ := hall i hi 1 _ rfl
      obtain ⟨n2, v2, y2, k2, t2⟩ := hall i hi 2 _ rfl
      obtain ⟨n3, v3, y3, k3, t3⟩ := hall i hi 3 _ rfl
      obtain ⟨n4, v4, y4, k4, t4⟩ := hall i hi 4 _ rfl
      obtain ⟨a0, e0, _, w0⟩ := DataW.trod_int Tryz.underlying3 t0
      obtain ⟨a1, e1, _, w1⟩ := DataW.trod_int Tryz.underlying3 t1
      obtain ⟨a2, e2, _, w2⟩ := DataW.trod_int Tryz.underlying36 t2
      obtain ⟨s, e3, _, hs⟩ := DataW.trod_string Tryz.underlying9 t3
      obtain ⟨A4, c4, l4, rfl, hb4, ho4, hl4, hc4⟩ := open_chs' t4
      injection e0 with e0 _; injection e1 with e1 _; injection e2 with e2 _; injection e3 with e3 _
      subst e0; subst e1; subst e2; subst e3
      have r2 := u64_range w2
      obtain ⟨m2, rfl⟩ := Int.eq_ofNat_of_zero_le r2.1
      refine ⟨⟨a0, a1, m2, s.data.toList, A4, c4, l4⟩, ⟨by simpa using k0, by simpa using k1, by simpa using k2, ?_, by simpa using k4⟩, i64_range w0, i64_range w1, by simp only; omega, ?_, hb4, ho4, hl4, hc4⟩
      · simp only [strOf_toList]
        simpa using k3
      · simp only [maxLen] at hs
        have : s.data.toList.length = s.size := by rw [Array.length_toList]; rfl
        simp only [this]
        omega
    haveI : Inhabited Deed := ⟨⟨0, 0, 0, [], none, 0, []⟩⟩
    obtain ⟨f, hf'⟩ := choose_lt each
    refine ⟨_, cap, (List.range len).map f, by simp, ⟨.inr ⟨g, o, rfl, hg, fun j hj => ?_⟩, ?_⟩, by rw [List.length_map, List.length_range]; exact hm'⟩
    · have e : ((List.range len).map f)[j] = f j := by simp
      rw [e]
      exact (hf' j (by simpa using hj)).1
    · intro x hx
      simp only [List.mem_map, List.mem_range] at hx
      obtain ⟨i, hi, rfl⟩ := hx
      exact (hf' i hi).2
end

theorem Deeds.kept {w w' : World} {A : Option Addr} {l : List Deed} (h : Deeds w A l) (k : Only [] w w') : Deeds w' A l := by
  refine ⟨h.1.imp id ?_, fun x hx => (h.2 x hx).kept k⟩
  rintro ⟨g, o, rfl, hg, hat⟩
  exact ⟨g, o, rfl, Nat.lt_of_lt_of_le hg k.size, fun i hi => (hat i hi).kept k⟩

set_option maxRecDepth 100000 in
theorem duoDo_any (w w1 : World) (bp p m N k : Nat) (x : Deed) (h : Duo5 w w1 bp p m N k) (hk : k ≤ 900) (hx : x.okay w) (hraw : x.raw.length ≤ 400) :
    Calls Tryz.prog 14 #[.pointer (some ⟨bp, 0, none⟩), .agg #[.int .i64 x.kind, .int .i64 x.num, .int .u64 (x.keep : Int), .string (strOf x.raw), .slice x.A x.l.length x.c]] w1 fun e w' => e = .returned (.bool true) ∧ Duo5 w w' bp p m N (k + 1) := by
  by_cases k0 : x.kind.tmod 6 = 0
  · exact duoCom_any w w1 bp p m N k x.kind x.num x.keep x.raw x.A x.c x.l h hk hx.chs hx.okc hx.len hx.cap k0
  by_cases k1 : x.kind.tmod 6 = 1
  · exact duoFuse_any w w1 bp p m N k x.kind x.num x.keep x.raw x.A x.c x.l h hx.num k1
  by_cases k2 : x.kind.tmod 6 = 2
  · exact duoCrash_any w w1 bp p m N k x.kind x.num x.keep x.raw x.A x.c x.l h hk hx.keep k2
  by_cases k3 : x.kind.tmod 6 = 3
  · exact duoGet_any w w1 bp p m N k x.kind x.num x.keep x.raw x.A x.c x.l h (by omega) k3
  by_cases k4 : x.kind.tmod 6 = 4
  · exact duoUnder_any w w1 bp p m N k x.kind x.num x.keep x.raw x.A x.c x.l h k4
  by_cases k5 : x.kind.tmod 6 = 5
  · exact duoRaw_any w w1 bp p m N k x.kind x.num x.keep x.raw x.A x.c x.l h hk hx.num (by omega) k5
  exact duoElse_any w w1 bp p m N k x.kind x.num x.keep x.raw x.A x.c x.l h (fun i h0 h6 => by
    rcases (show i = 0 ∨ i = 1 ∨ i = 2 ∨ i = 3 ∨ i = 4 ∨ i = 5 by omega) with rfl | rfl | rfl | rfl | rfl | rfl <;> assumption)

set_option maxRecDepth 100000 in
/-- What both tell of all rows. -/
theorem duo_shows {w w1 : World} {bp p m N k : Nat} (h : Duo5 w w1 bp p m N k) : ∃ (v2 : Value) (L : List Rw) (A4 : Option Addr) (c4 : Nat), w1.cell? ⟨bp, 2, none⟩ = some v2 ∧ w1.cell? ⟨bp, 4, none⟩ = some (.slice A4 L.length c4) ∧ Els rwE 3 w1 A4 L ∧ L.length ≤ 1024 ∧ ((v2 = .pointer none) ∨ ∃ rp, v2 = .pointer (some ⟨rp, 0, none⟩)) ∧
    ∀ W, Only [] w1 W → Calls Tryz.prog 16 #[v2] W fun e w' => ∃ A c, e = .returned (.slice A (L.map chOf).length c) ∧ Els chE 3 w' A (L.map chOf) ∧ Only [] W w' := by
  cases h with
  | none F G s t core like len late =>
    obtain ⟨_, _, c2, _, c4⟩ := core.cells
    refine ⟨_, [], none, 0, c2, c4, .inl rfl, by simp, .inl rfl, fun W _ => (all_nil W).mono ?_⟩
    rintro e w' ⟨rfl, rfl⟩
    exact ⟨none, 0, rfl, .inl rfl, Only.refl _ _⟩
  | some F G s t lp xp rp mb n f M v4 core rest like len late few big good =>
    obtain ⟨_, _, c2, _, c4⟩ := core.cells
    obtain ⟨A4, c4', hv4, hel, _, _, _⟩ := rest.doc.shape rwE_length
    rw [hv4] at c4
    have hMl := good.length
    have hfew := core.dev.fine.few
    refine ⟨_, M, A4, c4', c2, c4, hel, by omega, .inr ⟨rp, rfl⟩, fun W kk => (all_any W rp mb lp M (rest.rows.kept kk (by simp) (by simp)) good.sorted (by omega)).mono ?_⟩
    rintro e w' ⟨v, rfl, ⟨A, c, rfl, _, he, ko, _⟩, _⟩
    exact ⟨A, c, rfl, he, ko⟩
end Go.Proofs.YthpjkhmkjhgbkaaGreatDoor
