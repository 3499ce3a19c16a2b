/- Lists of acts that come in: opened to what lies in memory; whether they are short enough. -/
import Derived.Test.YtihoebmfanelkaaBlks
import Derived.Test.YtihoebmfanelkaaWal1
import Derived.Test.YtihoebmfanelkaaRun
namespace Go.Proofs.Ytihoebmfanelkaa
open Go.RowKit Go.WideShapes Go.ChangeShapes Go.Deep

/-- An act: its kind, its number, what a crash keeps, a raw block's bytes, and the blocks of a commit, where they lie. -/
structure Deed where
  kind : Int
  num : Int
  keep : Nat
  raw : List UInt8
  A : Option Addr
  c : Nat
  l : List Bk
structure Deed.okay (w : World) (x : Deed) : Prop where
  kind : -9223372036854775808 ≤ x.kind ∧ x.kind ≤ 9223372036854775807
  num : -9223372036854775808 ≤ x.num ∧ x.num ≤ 9223372036854775807
  keep : x.keep < 18446744073709551616
  raw : x.raw.length ≤ 9223372036854775807
  blks : Blks w x.A x.l
  len : x.l.length ≤ 9223372036854775807
  cap : x.l.length ≤ x.c

def DeedAt (w : World) (g o : Nat) (x : Deed) : Prop :=
  w.cell? ⟨g, o, none⟩ = some (.int .i64 x.kind) ∧ w.cell? ⟨g, o + 1, none⟩ = some (.int .i64 x.num) ∧ w.cell? ⟨g, o + 2, none⟩ = some (.int .u64 (x.keep : Int)) ∧
    w.cell? ⟨g, o + 3, none⟩ = some (.string (strOf x.raw)) ∧ w.cell? ⟨g, o + 4, none⟩ = some (.slice x.A x.l.length x.c)
def Deeds (w : World) (A : Option Addr) (l : List Deed) : Prop :=
  (l = [] ∨ ∃ g o, A = some ⟨g, o, none⟩ ∧ g < w.heap.size ∧ ∀ i (h : i < l.length), DeedAt w g (o + i * 5) l[i]) ∧ ∀ x ∈ l, x.okay w
theorem Deeds.get {w : World} {A : Option Addr} {l : List Deed} (h : Deeds w A l) {i : Nat} (hi : i < l.length) : ∃ g o, A = some ⟨g, o, none⟩ ∧ g < w.heap.size ∧ DeedAt w g (o + i * 5) l[i] := by
  rcases h.1 with rfl | ⟨g, o, h1, h2, h3⟩
  · simp at hi
  · exact ⟨g, o, h1, h2, h3 i hi⟩
theorem DeedAt.kept {w w' : World} {g o : Nat} {x : Deed} (h : DeedAt w g o x) (k : Only [] w w') : DeedAt w' g o x :=
  ⟨k.cell h.1 (by simp), k.cell h.2.1 (by simp), k.cell h.2.2.1 (by simp), k.cell h.2.2.2.1 (by simp), k.cell h.2.2.2.2 (by simp)⟩
theorem Deed.okay.kept {w w' : World} {x : Deed} (h : x.okay w) (k : Only [] w w') : x.okay w' :=
  ⟨h.kind, h.num, h.keep, h.raw, h.blks.kept k (by simp), h.len, h.cap⟩

section
variable {H : Type} {enc : TypeId × Value → H} {w : World}
set_option maxRecDepth 100000 in
/-- A list of acts that comes in. -/
theorem open_deeds {v : Value} {d : DataW H} {ps : List MemPlace} {r : Reach} {b0 : Nat} (hv : Value.okWide Try.prog w r b0 22 v) (h : DataW.Trod enc Try.prog w 0 (fun _ => true) true 22 v d ps) :
    ∃ A c l, v = .slice A (List.length l) c ∧ Deeds w A l ∧ l.length ≤ 9223372036854775807 := by
  obtain ⟨A, len, cap, rfl⟩ := okWide_slice Try.underlying22 hv
  obtain ⟨fuel, hf⟩ := h
  have hf' : DataW.trod enc Try.prog w 0 (fun _ => true) true fuel 22 [.slice A len cap] = some (d, ps) := by simpa [Value.cells] using hf
  rcases open_structs Try.underlying22 Try.underlying39 (by kernel_rfl) (by kernel_rfl) (by decide) hf' with h0 | ⟨A', len', cap', hcs, ⟨hm, hcap⟩, hz⟩
  · injection h0 with h0 _
    injection h0 with h1 h2 h3
    subst h1; subst h2; subst h3
    exact ⟨none, 0, [], rfl, ⟨.inl rfl, by simp⟩, by simp⟩
  · injection hcs with hcs _
    injection hcs with h1 h2 h3
    subst h1; subst h2; subst h3
    have hm' : len ≤ 9223372036854775807 := by simp only [maxLen] at hm; omega
    rcases hz with rfl | ⟨g, o, rfl, hg, hall⟩
    · exact ⟨A, cap, [], rfl, ⟨.inl rfl, by simp⟩, by simp⟩
    have each : ∀ i, i < len → ∃ x : Deed, DeedAt w g (o + i * 5) x ∧ x.okay w := by
      intro i hi
      obtain ⟨n0, v0, y0, k0, t0⟩ := hall i hi 0 _ rfl
      obtain ⟨n1, v1, y1, k1, t1⟩ := hall i hi 1 _ rfl
      obtain ⟨n2, v2, y2, k2, t2⟩ := hall i hi 2 _ rfl
      obtain ⟨n3, v3, y3, k3, t3⟩ := hall i hi 3 _ rfl
      obtain ⟨n4, v4, y4, k4, t4⟩ := hall i hi 4 _ rfl
      obtain ⟨a0, e0, _, w0⟩ := DataW.trod_int Try.underlying3 t0
      obtain ⟨a1, e1, _, w1⟩ := DataW.trod_int Try.underlying3 t1
      obtain ⟨a2, e2, _, w2⟩ := DataW.trod_int Try.underlying36 t2
      obtain ⟨s, e3, _, hs⟩ := DataW.trod_string Try.underlying9 t3
      obtain ⟨A4, c4, l4, rfl, hb4, hl4, hc4⟩ := open_blks' t4
      injection e0 with e0 _; injection e1 with e1 _; injection e2 with e2 _; injection e3 with e3 _
      subst e0; subst e1; subst e2; subst e3
      have r2 := u64_range w2
      obtain ⟨m2, rfl⟩ := Int.eq_ofNat_of_zero_le r2.1
      refine ⟨⟨a0, a1, m2, s.data.toList, A4, c4, l4⟩, ⟨by simpa using k0, by simpa using k1, by simpa using k2, ?_, by simpa using k4⟩, i64_range w0, i64_range w1, by simp only; omega, ?_, hb4, hl4, hc4⟩
      · simp only [strOf_toList]
        simpa using k3
      · simp only [maxLen] at hs
        have : s.data.toList.length = s.size := by rw [Array.length_toList]; rfl
        simp only [this]
        omega
    haveI : Inhabited Deed := ⟨⟨0, 0, 0, [], none, 0, []⟩⟩
    obtain ⟨f, hf'⟩ := choose_lt each
    refine ⟨_, cap, (List.range len).map f, by simp, ⟨.inr ⟨g, o, rfl, hg, fun j hj => ?_⟩, ?_⟩, by rw [List.length_map, List.length_range]; exact hm'⟩
    · have e : ((List.range len).map f)[j] = f j := by simp
      rw [e]
      exact (hf' j (by simpa using hj)).1
    · intro x hx
      simp only [List.mem_map, List.mem_range] at hx
      obtain ⟨i, hi, rfl⟩ := hx
      exact (hf' i hi).2
end

/-- The first forty acts' raw bytes are few. -/
def Short (l : List Deed) (k : Nat) : Prop := ∀ i x, i < k → l[i]? = some x → x.raw.length ≤ 300

def FewIs (l : List Deed) (e : Ending) : Prop := ∃ r : Bool, e = .returned (.bool r) ∧ (r = true → Short l 40)
theorem FewIs.no (l : List Deed) : FewIs l (.returned (.bool false)) := ⟨false, rfl, fun h => Bool.noConfusion h⟩
theorem FewIs.yes {l : List Deed} (h : Short l 40) : FewIs l (.returned (.bool true)) := ⟨true, rfl, fun _ => h⟩
set_option maxRecDepth 100000 in
set_option maxHeartbeats 4000000 in
theorem few_any (w : World) (A : Option Addr) (c : Nat) (l : List Deed) (h : Deeds w A l) :
    Calls Try.prog 9 #[.slice A l.length c] w fun e w' => FewIs l e ∧ Only [] w w' := by
  go_enter Try.func9, Try.ntmps9
  go_wp2_with fail
  go_loopw [3] (fun i wr => ∃ n : Nat, n ≤ l.length ∧ n ≤ 40 ∧ i = .int .i64 n ∧ Hid (Short l n) ∧ Only [] w wr) (fun i _ => l.length - (intOf i).toNat)
  case atStart => exact ⟨0, Nat.zero_le _, by omega, rfl, fun i x hi => by omega, Only.refl _ _⟩
  case round =>
    obtain ⟨n, hn, hn40, rfl, hsh, hk⟩ := hrel
    by_cases hlt : n < l.length ∧ n < 40
    · obtain ⟨hlt, hlt2⟩ := hlt
      obtain ⟨g, o, rfl, hg, hat⟩ := h.get hlt
      have hok := h.2 _ (List.getElem_mem hlt)
      have hx : l[n]? = some l[n] := List.getElem?_eq_getElem hlt
      obtain ⟨x, hxx⟩ : ∃ x, x = l[n] := ⟨_, rfl⟩
      rw [← hxx] at hx hat hok
      replace hxx := Lib.hid hxx
      obtain ⟨kd, nm, kp, raw, A4, c4', l4⟩ := x
      obtain ⟨_, _, _, c3, c4⟩ := hat.kept hk
      replace hat := Lib.hid hat
      have hblk := hok.blks
      have hlen := hok.len
      simp only at c3 c4 hblk hlen
      have hsz : (strOf raw).size = raw.length := strOf_size _
      have hgo : (raw.length ≤ 300 → Hid (Short l (n + 1))) := fun hr i y hi hy => by
        by_cases hin : i = n
        · subst hin
          rw [hx] at hy
          injection hy with hy
          subst hy
          exact hr
        · exact hsh.out i y (by omega) hy
      clear hok hx
      by_cases a1 : (60 : Int) < (l4.length : Int)
      · clear hgo hsz hsh
        go_wp2
        go_ret
        exact ⟨FewIs.no l, hk⟩
      by_cases a2 : 300 < raw.length
      · have a2' : (300 : Int) < ((strOf raw).size : Int) := by omega
        generalize strOf raw = s at *
        clear hgo hsz hsh
        go_wp2
        go_ret
        exact ⟨FewIs.no l, hk⟩
      have a2' : ¬ (300 : Int) < ((strOf raw).size : Int) := by omega
      have hsh2 := Lib.hid (hgo (by omega)).out
      generalize strOf raw = s at *
      clear hsz hgo hsh
      have hl60 : (l4.length : Int) ≤ 60 := by omega
      go_wp2_with fail
      go_loopw [4] (fun i wr => ∃ m : Nat, m ≤ l4.length ∧ i = .int .i64 m ∧ Only [] w wr) (fun i _ => l4.length - (intOf i).toNat)
      case atStart => exact ⟨0, Nat.zero_le _, rfl, hk⟩
      case round =>
        clear hk c3 c4
        obtain ⟨m, hm, rfl, hk⟩ := hrel
        have c4 := (hat.out.kept hk).2.2.2.2
        simp only at c4
        by_cases hlt4 : m < l4.length
        · obtain ⟨g4, o4, rfl, hg4, hat4⟩ := hblk.get hlt4
          have d1 := hk.cell (hat4 m hlt4).2 (by simp)
          have hok4 := (hblk.2 _ (List.getElem_mem hlt4)).2
          have hsz4 : (strOf l4[m].data).size = l4[m].data.length := strOf_size _
          generalize l4[m].data = dd at *
          have hd63 : ((strOf dd).size : Int) ≤ 9223372036854775807 := by omega
          generalize strOf dd = s4 at *
          clear hok4 hsz4 hat4
          by_cases a3 : (400 : Int) < (s4.size : Int)
          · go_wp2
            go_ret
            exact ⟨FewIs.no l, hk⟩
          · go_wp2
            go_roundw
            case rel => exact ⟨m + 1, by omega, by go_num, hk⟩
            case measure => simp [intOf]; omega
        · have hge : (l4.length : Int) ≤ m := by omega
          go_wp2
          go_roundw
          case rel => exact ⟨n + 1, by omega, by omega, by go_num, hsh2, hk⟩
          case measure => simp [intOf]; omega
    · have hend : Hid (Short l 40) := fun i y hi hy => by
        have hil : i < l.length := by
          have := List.getElem?_eq_some_iff.1 hy
          exact this.1
        exact hsh.out i y (by omega) hy
      rcases (show (n < l.length ∧ (40 : Int) ≤ n) ∨ (l.length : Int) ≤ n by omega) with ⟨hge1, hge2⟩ | hge1
      all_goals
        clear hsh hlt
        go_wp2
        go_ret
        exact ⟨FewIs.yes hend.out, hk⟩

end Go.Proofs.Ytihoebmfanelkaa
