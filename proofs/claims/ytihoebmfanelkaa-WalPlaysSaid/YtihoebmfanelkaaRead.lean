/- Read, Settled. -/
import Derived.Test.YtihoebmfanelkaaDev
namespace Go.Proofs.Ytihoebmfanelkaa
open Go.RowKit

/-- 'string(b)' as an equation. -/
theorem run_to_string {P : Program} (w : World) (src dst e : TypeId) (hs : P.underlying src = some (.slice e)) (he : P.underlying e = some (.int .u8)) (hd : P.underlying dst = some .string) (A : Option Addr) (m c : Nat) (l : List UInt8)
    (hsrc : SrcV w (.slice A m c) m (byteVs l)) : (convert src dst (.slice A m c)).run P w = .ok (.string (strOf l)) w := by
  obtain ⟨hl, hc⟩ := hsrc.bytes
  cases hA : A with
  | some ad =>
    subst hA
    have hc' : ∀ j (hj : j < l.length), w.cell? (ad.add j) = some (.int .u8 (l[j].toNat : Int)) := by
      rcases hc with h0 | ⟨ad', he', hc⟩
      · intro j hj; omega
      · injection he' with he'; subst he'; exact hc
    have := run_convert_bytes_back (P := P) w src dst e ad c l hs he hd hc'
    rw [hl] at this
    exact this
  | none =>
    have h0 : m = 0 := by rcases hc with h0 | ⟨ad, he', _⟩; exact h0; rw [hA] at he'; cases he'
    obtain rfl : l = [] := List.eq_nil_of_length_eq_zero (by omega)
    rw [run_convert_bytes_string w src dst e none m c hs he hd]
    simp [Conv.bytesToString, strOf]
    rfl

theorem getD_get {α : Type} {l : List α} {k : Nat} (hk : k < l.length) (d : α) : l[k]? = some (l.getD k d) := by
  rw [List.getD_eq_getElem?_getD, List.getElem?_eq_getElem hk]; rfl

theorem cells_len (f : List (List UInt8)) (hf : ∀ b ∈ f, b.length = 256) : ∀ b ∈ firmCells f, b.length = 256 := by
  intro b hb
  simp only [firmCells, List.mem_map] at hb
  obtain ⟨x, hx, rfl⟩ := hb
  rw [byteVs_length]
  exact hf x hx
theorem late_len (l : List (Nat × List UInt8)) (hl : ∀ x ∈ l, x.2.length = 256) : ∀ b ∈ lateCells l, b.length = 257 := by
  intro b hb
  simp only [lateCells, List.mem_map] at hb
  obtain ⟨x, hx, rfl⟩ := hb
  rw [List.length_cons, byteVs_length, hl x hx]

theorem firm_src {w : World} {gs : Nat} {f : List (List UInt8)} (hb : Blk w gs 87 (firmCells f).flatten.toArray) (hf : ∀ b ∈ f, b.length = 256) (k : Nat) (hk : k < f.length) (c : Nat) :
    SrcV w (.slice (some ⟨gs, k * 256, none⟩) 256 c) 256 (byteVs (f.getD k [])) := by
  have hg := getD_get hk ([] : List UInt8)
  have hl : (f.getD k []).length = 256 := hf _ (List.mem_of_getElem? hg)
  refine ⟨_, _, rfl, by rw [byteVs_length, hl], .inr ⟨_, rfl, fun j u hu => ?_⟩⟩
  rw [addr_add, hb.cell]
  simp only [List.getElem?_toArray]
  refine flat_at 256 _ k j (byteVs (f.getD k [])) u (cells_len f hf) ?_ hu
  simp only [firmCells, List.getElem?_map, hg]
  rfl

/-- Of the row of unsettled writes: each of its cells. -/
theorem late_cell' {w : World} {v : Value} {n : Nat} {l : List (Nat × List UInt8)} (hn : n = l.length) (h : w.ownsRow 0 107 257 v n (lateCells l).flatten) (hl : ∀ x ∈ l, x.2.length = 256) {i : Nat} {x : Nat × List UInt8} (hi : l[i]? = some x) :
    ∃ g c, v = .slice (some ⟨g, 0, none⟩) n c ∧ n ≤ 9223372036854775807 ∧ w.rangeAt g (i * 257) (.int .i64 (x.1 : Int) :: byteVs x.2) := by
  have hil : i < l.length := (List.getElem?_eq_some_iff.1 hi).1
  rcases id h.2 with ⟨rfl, h0⟩ | ⟨g, cap, cur, rfl, _, _, hc, hm, _⟩
  · omega
  · refine ⟨g, cap, rfl, by simp only [maxLen] at hm; omega, fun j u hu => ?_⟩
    have hj : j < 257 := by
      have := (List.getElem?_eq_some_iff.1 hu).1
      rw [List.length_cons, byteVs_length, hl x (List.mem_of_getElem? hi)] at this
      exact this
    have := h.cells rfl (i * 257 + j) u (flat_at 257 _ i j _ u (late_len l hl) (by simp only [lateCells, List.getElem?_map, hi]; rfl) hu)
    rw [addr_add, Nat.zero_add] at this
    exact this
theorem late_cell {w : World} {v : Value} {l : List (Nat × List UInt8)} (h : w.ownsRow 0 107 257 v l.length (lateCells l).flatten) (hl : ∀ x ∈ l, x.2.length = 256) {i : Nat} {x : Nat × List UInt8} (hi : l[i]? = some x) :
    ∃ g c, v = .slice (some ⟨g, 0, none⟩) l.length c ∧ l.length ≤ 9223372036854775807 ∧ w.rangeAt g (i * 257) (.int .i64 (x.1 : Int) :: byteVs x.2) := late_cell' rfl h hl hi

theorem late_src {w : World} {g o : Nat} {k : Int} {b : List UInt8} (h : w.rangeAt g o (.int .i64 k :: byteVs b)) (hb : b.length = 256) (c : Nat) : SrcV w (.slice (some ⟨g, o + 1, none⟩) 256 c) 256 (byteVs b) := by
  refine ⟨_, _, rfl, by rw [byteVs_length, hb], .inr ⟨_, rfl, fun j u hu => ?_⟩⟩
  rw [addr_add]
  have := h (j + 1) u (by rw [List.getElem?_cons_succ]; exact hu)
  rw [show o + (j + 1) = o + 1 + j by omega] at this
  exact this

theorem settled_any (w : World) (p : Nat) (F : List Nat) (s : St) (k : Int) (hd : Dev w p F s) :
    Calls Try.prog 14 #[.pointer (some ⟨p, 0, none⟩), .int .i64 k] w fun e w' => e = .returned (.string (strOf (firmB s k))) ∧ w' = w := by
  obtain ⟨gs, gl, v, hb, hf, _, _, _, _, fine⟩ := id hd
  have c0 := hb.cell 0
  simp only [List.getElem?_toArray, List.getElem?_cons_zero] at c0
  cases hh : hasBlock s.firm.length k with
  | false =>
    go_enter Try.func14, Try.ntmps14
    go_wp2_with fail
    refine (has_any w p F s k hd).mono ?_
    rintro e w1 ⟨rfl, rfl⟩
    rw [hh]
    go_wp2
    go_ret
    exact ⟨by simp [firmB, hh, strOf], rfl⟩
  | true =>
    have hk : 0 ≤ k ∧ k < (s.firm.length : Int) := by simpa [hasBlock] using hh
    obtain ⟨k, rfl⟩ := Int.eq_ofNat_of_zero_le hk.1
    have hk' : k < s.firm.length := by omega
    have hc := run_to_string (P := Try.prog) w 85 9 5 Try.underlying85 Try.underlying5 Try.underlying9 _ _ _ _ (firm_src hf fine.firm k hk' 256)
    have hr : firmB s k = s.firm.getD k [] := by simp [firmB, hh]
    rw [hr]
    clear hr
    generalize s.firm.getD k [] = d at *
    go_enter Try.func14, Try.ntmps14
    go_wp2_with fail
    refine (has_any w p F s k hd).mono ?_
    rintro e w1 ⟨rfl, rfl⟩
    rw [hh]
    go_wp2
    go_ret
    exact ⟨rfl, rfl⟩

theorem settled_nil (w : World) (k : Int) :
    Calls Try.prog 14 #[.pointer none, .int .i64 k] w fun e w' => e = .returned (.string (strOf [])) ∧ w' = w := by
  go_enter Try.func14, Try.ntmps14
  go_wp2_with fail
  refine (has_nil w k).mono ?_
  rintro e w1 ⟨rfl, rfl⟩
  go_wp2
  go_ret
  exact ⟨rfl, rfl⟩

theorem read_nil (w : World) (k : Int) :
    Calls Try.prog 38 #[.pointer none, .int .i64 k] w fun e w' => e = .returned (.tuple #[.string (strOf []), .int .i64 5]) ∧ w' = w := by
  go_enter Try.func38, Try.ntmps38
  go_wp2
  go_ret2
  exact ⟨rfl, rfl⟩

theorem last_cell {w : World} {gl n : Nat} {l : List (Nat × List UInt8)} (h : Blk w gl 3 (lastCells n l).toArray) {k : Nat} (hk : k < n) : w.cell? ⟨gl, k, none⟩ = some (.int .i64 (lastOf l k : Int)) := by
  rw [h.cell]
  simp [lastCells, hk]

theorem read_any (w : World) (p : Nat) (F : List Nat) (s : St) (k : Int) (hd : Dev w p F s) :
    Calls Try.prog 38 #[.pointer (some ⟨p, 0, none⟩), .int .i64 k] w fun e w' => e = .returned (.tuple #[.string (strOf (readB s k)), .int .i64 (readErr s k)]) ∧ w' = w := by
  obtain ⟨gs, gl, v, hb, hf, hl, hown, _, _, fine⟩ := id hd
  have c0 := hb.cell 0
  have c1 := hb.cell 1
  have c2 := hb.cell 2
  have c4 := hb.cell 4
  simp only [List.getElem?_toArray, List.getElem?_cons_zero, List.getElem?_cons_succ] at c0 c1 c2 c4
  cases hh : hasBlock s.firm.length k with
  | false =>
    go_enter Try.func38, Try.ntmps38
    go_wp2_with fail
    refine (has_any w p F s k hd).mono ?_
    rintro e w1 ⟨rfl, rfl⟩
    rw [hh]
    go_wp2
    go_ret2
    exact ⟨by simp [readB, readErr, hh, strOf], rfl⟩
  | true =>
    have hk : 0 ≤ k ∧ k < (s.firm.length : Int) := by simpa [hasBlock] using hh
    obtain ⟨k, rfl⟩ := Int.eq_ofNat_of_zero_le hk.1
    have hk' : k < s.firm.length := by omega
    cases hdead : s.dead with
    | true =>
      rw [hdead] at c4
      go_enter Try.func38, Try.ntmps38
      go_wp2_with fail
      refine (has_any w p F s k hd).mono ?_
      rintro e w1 ⟨rfl, rfl⟩
      rw [hh]
      go_wp2
      go_ret2
      exact ⟨by simp [readB, readErr, hh, hdead, strOf], rfl⟩
    | false =>
      rw [hdead] at c4
      have c5 := last_cell hl hk'
      have hr : readB s k = nowOf (s.firm.getD k []) s.late k := by simp [readB, hh, hdead]
      have hre : readErr s k = 0 := by simp [readErr, hh, hdead]
      rw [hr, hre]
      clear hr hre
      rcases last_spec (s.firm.getD k []) k s.late with ⟨h1, h2, _⟩ | ⟨h1, h2, h3⟩
      · rw [h2]
        rw [h1] at c5
        have hc := run_to_string (P := Try.prog) w 85 9 5 Try.underlying85 Try.underlying5 Try.underlying9 _ _ _ _ (firm_src hf fine.firm k hk' 256)
        clear h1 h2
        generalize s.firm.getD k [] = d at *
        go_enter Try.func38, Try.ntmps38
        go_wp2_with fail
        refine (has_any w p F s k hd).mono ?_
        rintro e w1 ⟨rfl, rfl⟩
        rw [hh]
        go_wp2
        go_ret2
        exact ⟨rfl, rfl⟩
      · obtain ⟨g, c, rfl, hmax, hrange⟩ := late_cell hown (fun x hx => (fine.late x hx).2) h3
        have hlen := (fine.late _ (List.mem_of_getElem? h3)).2
        simp only at hlen
        have hc := run_to_string (P := Try.prog) w 85 9 5 Try.underlying85 Try.underlying5 Try.underlying9 _ _ _ _ (late_src hrange hlen 256)
        clear hrange h3 hlen
        generalize nowOf (s.firm.getD k []) s.late k = d at *
        generalize lastOf s.late k = m at *
        obtain ⟨m, rfl⟩ : ∃ m', m = m' + 1 := ⟨m - 1, by omega⟩
        have e1 : ((m + 1 : Nat) : Int) = (m : Int) + 1 := by omega
        rw [e1] at c5
        simp only [Nat.add_sub_cancel] at hc
        have hw : wrap64 (m : Int) = m := by simp only [wrap64]; omega
        have hmn : (m : Int) < (s.late.length : Int) := by omega
        clear hmax
        generalize s.late.length = n at *
        go_enter Try.func38, Try.ntmps38
        go_wp2_with fail
        refine (has_any w p F s k hd).mono ?_
        rintro e w1 ⟨rfl, rfl⟩
        rw [hh]
        go_wp2
        go_ret2
        exact ⟨rfl, rfl⟩

end Go.Proofs.Ytihoebmfanelkaa
