/- Right: is a list an object? By the program, by the document. -/
import Derived.Test.YtchlcmgdfbabdaaGreatDoorZero7
namespace Go.Proofs.YtchlcmgdfbabdaaGreatDoor.Pgs
open Go.RowKit

def pgE (p : Pg) : List Value := [.int .i64 p.n, .string (strOf p.d)]
theorem pgE_length (p : Pg) : (pgE p).length = 2 := rfl
theorem pgE_one (p : Pg) : ∀ v ∈ pgE p, v.oneCell' = true := by
  intro v hv
  simp [pgE] at hv
  rcases hv with rfl | rfl <;> rfl
theorem info_pg : (Tryz.prog.info? 69).map (fun i => (i.zero, i.size, i.bytes)) = some (some (.agg #[.int .i64 0, .string ⟨#[]⟩]), 2, 24) := by kernel_rfl
theorem pgs_at {w : World} {g o : Nat} {l : List Pg} (h : ElsAt pgE 2 w g o l) {i : Nat} (hi : i < l.length) : w.cell? ⟨g, o + i * 2, none⟩ = some (.int .i64 l[i].n) ∧ w.cell? ⟨g, o + i * 2 + 1, none⟩ = some (.string (strOf l[i].d)) :=
  ⟨by simpa using h i hi 0 _ rfl, h i hi 1 _ rfl⟩

theorem okP_no {last : Int} {p : Pg} {r : List Pg} (h : ¬ (last < p.n ∧ p.n < 32 ∧ p.d.length = 32 ∧ allZ p.d = false)) : okP last (p :: r) = false := by
  apply Bool.eq_false_iff.2
  intro hk
  obtain ⟨h1, h2, h3, h4, _⟩ := okP_cons.1 hk
  exact h ⟨h1, h2, h3, h4⟩
theorem okP_yes {last : Int} {p : Pg} {r : List Pg} (h1 : last < p.n) (h2 : p.n < 32) (h3 : p.d.length = 32) (h4 : allZ p.d = false) : okP last (p :: r) = okP p.n r := by
  simp [okP, h1, h2, h3, h4]

set_option maxRecDepth 100000 in
set_option maxHeartbeats 1000000 in
theorem right_any (w : World) (A : Option Addr) (c n : Nat) (o : List Pg) (hn : n = o.length) (hA : Els pgE 2 w A o) (hl : n ≤ 9223372036854775807) :
    Calls Tryz.prog 13 #[.slice A n c] w fun e w' => e = .returned (.bool (right o)) ∧ Only [] w w' := by
  have HN := Lib.hid hn
  clear hn
  go_enter Tryz.func13, Tryz.ntmps13
  go_wp2_with fail
  go_loopw [3, 8] (fun v i wr => ∃ (k : Nat) (last : Int), k ≤ n ∧ i = .int .i64 k ∧ v = .int .i64 last ∧ Hid (right o = okP last (o.drop k)) ∧ Only [] w wr) (fun _ i _ => n - (intOf i).toNat)
  case atStart => exact ⟨0, -1, by omega, rfl, rfl, rfl, Only.refl _ _⟩
  case round =>
    obtain ⟨k, last, hk, rfl, rfl, hr, honly⟩ := hrel
    by_cases hlt : k < n
    · have hk' : k < o.length := by have := HN.out; omega
      obtain ⟨g, off, rfl, _, hat⟩ := hA.get hk'
      obtain ⟨c0, c1⟩ := pgs_at (hat.kept honly (by simp)) hk'
      have hd : o.drop k = o[k] :: o.drop (k + 1) := List.drop_eq_getElem_cons hk'
      generalize o[k] = p at *
      obtain ⟨N, d⟩ := p
      simp only at c0 c1
      have hsz := strOf_size d
      have hno : ¬ (last < N ∧ N < 32 ∧ d.length = 32 ∧ allZ d = false) → Hid (right o = false) := fun h => by
        show right o = false
        rw [hr.out, hd]
        exact okP_no h
      have hyes : last < N → N < 32 → d.length = 32 → allZ d = false → Hid (right o = okP N (o.drop (k + 1))) := fun a1 a2 a3 a4 => by
        show right o = _
        rw [hr.out, hd]
        exact okP_yes a1 a2 a3 a4
      have hzero := fun W (h : d.length ≤ 1048576) => zero_any W d h
      generalize hs : strOf d = s at *
      have hs := Lib.hid hs
      have hno := Lib.hid hno
      have hyes := Lib.hid hyes
      have hd := Lib.hid hd
      rename_i hs0 hno0 hyes0 hd0
      clear hs0 hno0 hyes0 hd0 hr hat hA
      by_cases h1 : N ≤ last
      · have hf := hno.out (by omega)
        go_wp2
        go_ret
        exact ⟨by rw [hf.out]; rfl, honly.alloc _⟩
      · by_cases h2 : N < 32
        · by_cases h3 : d.length = 32
          · have h3' : s.size = 32 := by omega
            have hz := fun W => hzero W (by omega)
            clear hzero
            by_cases h4 : allZ d = true
            · have hf := hno.out (by simp [h4])
              rw [h4] at hz
              have h3 := Lib.hid h3
              rename_i h30
              clear h30 hsz
              go_wp2_with fail
              refine (hz _).mono ?_; rintro e w1 ⟨rfl, m, rfl⟩
              go_wp2
              go_ret
              exact ⟨by rw [hf.out]; rfl, (honly.alloc _).drewN m⟩
            · have h4' : allZ d = false := by simpa using h4
              have hnext := hyes.out (by omega) h2 h3 h4'
              rw [h4'] at hz
              have h3 := Lib.hid h3
              have h4' := Lib.hid h4'
              rename_i h30 h40
              clear h30 h40 h4 hsz
              go_wp2_with fail
              refine (hz _).mono ?_; rintro e w1 ⟨rfl, m, rfl⟩
              go_wp2_with fail
              go_roundw
              case rel => exact ⟨k + 1, N, by omega, by go_num, rfl, hnext, (honly.alloc _).drewN m⟩
              case measure => simp [intOf]; omega
          · have hf := hno.out (fun h => h3 h.2.2.1)
            have h3' : ¬ (s.size : Int) = 32 := by omega
            clear hzero
            go_wp2
            go_ret
            exact ⟨by rw [hf.out]; rfl, honly.alloc _⟩
        · have hf := hno.out (fun h => h2 h.2.1)
          clear hzero
          go_wp2
          go_ret
          exact ⟨by rw [hf.out]; rfl, honly.alloc _⟩
    · have hfin : right o = true := by
        rw [hr.out, List.drop_of_length_le (by have := HN.out; omega)]
        rfl
      have hfin := Lib.hid hfin
      clear hA hr
      go_wp2
      go_ret
      exact ⟨by rw [hfin.out]; rfl, honly⟩

end Go.Proofs.YtchlcmgdfbabdaaGreatDoor.Pgs
