/- fit, refusal. -/
import Derived.Test.YtihoebmfanelkaaWal7
namespace Go.Proofs.Ytihoebmfanelkaa
open Go.RowKit

set_option maxRecDepth 100000 in
set_option maxHeartbeats 2000000 in
theorem fit_any (w : World) (lp p n : Nat) (f : Bool) (F : List Nat) (s : St) (A : Option Addr) (c : Nat) (l : List Bk) (h : LogB w lp p n f) (hd : Dev w p F s) (hb : Blks w A l) (hl : l.length ≤ 1048576) (hc : l.length ≤ c) :
    Calls Try.prog 59 #[.pointer (some ⟨lp, 0, none⟩), .slice A l.length c] w fun e w' => Says (∀ i, i < l.length → goodAt l ((s.firm.length : Int) - 41) i) e ∧ Only [] w w' := by
  have hhas := fun W (k : Only [] w W) x => lhas_any W lp p n f F s x (Blk.kept h k (by simp)) (hd.kept k (by simp))
  have hdef : ∀ x, hasHome s.firm.length x = decide (0 ≤ x ∧ x < (s.firm.length : Int) - 41) := fun x => rfl
  simp only [hdef] at hhas
  have hfew := hd.fine.few
  generalize (s.firm.length : Int) - 41 = N at *
  replace hhas := Lib.hid hhas
  clear h hd hdef hfew
  go_enter Try.func59, Try.ntmps59
  go_wp2_with fail
  go_loopw [10] (fun i wr => ∃ k : Nat, k ≤ l.length ∧ i = .int .i64 k ∧ Hid (∀ j, j < k → goodAt l N j) ∧ Only [] w wr) (fun i _ => l.length - (intOf i).toNat)
  case atStart => exact ⟨0, Nat.zero_le _, rfl, fun j hj => by omega, Only.refl _ _⟩
  case round =>
    obtain ⟨k, hk, rfl, hgood, honly⟩ := hrel
    by_cases hlt : k < l.length
    · obtain ⟨g, o, rfl, hg, hat⟩ := hb.get hlt
      have c0 := honly.cell (hat k hlt).1 (by simp)
      have c1 := honly.cell (hat k hlt).2 (by simp)
      have hx : l[k]? = some l[k] := List.getElem?_eq_getElem hlt
      have hgx : goodAt l N k ↔ (0 ≤ l[k].at_ ∧ l[k].at_ < N ∧ l[k].data.length ≤ 248 ∧ ¬ Among l k l[k].at_) := by
        constructor
        · intro h
          obtain ⟨h1, h2, h3, h4⟩ := h _ hx
          exact ⟨h1, h2, h3, fun ⟨j, y, hj, hy, he⟩ => h4 j y hj hy he⟩
        · intro ⟨h1, h2, h3, h4⟩ z hz
          rw [hx] at hz
          injection hz with hz
          subst hz
          exact ⟨h1, h2, h3, fun j y hj hy he => h4 ⟨j, y, hj, hy, he⟩⟩
      have hsz : (strOf l[k].data).size = l[k].data.length := strOf_size _
      generalize l[k] = x at *
      obtain ⟨at_, data⟩ := x
      simp only at c0 c1 hgx hsz
      generalize strOf data = bs at *
      replace hgx := Lib.hid hgx
      have hnot : Hid (¬ goodAt l N k → ¬ ∀ i, i < l.length → goodAt l N i) := fun h h' => h (h' k hlt)
      have kq : Only [] wr (wr.alloc (.cells #[.int .i64 at_, .string bs] 64)) := (Only.refl [] wr).alloc _
      have bq : Blk (wr.alloc (.cells #[.int .i64 at_, .string bs] 64)) wr.heap.size 64 #[.int .i64 at_, .string bs] := Blk.new _ _ _
      obtain ⟨q, hq⟩ : ∃ q, q = wr.heap.size := ⟨_, rfl⟩
      rw [← hq] at bq
      go_wp2_with fail
      simp only [← hq]
      generalize wr.alloc (.cells #[.int .i64 at_, .string bs] 64) = W at *
      have q0 := bq.cell 0
      have q1 := bq.cell 1
      simp only [List.getElem?_toArray, List.getElem?_cons_zero, List.getElem?_cons_succ] at q0 q1
      have kW := honly.trans kq
      replace hq := Lib.hid hq
      have hhasW := hhas.out W kW at_
      clear c0 c1 hx
      by_cases t1 : 0 ≤ at_ ∧ at_ < N
      · have d1 : decide (0 ≤ at_ ∧ at_ < N) = true := by simp [t1]
        rw [d1] at hhasW
        by_cases t2 : data.length ≤ 248
        · have t2' : ¬ (248 : Int) < (bs.size : Int) := by omega
          have hcont := contains_any W g o c k l at_ q (fun i hi => ⟨kW.cell (hat i hi).1 (by simp), kW.cell (hat i hi).2 (by simp)⟩) (by omega) hl q0
          replace hcont := Lib.hid hcont
          replace hhasW := Lib.hid hhasW
          replace hsz := Lib.hid hsz
          replace t1 := Lib.hid t1
          have hkc : (k : Int) ≤ (c : Int) := by omega
          clear bq d1
          refine hhasW.out.mono ?_
          rintro e w2 ⟨rfl, rfl⟩
          go_wp2_with fail
          refine hcont.out.mono ?_
          rintro e w3 ⟨⟨r, rfl, hr⟩, k3⟩
          have kend := kW.trans k3
          cases r with
          | true =>
            have hno : ¬ ∀ i, i < l.length → goodAt l N i := hnot.out (fun h => (hgx.out.1 h).2.2.2 (hr.1 rfl))
            replace hno := Lib.hid hno
            clear hr k3 hgx hnot hgood hcont
            go_wp2
            go_ret
            exact ⟨Says.no hno.out, kend⟩
          | false =>
            have hyes : goodAt l N k := hgx.out.2 ⟨t1.out.1, t1.out.2, t2, fun h => by have := hr.2 h; cases this⟩
            have hgood2 : Hid (∀ j, j < k + 1 → goodAt l N j) := fun j hj => by
              by_cases hjk : j = k
              · subst hjk; exact hyes
              · exact hgood.out j (by omega)
            clear hr k3 hgx hnot hgood hyes hcont
            go_wp2
            go_roundw
            case rel => exact ⟨k + 1, by omega, by go_num, hgood2, kend⟩
            case measure => simp [intOf]; omega
        · have t2' : (248 : Int) < (bs.size : Int) := by omega
          have hno : ¬ ∀ i, i < l.length → goodAt l N i := hnot.out (fun h => t2 (hgx.out.1 h).2.2.1)
          replace hno := Lib.hid hno
          replace hhasW := Lib.hid hhasW
          clear hgx hnot hgood
          refine hhasW.out.mono ?_
          rintro e w2 ⟨rfl, rfl⟩
          go_wp2
          go_ret
          exact ⟨Says.no hno.out, kW⟩
      · have d1 : decide (0 ≤ at_ ∧ at_ < N) = false := decide_eq_false t1
        rw [d1] at hhasW
        have hno : ¬ ∀ i, i < l.length → goodAt l N i := hnot.out (fun h => t1 ⟨(hgx.out.1 h).1, (hgx.out.1 h).2.1⟩)
        replace hno := Lib.hid hno
        replace hhasW := Lib.hid hhasW
        replace t1 := Lib.hid t1
        clear hgx hnot hgood
        refine hhasW.out.mono ?_
        rintro e w2 ⟨rfl, rfl⟩
        go_wp2
        go_ret
        exact ⟨Says.no hno.out, kW⟩
    · have hyes : Hid (∀ i, i < l.length → goodAt l N i) := fun i hi => hgood.out i (by omega)
      have hge : (l.length : Int) ≤ k := by omega
      clear hgood
      go_wp2
      go_ret
      exact ⟨Says.yes hyes.out, honly⟩

/-- Why blocks can't be committed; nought: they can. -/
def Refusal (size : Int) (f : Bool) (n : Nat) (l : List Bk) (x : Int) : Prop :=
  (¬ RightL l size ∧ x = 1) ∨ (RightL l size ∧ f = true ∧ x = 5) ∨ (RightL l size ∧ f = false ∧ n = 4294967295 ∧ x = 16) ∨ (RightL l size ∧ f = false ∧ n ≠ 4294967295 ∧ x = 0)

theorem refusal_nil (w : World) (v : Value) : Calls Try.prog 42 #[.pointer none, v] w fun e w' => e = .returned (.int .i64 5) ∧ w' = w := by
  go_enter Try.func42, Try.ntmps42
  go_wp2
  go_ret
  exact ⟨rfl, rfl⟩

set_option maxRecDepth 100000 in
set_option maxHeartbeats 1000000 in
theorem refusal_any (w : World) (lp p n : Nat) (f : Bool) (F : List Nat) (s : St) (A : Option Addr) (c : Nat) (l : List Bk) (h : LogB w lp p n f) (hd : Dev w p F s) (hb : Blks w A l) (hl : l.length ≤ 9223372036854775807) (hc : l.length ≤ c) :
    Calls Try.prog 42 #[.pointer (some ⟨lp, 0, none⟩), .slice A l.length c] w fun e w' => (∃ x, e = .returned (.int .i64 x) ∧ Refusal ((s.firm.length : Int) - 41) f n l x) ∧ Only [] w w' := by
  by_cases h0 : l.length = 0
  · have hno : Hid (Refusal ((s.firm.length : Int) - 41) f n l 1) := .inl ⟨fun h => by have := h.1; omega, rfl⟩
    have h0' : (l.length : Int) = 0 := by omega
    clear h hd hb
    go_enter Try.func42, Try.ntmps42
    go_wp2
    go_ret
    exact ⟨⟨1, rfl, hno.out⟩, Only.refl _ _⟩
  have h0' : ((l.length : Int) == 0) = false := beq_eq_false_iff_ne.2 (by omega)
  by_cases h1 : 40 < l.length
  · have hno : Hid (Refusal ((s.firm.length : Int) - 41) f n l 1) := .inl ⟨fun h => by have := h.2.1; omega, rfl⟩
    have h1' : (40 : Int) < (l.length : Int) := by omega
    clear h hd hb h0
    go_enter Try.func42, Try.ntmps42
    go_wp2
    go_ret
    exact ⟨⟨1, rfl, hno.out⟩, Only.refl _ _⟩
  have h1' : ¬ (40 : Int) < (l.length : Int) := by omega
  have hfit := fit_any w lp p n f F s A c l h hd hb (by omega) hc
  have hright : RightL l ((s.firm.length : Int) - 41) ↔ ∀ i, i < l.length → goodAt l ((s.firm.length : Int) - 41) i := ⟨fun h => h.2.2, fun h => ⟨by omega, by omega, h⟩⟩
  rw [← hright] at hfit
  obtain ⟨_, c1, c2⟩ := h.cells
  generalize (s.firm.length : Int) - 41 = N at *
  replace hright := Lib.hid hright
  obtain ⟨z, hz⟩ : ∃ z : Int, z = (n : Int) := ⟨_, rfl⟩
  rw [← hz] at c1
  clear h hd hb h0 h1
  replace hfit := Lib.hid hfit
  replace hz := Lib.hid hz
  go_enter Try.func42, Try.ntmps42
  go_wp2_with fail
  refine hfit.out.mono ?_
  rintro e w1 ⟨⟨r, rfl, hr⟩, k1⟩
  have d1 := k1.cell c1 (by simp)
  have d2 := k1.cell c2 (by simp)
  clear c1 c2
  cases r with
  | false =>
    have hno : Hid (Refusal N f n l 1) := .inl ⟨fun h => Bool.noConfusion (hr.2 h), rfl⟩
    clear hr
    go_wp2
    go_ret
    exact ⟨⟨1, rfl, hno.out⟩, k1⟩
  | true =>
    have hyes : Hid (RightL l N) := hr.1 rfl
    clear hr
    cases hf : f with
    | true =>
      rw [hf] at d2
      have hno : Hid (Refusal N f n l 5) := .inr (.inl ⟨hyes.out, hf, rfl⟩)
      go_wp2
      go_ret
      exact ⟨⟨5, rfl, hno.out⟩, k1⟩
    | false =>
      rw [hf] at d2
      by_cases hm : z = 4294967295
      · have hno : Hid (Refusal N f n l 16) := .inr (.inr (.inl ⟨hyes.out, hf, by have := hz.out; omega, rfl⟩))
        rw [hm] at d1
        clear hm
        go_wp2
        go_ret
        exact ⟨⟨16, rfl, hno.out⟩, k1⟩
      · have hno : Hid (Refusal N f n l 0) := .inr (.inr (.inr ⟨hyes.out, hf, by have := hz.out; omega, rfl⟩))
        have hm' : (z == 4294967295) = false := by simpa using hm
        clear hm
        go_wp2
        go_ret
        exact ⟨⟨0, rfl, hno.out⟩, k1⟩

end Go.Proofs.Ytihoebmfanelkaa
