/- What every right program answers. -/
import Derived.Test.YtchlcmgdfbabdaaGreatDoorFun8
namespace Go.Proofs.YtchlcmgdfbabdaaGreatDoor.Pgs
open Go.RowKit

def exB : List UInt8 := lay (zs 1024) 30 [97, 98, 99]
theorem exB_len : exB.length = 1024 := by decide +kernel
theorem ex_two : (pages exB).length = 2 := by decide +kernel
theorem ex_one : (pages (cutB exB 32)).length = 1 := by decide +kernel
theorem ex_bytes : (exB.drop 29).take 5 = [0, 97, 98, 99, 0] := by decide +kernel
theorem ex_end : IsEnd exB 33 := by
  refine ⟨by rw [exB_len]; omega, fun i hi => ?_, .inr (by decide +kernel)⟩
  have h := lay_get (b := zs 1024) (x := [97, 98, 99]) (off := 30) (by rw [zs_length]; decide) i
  rw [if_neg (by simp; omega)] at h
  show (lay (zs 1024) 30 [97, 98, 99]).getD i 0 = 0
  rw [getD_of h]
  exact zs_getD _ _
theorem ex_body : body (pages exB) = exB := body_pages exB_len

/-- What a call made, as an object. -/
theorem mine_shape {w w1 : World} {v : Value} {l : List Pg} (h : Mine pgE 2 69 w w1 v l) : ∃ A c, v = .slice A l.length c ∧ Els pgE 2 w1 A l ∧ l.length ≤ c ∧ (∀ a, A = some a → w.heap.size ≤ a.block) := by
  obtain ⟨A, c, e, h1, h2, h3, _⟩ := h.shape pgE_length
  exact ⟨A, c, e, h1, h2, h3⟩

set_option maxRecDepth 100000 in
set_option maxHeartbeats 1000000 in
theorem alive_any (w : World) : Calls Tryz.prog 5 #[] w fun e w' => e = .returned (.bool true) ∧ Only [] w w' := by
  have h1 : ∀ W, Calls Tryz.prog 15 #[.slice none 0 0, .int .i64 30, .string ⟨#[97, 98, 99]⟩] W fun e w' => ∃ v, e = .returned (.tuple #[v, .int .i64 0]) ∧ Mine pgE 2 69 W w' v (pages exB) := fun W => by
    have := put_ok W none 0 0 [] rfl (.inl rfl) (by omega) 30 30 [97, 98, 99] rfl rfl (by decide)
    rw [body_nil] at this
    exact this
  have hr := pages_right exB_len
  have hb := ex_body
  have h2 := ex_two
  have h3 := ex_one
  have h4 := ex_bytes
  have h5 := ex_end
  generalize exB = B at *
  go_enter Tryz.func5, Tryz.ntmps5
  go_wp2_with fail
  refine (h1 _).mono ?_; rintro e w1 ⟨v, rfl, hm⟩
  have k1 := hm.only
  obtain ⟨A, c, rfl, hA, _, _⟩ := mine_shape hm
  clear hm
  rw [h2]
  have hn : 2 = (pages B).length := h2.symm
  have g1 := fun W (h : Els pgE 2 W A (pages B)) => cut_ok W A c 2 (pages B) hn h (by omega) 32 32 (by decide) (by decide) hr
  have g2 := fun W (h : Els pgE 2 W A (pages B)) => length_ok W A c 2 (pages B) hn h (by omega) hr
  have g3 := fun W (h : Els pgE 2 W A (pages B)) => bytes_ok W A c 2 (pages B) hn h (by omega) 29 5 29 5 rfl rfl hr (by decide)
  have g4 := fun W (h : Els pgE 2 W A (pages B)) => right_any W A c 2 (pages B) hn h (by omega)
  rw [hb] at g1 g2 g3
  rw [hr] at g4
  rw [h4] at g3
  rw [show strOf [0, 97, 98, 99, 0] = ⟨#[0, 97, 98, 99, 0]⟩ from rfl] at g3
  have H5 := Lib.hid h5
  have H3 := Lib.hid h3
  clear h1 h2 h3 h4 h5 hr hb hn
  go_wp2_with fail
  refine (g1 _ hA).mono ?_; rintro e w2 ⟨v, rfl, hm⟩
  have k2 := hm.only
  obtain ⟨A', c', rfl, _, _, _⟩ := mine_shape hm
  clear hm
  rw [H3.out]
  have hA2 := hA.kept k2 (by simp)
  go_wp2_with fail
  refine (g2 _ hA2).mono ?_; rintro e w3 ⟨L, rfl, hL, k3⟩
  have hL33 := hL.unique H5.out
  subst hL33
  have hA3 := hA2.kept k3 (by simp)
  replace hL := Lib.hid hL
  go_wp2_with fail
  refine (g3 _ hA3).mono ?_; rintro e w4 ⟨rfl, k4⟩
  have hA4 := hA3.kept k4 (by simp)
  go_wp2_with fail
  refine (g4 _ hA4).mono ?_; rintro e w5 ⟨rfl, k5⟩
  have kk := ((k1.trans k2).trans k3).trans (k4.trans k5)
  replace kk := Lib.hid kk
  clear k1 k2 k3 k4 k5
  go_wp2
  go_ret
  exact ⟨rfl, kk.out⟩

end Go.Proofs.YtchlcmgdfbabdaaGreatDoor.Pgs
