/- TreeMakes: the tree with one more, or one less, is the document's. -/
import Derived.Test.YteiekfccfddmjaaDoorRrm10
namespace Go.Proofs.YteiekfccfddmjaaDoor
open Go.RowKit

theorem makeR_length (l : List Nd) (p : List UInt8) (id : Int) (dir : Bool) : (makeR l p id dir).1.length ≤ l.length + 1 := by
  unfold makeR
  split
  · simp
  · split
    · simp
    · split
      · simp
      · split
        · simp
        · split
          · simp
          · simp; omega
theorem removeR_length (l : List Nd) (p : List UInt8) (dir : Bool) : (removeR l p dir).1.length ≤ l.length := by
  unfold removeR
  split
  · simp
  · split
    · simp
    · simp; omega
set_option maxRecDepth 100000 in
set_option maxHeartbeats 8000000 in
theorem treeMakes_walk (w : World) (A : Option Addr) (c : Nat) (l : List Nd) (p : List UInt8) (id : Int) (dir : Bool) (hb : Els ndE 5 w A l) (hl : l.length ≤ 9223372036854775807) (hc : l.length ≤ c) :
    Calls Tryd.prog 5 #[.slice A l.length c, .string (strOf p), .int .u32 id, .bool dir] w fun e w' => e = .returned (.bool true) ∧ Only [] w w' := by
  have hG := fun W (k : Only [] w W) => great_any W A c l p [] (hb.kept k (by simp)) hl
  have hM := fun W (k : Only [] w W) (h : l.length ≤ 100) (hp : p.length ≤ 1000) => make_any W A c l p id dir (hb.kept k (by simp)) hc (by omega) (by omega)
  have hRM := fun W (k : Only [] w W) (h : l.length ≤ 100) (hp : p.length ≤ 1000) => rmake_any W A c l p id dir (hb.kept k (by simp)) hc (by omega) (by omega)
  have hV := fun W (k : Only [] w W) (h : l.length ≤ 100) (hp : p.length ≤ 1000) => remove_any W A c l p dir (hb.kept k (by simp)) hc (by omega) (by omega)
  have hRV := fun W (k : Only [] w W) (h : l.length ≤ 100) (hp : p.length ≤ 1000) => rremove_any W A c l p dir (hb.kept k (by simp)) hc (by omega) (by omega)
  have hlen := makeR_length l p id dir
  have hlen2 := removeR_length l p dir
  generalize makeR l p id dir = M at *
  generalize removeR l p dir = V at *
  obtain ⟨M1, M2⟩ := M
  obtain ⟨V1, V2, V3⟩ := V
  simp only at hM hRM hV hRV hlen hlen2
  replace hG := Lib.hid hG
  replace hM := Lib.hid hM
  replace hRM := Lib.hid hRM
  replace hV := Lib.hid hV
  replace hRV := Lib.hid hRV
  replace hlen := Lib.hid hlen
  replace hlen2 := Lib.hid hlen2
  go_enter Tryd.func5, Tryd.ntmps5
  go_wp2_with fail
  refine (alive_any _).mono ?_; rintro e w1 ⟨rfl, k1⟩
  go_wp2_with fail
  refine (hG.out _ k1).mono ?_; rintro e w2 ⟨⟨r, rfl, hr⟩, rfl⟩
  cases r with
  | true =>
    go_wp2_with fail
    refine (alive_any _).mono ?_; rintro e w3 ⟨rfl, k3⟩
    go_wp2
    go_ret
    exact ⟨rfl, k1.trans k3⟩
  | false =>
  obtain ⟨h100, hp1, _⟩ := hr rfl
  clear hr
  replace h100 := Lib.hid h100
  replace hp1 := Lib.hid hp1
  go_wp2_with fail
  refine (hM.out _ k1 h100.out hp1.out).mono ?_; rintro e w3 ⟨v, rfl, m3⟩
  have hk3 := k1.trans m3.only
  obtain ⟨A3, c3, rfl, e3, _⟩ := m3.shape ndE_length
  clear m3
  go_wp2_with fail
  refine (hRM.out _ hk3 h100.out hp1.out).mono ?_; rintro e w4 ⟨v', rfl, m4⟩
  have hk4 := hk3.trans m4.only
  have e34 := e3.kept m4.only (by simp)
  obtain ⟨A4, c4, rfl, e4, _⟩ := m4.shape ndE_length
  have hsame := fun W (k : Only [] w4 W) => rsame_yes W A3 A4 c3 c4 M1 (e34.kept k (by simp)) (e4.kept k (by simp)) (by have := hlen.out; have := h100.out; omega)
  replace hsame := Lib.hid hsame
  clear m4 e3 e34 e4
  obtain ⟨y0, y1, y2, y3, y4⟩ := V2
  have hyv : ndV ⟨y0, y1, y2, y3, y4⟩ = .agg #[.int .u32 y0, .int .u32 y1, .string (strOf y2), .bool y3, .int .u32 y4] := rfl
  go_wp2_with fail
  refine (hV.out _ hk4 h100.out hp1.out).mono ?_; rintro e w5 ⟨v5, rfl, m5⟩
  have k45 := m5.only
  have hk5 := hk4.trans m5.only
  obtain ⟨A5, c5, rfl, e5, _⟩ := m5.shape ndE_length
  clear m5
  rw [hyv]
  have k56 := (Only.refl [] w5).alloc (.cells #[.int .u32 y0, .int .u32 y1, .string (strOf y2), .bool y3, .int .u32 y4] 28)
  have b6 := Bx.new w5 ⟨y0, y1, y2, y3, y4⟩
  go_wp2_with fail
  refine (hRV.out _ (hk5.trans k56) h100.out hp1.out).mono ?_; rintro e w7 ⟨v7, rfl, m7⟩
  have k67 := m7.only
  have k57 := k56.trans k67
  have b7 := b6.kept k67 (by simp)
  have e57 := e5.kept k57 (by simp)
  obtain ⟨A7, c7, rfl, e7, _⟩ := m7.shape ndE_length
  rw [hyv]
  have k78 := (Only.refl [] w7).alloc (.cells #[.int .u32 y0, .int .u32 y1, .string (strOf y2), .bool y3, .int .u32 y4] 28)
  have b8 : Bx (w7.alloc (.cells #[.int .u32 y0, .int .u32 y1, .string (strOf y2), .bool y3, .int .u32 y4] 28)) w5.heap.size ⟨y0, y1, y2, y3, y4⟩ := b7.kept k78 (by simp)
  have b8' := Bx.new w7 ⟨y0, y1, y2, y3, y4⟩
  simp only at b8'
  have hsame2 := fun W (k : Only [] w7 W) => rsame_yes W A5 A7 c5 c7 V1 (e57.kept k (by simp)) (e7.kept k (by simp)) (by have := hlen2.out; have := h100.out; omega)
  replace hsame2 := Lib.hid hsame2
  have k48 := k45.trans (k57.trans k78)
  have hk8 := hk4.trans k48
  clear m7 e5 e57 e7 b6 b7
  go_wp2_with fail
  generalize (w7.alloc (.cells #[.int .u32 y0, .int .u32 y1, .string (strOf y2), .bool y3, .int .u32 y4] 28)) = w8 at *
  generalize w7.heap.size = q7 at *
  generalize w5.heap.size = q5 at *
  refine (alive_any _).mono ?_; rintro e w9 ⟨rfl, k9⟩
  go_wp2_with fail
  refine (hsame.out _ (k48.trans k9)).mono ?_; rintro e w10 ⟨rfl, k10⟩
  go_wp2_with fail
  refine (hsame2.out _ ((k78.trans k9).trans k10)).mono ?_; rintro e w11 ⟨rfl, k11⟩
  have k811 := (k9.trans k10).trans k11
  have b9 := b8.kept k811 (by simp)
  have b9' := b8'.kept k811 (by simp)
  obtain ⟨s0, s1, s2, s3, s4⟩ := b9.cells
  obtain ⟨t0, t1, t2, t3, t4⟩ := b9'.cells
  try simp only at s0 s1 s2 s3 s4
  try simp only at t0 t1 t2 t3 t4
  clear b8 b8' b9 b9'
  go_wp2_with (refine wpList_eql_nd ⟨y0, y1, y2, y3, y4⟩ ⟨y0, y1, y2, y3, y4⟩ rfl _ _ _ rfl rfl rfl true (decide_eq_true rfl) ?_)
  go_ret
  exact ⟨rfl, hk8.trans k811⟩
end Go.Proofs.YteiekfccfddmjaaDoor
