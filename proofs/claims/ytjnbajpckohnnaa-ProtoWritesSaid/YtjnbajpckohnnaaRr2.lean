/- The walk of the document's Right: codes 11 to 24. -/
import Derived.Test.YtjnbajpckohnnaaTab9
import Derived.Test.YtjnbajpckohnnaaChecked
import Derived.Tactics
import Derived.Tactics2
import Derived.StillTactics
import Derived.StillTailTactics
import Derived.RegionTactic
import Derived.WalkKit
import Derived.WalkLawsBesides
import Derived.WalkSpells
import Derived.Outline
import Derived.Laws.Pointers
import Derived.Laws.Small
import Derived.Laws.Build
import Derived.Laws.Cover3
import Derived.Laws.StructEq
import Derived.KernelRfl
import Derived.Lib.Hide
import Derived.BigQuiet
import Derived.BigRegion
import Derived.OwnWalk
import Derived.LoopTactic
import Derived.Laws.ResultCell
namespace Go.Proofs.Ytjnbajpckohnnaa
open Go.RowKit

set_option maxHeartbeats 4000000 in
theorem rright_2 (p : Pk) (w : World) (hc : 11 ≤ p.code ∧ p.code ≤ 24) : Calls Try.prog 9 #[pkV p] w fun e w' => e = .returned (.bool (decide p.Right)) ∧ Only [] w w' := by
  obtain ⟨x0, x1, x2, x3, x4, x5, x6, x7, x8, x9, x10, x11, x12, x13, x14, x15, x16, x17, x18, x19⟩ := p
  simp only at hc
  have fc1 : decide (1 ≤ x7) = true := by simp; omega
  have fc2 : decide (x7 ≤ 5) = false := by simp; omega
  have fc3 : decide (11 ≤ x7) = true := by simp; omega
  have fc4 : decide (x7 ≤ 24) = true := by simp; omega
  have fc5 : (x7 == 30) = false := by simp; omega
  have gc5 : (x7 != 30) = true := by simp; omega
  have hk : knownP x7 := by unfold knownP; omega
  have h30 := Lib.hid (show ¬ x7 = 30 by omega)
  replace hc := Lib.hid hc
  by_cases t1 : x0 < 1
  · have ft1 : decide (x0 < 1) = true := by simp; omega
    have hR := Lib.hid (decide_eq_false (show ¬ Pk.Right ⟨x0, x1, x2, x3, x4, x5, x6, x7, x8, x9, x10, x11, x12, x13, x14, x15, x16, x17, x18, x19⟩ from by unfold Pk.Right; simp only; have h30 := h30.out; exact fun h => by obtain ⟨⟨⟨b1, b2⟩, b3⟩, ⟨a1, a2⟩, ⟨a3, a3'⟩, ⟨a4, a4'⟩, a5, a6, ⟨a7, a8⟩, a9⟩ := h; first | omega | (unfold knownP at a5; omega)))
    try clear e1
    try clear e2
    try clear e3
    go_enter Try.func9, Try.ntmps9
    go_wp2
    go_ret
    exact ⟨by rw [hR.out]; rfl, (Only.refl [] w).alloc _⟩
  have ft1 : decide (x0 < 1) = false := by simp; omega
  by_cases t2 : 3 < x0
  · have ft2 : decide (3 < x0) = true := by simp; omega
    have hR := Lib.hid (decide_eq_false (show ¬ Pk.Right ⟨x0, x1, x2, x3, x4, x5, x6, x7, x8, x9, x10, x11, x12, x13, x14, x15, x16, x17, x18, x19⟩ from by unfold Pk.Right; simp only; have h30 := h30.out; exact fun h => by obtain ⟨⟨⟨b1, b2⟩, b3⟩, ⟨a1, a2⟩, ⟨a3, a3'⟩, ⟨a4, a4'⟩, a5, a6, ⟨a7, a8⟩, a9⟩ := h; first | omega | (unfold knownP at a5; omega)))
    try clear e1
    try clear e2
    try clear e3
    go_enter Try.func9, Try.ntmps9
    go_wp2
    go_ret
    exact ⟨by rw [hR.out]; rfl, (Only.refl [] w).alloc _⟩
  have ft2 : decide (3 < x0) = false := by simp; omega
  by_cases e3 : x0 = 3
  · have ft3 : (x0 == 3) = true := by simp; omega
    have gt3 : (x0 != 3) = false := by simp; omega
    have hR := Lib.hid (decide_eq_false (show ¬ Pk.Right ⟨x0, x1, x2, x3, x4, x5, x6, x7, x8, x9, x10, x11, x12, x13, x14, x15, x16, x17, x18, x19⟩ from by unfold Pk.Right; simp only; have h30 := h30.out; exact fun h => by obtain ⟨⟨⟨b1, b2⟩, b3⟩, ⟨a1, a2⟩, ⟨a3, a3'⟩, ⟨a4, a4'⟩, a5, a6, ⟨a7, a8⟩, a9⟩ := h; first | omega | (unfold knownP at a5; omega)))
    try clear e1
    try clear e2
    try clear e3
    go_enter Try.func9, Try.ntmps9
    go_wp2
    go_ret
    exact ⟨by rw [hR.out]; rfl, (Only.refl [] w).alloc _⟩
  have ft3 : (x0 == 3) = false := by simp; omega
  have gt3 : (x0 != 3) = true := by simp; omega
  by_cases t4 : x1 < 0
  · have ft4 : decide (x1 < 0) = true := by simp; omega
    have hR := Lib.hid (decide_eq_false (show ¬ Pk.Right ⟨x0, x1, x2, x3, x4, x5, x6, x7, x8, x9, x10, x11, x12, x13, x14, x15, x16, x17, x18, x19⟩ from by unfold Pk.Right; simp only; have h30 := h30.out; exact fun h => by obtain ⟨⟨⟨b1, b2⟩, b3⟩, ⟨a1, a2⟩, ⟨a3, a3'⟩, ⟨a4, a4'⟩, a5, a6, ⟨a7, a8⟩, a9⟩ := h; first | omega | (unfold knownP at a5; omega)))
    try clear e1
    try clear e2
    try clear e3
    go_enter Try.func9, Try.ntmps9
    go_wp2
    go_ret
    exact ⟨by rw [hR.out]; rfl, (Only.refl [] w).alloc _⟩
  have ft4 : decide (x1 < 0) = false := by simp; omega
  by_cases t5 : 255 < x1
  · have ft5 : decide (255 < x1) = true := by simp; omega
    have hR := Lib.hid (decide_eq_false (show ¬ Pk.Right ⟨x0, x1, x2, x3, x4, x5, x6, x7, x8, x9, x10, x11, x12, x13, x14, x15, x16, x17, x18, x19⟩ from by unfold Pk.Right; simp only; have h30 := h30.out; exact fun h => by obtain ⟨⟨⟨b1, b2⟩, b3⟩, ⟨a1, a2⟩, ⟨a3, a3'⟩, ⟨a4, a4'⟩, a5, a6, ⟨a7, a8⟩, a9⟩ := h; first | omega | (unfold knownP at a5; omega)))
    try clear e1
    try clear e2
    try clear e3
    go_enter Try.func9, Try.ntmps9
    go_wp2
    go_ret
    exact ⟨by rw [hR.out]; rfl, (Only.refl [] w).alloc _⟩
  have ft5 : decide (255 < x1) = false := by simp; omega
  by_cases t6 : x2 < 0
  · have ft6 : decide (x2 < 0) = true := by simp; omega
    have hR := Lib.hid (decide_eq_false (show ¬ Pk.Right ⟨x0, x1, x2, x3, x4, x5, x6, x7, x8, x9, x10, x11, x12, x13, x14, x15, x16, x17, x18, x19⟩ from by unfold Pk.Right; simp only; have h30 := h30.out; exact fun h => by obtain ⟨⟨⟨b1, b2⟩, b3⟩, ⟨a1, a2⟩, ⟨a3, a3'⟩, ⟨a4, a4'⟩, a5, a6, ⟨a7, a8⟩, a9⟩ := h; first | omega | (unfold knownP at a5; omega)))
    try clear e1
    try clear e2
    try clear e3
    go_enter Try.func9, Try.ntmps9
    go_wp2
    go_ret
    exact ⟨by rw [hR.out]; rfl, (Only.refl [] w).alloc _⟩
  have ft6 : decide (x2 < 0) = false := by simp; omega
  by_cases t7 : 255 < x2
  · have ft7 : decide (255 < x2) = true := by simp; omega
    have hR := Lib.hid (decide_eq_false (show ¬ Pk.Right ⟨x0, x1, x2, x3, x4, x5, x6, x7, x8, x9, x10, x11, x12, x13, x14, x15, x16, x17, x18, x19⟩ from by unfold Pk.Right; simp only; have h30 := h30.out; exact fun h => by obtain ⟨⟨⟨b1, b2⟩, b3⟩, ⟨a1, a2⟩, ⟨a3, a3'⟩, ⟨a4, a4'⟩, a5, a6, ⟨a7, a8⟩, a9⟩ := h; first | omega | (unfold knownP at a5; omega)))
    try clear e1
    try clear e2
    try clear e3
    go_enter Try.func9, Try.ntmps9
    go_wp2
    go_ret
    exact ⟨by rw [hR.out]; rfl, (Only.refl [] w).alloc _⟩
  have ft7 : decide (255 < x2) = false := by simp; omega
  by_cases t8 : x8 < 0
  · have ft8 : decide (x8 < 0) = true := by simp; omega
    have hR := Lib.hid (decide_eq_false (show ¬ Pk.Right ⟨x0, x1, x2, x3, x4, x5, x6, x7, x8, x9, x10, x11, x12, x13, x14, x15, x16, x17, x18, x19⟩ from by unfold Pk.Right; simp only; have h30 := h30.out; exact fun h => by obtain ⟨⟨⟨b1, b2⟩, b3⟩, ⟨a1, a2⟩, ⟨a3, a3'⟩, ⟨a4, a4'⟩, a5, a6, ⟨a7, a8⟩, a9⟩ := h; first | omega | (unfold knownP at a5; omega)))
    try clear e1
    try clear e2
    try clear e3
    go_enter Try.func9, Try.ntmps9
    go_wp2
    go_ret
    exact ⟨by rw [hR.out]; rfl, (Only.refl [] w).alloc _⟩
  have ft8 : decide (x8 < 0) = false := by simp; omega
  by_cases t9 : 25 < x8
  · have ft9 : decide (25 < x8) = true := by simp; omega
    have hR := Lib.hid (decide_eq_false (show ¬ Pk.Right ⟨x0, x1, x2, x3, x4, x5, x6, x7, x8, x9, x10, x11, x12, x13, x14, x15, x16, x17, x18, x19⟩ from by unfold Pk.Right; simp only; have h30 := h30.out; exact fun h => by obtain ⟨⟨⟨b1, b2⟩, b3⟩, ⟨a1, a2⟩, ⟨a3, a3'⟩, ⟨a4, a4'⟩, a5, a6, ⟨a7, a8⟩, a9⟩ := h; first | omega | (unfold knownP at a5; omega)))
    try clear e1
    try clear e2
    try clear e3
    go_enter Try.func9, Try.ntmps9
    go_wp2
    go_ret
    exact ⟨by rw [hR.out]; rfl, (Only.refl [] w).alloc _⟩
  have ft9 : decide (25 < x8) = false := by simp; omega
  by_cases e1 : x0 = 2
  · have ft : (x0 == 2) = true := by simpa using e1
    have gt : (x0 != 2) = false := by simpa using e1
    by_cases s1 : 64 < x17.size
    · have fs1 : decide (((x17).size : Int) ≤ 64) = false := by simp; omega
      have gs1 : decide ((x17).size ≤ 64) = false := by simp; omega
      have hR := Lib.hid (decide_eq_false (show ¬ Pk.Right ⟨x0, x1, x2, x3, x4, x5, x6, x7, x8, x9, x10, x11, x12, x13, x14, x15, x16, x17, x18, x19⟩ from by unfold Pk.Right; simp only; have h30 := h30.out; exact fun h => by obtain ⟨⟨⟨b1, b2⟩, b3⟩, ⟨a1, a2⟩, ⟨a3, a3'⟩, ⟨a4, a4'⟩, a5, a6, ⟨a7, a8⟩, a9⟩ := h; first | omega | (unfold knownP at a5; omega)))
      try clear e1
      try clear e2
      try clear e3
      go_enter Try.func9, Try.ntmps9
      go_wp2
      go_ret
      exact ⟨by rw [hR.out]; rfl, (Only.refl [] w).alloc _⟩
    have fs1 : decide (((x17).size : Int) ≤ 64) = true := by simp; omega
    have gs1 : decide ((x17).size ≤ 64) = true := by simp; omega
    by_cases s2 : 64 < x18.size
    · have fs2 : decide (((x18).size : Int) ≤ 64) = false := by simp; omega
      have gs2 : decide ((x18).size ≤ 64) = false := by simp; omega
      have hR := Lib.hid (decide_eq_false (show ¬ Pk.Right ⟨x0, x1, x2, x3, x4, x5, x6, x7, x8, x9, x10, x11, x12, x13, x14, x15, x16, x17, x18, x19⟩ from by unfold Pk.Right; simp only; have h30 := h30.out; exact fun h => by obtain ⟨⟨⟨b1, b2⟩, b3⟩, ⟨a1, a2⟩, ⟨a3, a3'⟩, ⟨a4, a4'⟩, a5, a6, ⟨a7, a8⟩, a9⟩ := h; first | omega | (unfold knownP at a5; omega)))
      try clear e1
      try clear e2
      try clear e3
      go_enter Try.func9, Try.ntmps9
      go_wp2
      go_ret
      exact ⟨by rw [hR.out]; rfl, (Only.refl [] w).alloc _⟩
    have fs2 : decide (((x18).size : Int) ≤ 64) = true := by simp; omega
    have gs2 : decide ((x18).size ≤ 64) = true := by simp; omega
    by_cases s3 : 128 < x19.size
    · have fs3 : decide (((x19).size : Int) ≤ 128) = false := by simp; omega
      have gs3 : decide ((x19).size ≤ 128) = false := by simp; omega
      have hR := Lib.hid (decide_eq_false (show ¬ Pk.Right ⟨x0, x1, x2, x3, x4, x5, x6, x7, x8, x9, x10, x11, x12, x13, x14, x15, x16, x17, x18, x19⟩ from by unfold Pk.Right; simp only; have h30 := h30.out; exact fun h => by obtain ⟨⟨⟨b1, b2⟩, b3⟩, ⟨a1, a2⟩, ⟨a3, a3'⟩, ⟨a4, a4'⟩, a5, a6, ⟨a7, a8⟩, a9⟩ := h; first | omega | (unfold knownP at a5; omega)))
      try clear e1
      try clear e2
      try clear e3
      go_enter Try.func9, Try.ntmps9
      go_wp2
      go_ret
      exact ⟨by rw [hR.out]; rfl, (Only.refl [] w).alloc _⟩
    have fs3 : decide (((x19).size : Int) ≤ 128) = true := by simp; omega
    have gs3 : decide ((x19).size ≤ 128) = true := by simp; omega
    have hR := Lib.hid (decide_eq_true (show Pk.Right ⟨x0, x1, x2, x3, x4, x5, x6, x7, x8, x9, x10, x11, x12, x13, x14, x15, x16, x17, x18, x19⟩ from by unfold Pk.Right; simp only; have h30 := h30.out; exact ⟨⟨⟨by omega, by omega⟩, by omega⟩, ⟨by omega, by omega⟩, ⟨by omega, by omega⟩, ⟨by omega, by omega⟩, hk, by omega, ⟨by omega, by omega⟩, by omega⟩))
    try clear e1
    try clear e2
    try clear e3
    go_enter Try.func9, Try.ntmps9
    go_wp2
    go_ret
    exact ⟨by rw [hR.out]; rfl, (Only.refl [] w).alloc _⟩
  · have ft : (x0 == 2) = false := by simpa using e1
    have gt : (x0 != 2) = true := by simpa using e1
    by_cases e2 : x8 = 0
    · have fe : (x8 == 0) = true := by simpa using e2
      have ge : (x8 != 0) = false := by simpa using e2
      by_cases s1 : 64 < x17.size
      · have fs1 : decide (((x17).size : Int) ≤ 64) = false := by simp; omega
        have gs1 : decide ((x17).size ≤ 64) = false := by simp; omega
        have hR := Lib.hid (decide_eq_false (show ¬ Pk.Right ⟨x0, x1, x2, x3, x4, x5, x6, x7, x8, x9, x10, x11, x12, x13, x14, x15, x16, x17, x18, x19⟩ from by unfold Pk.Right; simp only; have h30 := h30.out; exact fun h => by obtain ⟨⟨⟨b1, b2⟩, b3⟩, ⟨a1, a2⟩, ⟨a3, a3'⟩, ⟨a4, a4'⟩, a5, a6, ⟨a7, a8⟩, a9⟩ := h; first | omega | (unfold knownP at a5; omega)))
        try clear e1
        try clear e2
        try clear e3
        go_enter Try.func9, Try.ntmps9
        go_wp2
        go_ret
        exact ⟨by rw [hR.out]; rfl, (Only.refl [] w).alloc _⟩
      have fs1 : decide (((x17).size : Int) ≤ 64) = true := by simp; omega
      have gs1 : decide ((x17).size ≤ 64) = true := by simp; omega
      by_cases s2 : 64 < x18.size
      · have fs2 : decide (((x18).size : Int) ≤ 64) = false := by simp; omega
        have gs2 : decide ((x18).size ≤ 64) = false := by simp; omega
        have hR := Lib.hid (decide_eq_false (show ¬ Pk.Right ⟨x0, x1, x2, x3, x4, x5, x6, x7, x8, x9, x10, x11, x12, x13, x14, x15, x16, x17, x18, x19⟩ from by unfold Pk.Right; simp only; have h30 := h30.out; exact fun h => by obtain ⟨⟨⟨b1, b2⟩, b3⟩, ⟨a1, a2⟩, ⟨a3, a3'⟩, ⟨a4, a4'⟩, a5, a6, ⟨a7, a8⟩, a9⟩ := h; first | omega | (unfold knownP at a5; omega)))
        try clear e1
        try clear e2
        try clear e3
        go_enter Try.func9, Try.ntmps9
        go_wp2
        go_ret
        exact ⟨by rw [hR.out]; rfl, (Only.refl [] w).alloc _⟩
      have fs2 : decide (((x18).size : Int) ≤ 64) = true := by simp; omega
      have gs2 : decide ((x18).size ≤ 64) = true := by simp; omega
      by_cases s3 : 128 < x19.size
      · have fs3 : decide (((x19).size : Int) ≤ 128) = false := by simp; omega
        have gs3 : decide ((x19).size ≤ 128) = false := by simp; omega
        have hR := Lib.hid (decide_eq_false (show ¬ Pk.Right ⟨x0, x1, x2, x3, x4, x5, x6, x7, x8, x9, x10, x11, x12, x13, x14, x15, x16, x17, x18, x19⟩ from by unfold Pk.Right; simp only; have h30 := h30.out; exact fun h => by obtain ⟨⟨⟨b1, b2⟩, b3⟩, ⟨a1, a2⟩, ⟨a3, a3'⟩, ⟨a4, a4'⟩, a5, a6, ⟨a7, a8⟩, a9⟩ := h; first | omega | (unfold knownP at a5; omega)))
        try clear e1
        try clear e2
        try clear e3
        go_enter Try.func9, Try.ntmps9
        go_wp2
        go_ret
        exact ⟨by rw [hR.out]; rfl, (Only.refl [] w).alloc _⟩
      have fs3 : decide (((x19).size : Int) ≤ 128) = true := by simp; omega
      have gs3 : decide ((x19).size ≤ 128) = true := by simp; omega
      have hR := Lib.hid (decide_eq_true (show Pk.Right ⟨x0, x1, x2, x3, x4, x5, x6, x7, x8, x9, x10, x11, x12, x13, x14, x15, x16, x17, x18, x19⟩ from by unfold Pk.Right; simp only; have h30 := h30.out; exact ⟨⟨⟨by omega, by omega⟩, by omega⟩, ⟨by omega, by omega⟩, ⟨by omega, by omega⟩, ⟨by omega, by omega⟩, hk, by omega, ⟨by omega, by omega⟩, by omega⟩))
      try clear e1
      try clear e2
      try clear e3
      go_enter Try.func9, Try.ntmps9
      go_wp2
      go_ret
      exact ⟨by rw [hR.out]; rfl, (Only.refl [] w).alloc _⟩
    · have fe : (x8 == 0) = false := by simpa using e2
      have ge : (x8 != 0) = true := by simpa using e2
      have hR := Lib.hid (decide_eq_false (show ¬ Pk.Right ⟨x0, x1, x2, x3, x4, x5, x6, x7, x8, x9, x10, x11, x12, x13, x14, x15, x16, x17, x18, x19⟩ from by unfold Pk.Right; simp only; have h30 := h30.out; exact fun h => by obtain ⟨⟨⟨b1, b2⟩, b3⟩, ⟨a1, a2⟩, ⟨a3, a3'⟩, ⟨a4, a4'⟩, a5, a6, ⟨a7, a8⟩, a9⟩ := h; first | omega | (unfold knownP at a5; omega)))
      try clear e1
      try clear e2
      try clear e3
      go_enter Try.func9, Try.ntmps9
      go_wp2
      go_ret
      exact ⟨by rw [hR.out]; rfl, (Only.refl [] w).alloc _⟩

end Go.Proofs.Ytjnbajpckohnnaa
