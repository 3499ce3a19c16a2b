/- Joined: Rr1, Rr2, Rr3, Rr9, Open9. -/
import Derived.Test.YtmelaiefbpdifaaGreatDoorFIc
import Derived.Test.YtmelaiefbpdifaaGreatDoorChecked
import Derived.Tactics
import Derived.Tactics2
import Derived.StillTactics
import Derived.StillTailTactics
import Derived.RegionTactic
import Derived.WalkKit
import Derived.WalkLawsBesides
import Derived.WalkSpells
import Derived.Outline
import Derived.Laws.Pointers
import Derived.Laws.Small
import Derived.Laws.Build
import Derived.Laws.Cover3
import Derived.Laws.StructEq
import Derived.KernelRfl
import Derived.Lib.Hide
import Derived.BigQuiet
import Derived.BigRegion
import Derived.OwnWalk
import Derived.LoopTactic
import Derived.Laws.ResultCell
import Derived.Deep.Slices
import Derived.Deep.Fields
import Derived.ProofKit
import Derived.OpenShut
/- The walk of the document's Right: codes 1 to 5. -/
namespace Go.Proofs.YtmelaiefbpdifaaGreatDoor
set_option maxRecDepth 100000
open Go.RowKit
set_option maxHeartbeats 4000000 in
theorem rright_1 (p : Pk) (w : World) (hc : 1 ≤ p.code ∧ p.code ≤ 5) : Calls Tryz.prog 29 #[pkV p] w fun e w' => e = .returned (.bool (decide p.Right)) ∧ Only [] w w' := by
 obtain ⟨x0, x1, x2, x3, x4, x5, x6, x7, x8, x9, x10, x11, x12, x13, x14, x15, x16, x17, x18, x19⟩ := p
 simp only at hc
 have fc1 : decide (1 ≤ x7) = true := by simp; omega
 have fc2 : decide (x7 ≤ 5) = true := by simp; omega
 have fc5 : (x7 == 30) = false := by simp; omega
 have gc5 : (x7 != 30) = true := by simp; omega
 have hk : knownP x7 := by unfold knownP; omega
 have h30 := Lib.hid (show ¬ x7 = 30 by omega)
 replace hc := Lib.hid hc
 by_cases t1 : x0 < 1
 ·have ft1 : decide (x0 < 1) = true := by simp; omega
  have hR := Lib.hid (decide_eq_false (show ¬ Pk.Right ⟨x0, x1, x2, x3, x4, x5, x6, x7, x8, x9, x10, x11, x12, x13, x14, x15, x16, x17, x18, x19⟩ from by unfold Pk.Right; simp only; have h30 := h30.out; exact fun h => by obtain ⟨⟨⟨b1, b2⟩, b3⟩, ⟨a1, a2⟩, ⟨a3, a3'⟩, ⟨a4, a4'⟩, a5, a6, ⟨a7, a8⟩, a9⟩ := h; first | omega | (unfold knownP at a5; omega)))
  try clear e1
  try clear e2
  try clear e3
  go_enter Tryz.func29, Tryz.ntmps29
  go_wp2
  go_ret
  exact ⟨by rw [hR.out]; rfl, (Only.refl [] w).alloc _⟩
 have ft1 : decide (x0 < 1) = false := by simp; omega
 by_cases t2 : 3 < x0
 ·have ft2 : decide (3 < x0) = true := by simp; omega
  have hR := Lib.hid (decide_eq_false (show ¬ Pk.Right ⟨x0, x1, x2, x3, x4, x5, x6, x7, x8, x9, x10, x11, x12, x13, x14, x15, x16, x17, x18, x19⟩ from by unfold Pk.Right; simp only; have h30 := h30.out; exact fun h => by obtain ⟨⟨⟨b1, b2⟩, b3⟩, ⟨a1, a2⟩, ⟨a3, a3'⟩, ⟨a4, a4'⟩, a5, a6, ⟨a7, a8⟩, a9⟩ := h; first | omega | (unfold knownP at a5; omega)))
  try clear e1
  try clear e2
  try clear e3
  go_enter Tryz.func29, Tryz.ntmps29
  go_wp2
  go_ret
  exact ⟨by rw [hR.out]; rfl, (Only.refl [] w).alloc _⟩
 have ft2 : decide (3 < x0) = false := by simp; omega
 by_cases e3 : x0 = 3
 ·have ft3 : (x0 == 3) = true := by simp; omega
  have gt3 : (x0 != 3) = false := by simp; omega
  have hR := Lib.hid (decide_eq_false (show ¬ Pk.Right ⟨x0, x1, x2, x3, x4, x5, x6, x7, x8, x9, x10, x11, x12, x13, x14, x15, x16, x17, x18, x19⟩ from by unfold Pk.Right; simp only; have h30 := h30.out; exact fun h => by obtain ⟨⟨⟨b1, b2⟩, b3⟩, ⟨a1, a2⟩, ⟨a3, a3'⟩, ⟨a4, a4'⟩, a5, a6, ⟨a7, a8⟩, a9⟩ := h; first | omega | (unfold knownP at a5; omega)))
  try clear e1
  try clear e2
  try clear e3
  go_enter Tryz.func29, Tryz.ntmps29
  go_wp2
  go_ret
  exact ⟨by rw [hR.out]; rfl, (Only.refl [] w).alloc _⟩
 have ft3 : (x0 == 3) = false := by simp; omega
 have gt3 : (x0 != 3) = true := by simp; omega
 by_cases t4 : x1 < 0
 ·have ft4 : decide (x1 < 0) = true := by simp; omega
  have hR := Lib.hid (decide_eq_false (show ¬ Pk.Right ⟨x0, x1, x2, x3, x4, x5, x6, x7, x8, x9, x10, x11, x12, x13, x14, x15, x16, x17, x18, x19⟩ from by unfold Pk.Right; simp only; have h30 := h30.out; exact fun h => by obtain ⟨⟨⟨b1, b2⟩, b3⟩, ⟨a1, a2⟩, ⟨a3, a3'⟩, ⟨a4, a4'⟩, a5, a6, ⟨a7, a8⟩, a9⟩ := h; first | omega | (unfold knownP at a5; omega)))
  try clear e1
  try clear e2
  try clear e3
  go_enter Tryz.func29, Tryz.ntmps29
  go_wp2
  go_ret
  exact ⟨by rw [hR.out]; rfl, (Only.refl [] w).alloc _⟩
 have ft4 : decide (x1 < 0) = false := by simp; omega
 by_cases t5 : 255 < x1
 ·have ft5 : decide (255 < x1) = true := by simp; omega
  have hR := Lib.hid (decide_eq_false (show ¬ Pk.Right ⟨x0, x1, x2, x3, x4, x5, x6, x7, x8, x9, x10, x11, x12, x13, x14, x15, x16, x17, x18, x19⟩ from by unfold Pk.Right; simp only; have h30 := h30.out; exact fun h => by obtain ⟨⟨⟨b1, b2⟩, b3⟩, ⟨a1, a2⟩, ⟨a3, a3'⟩, ⟨a4, a4'⟩, a5, a6, ⟨a7, a8⟩, a9⟩ := h; first | omega | (unfold knownP at a5; omega)))
  try clear e1
  try clear e2
  try clear e3
  go_enter Tryz.func29, Tryz.ntmps29
  go_wp2
  go_ret
  exact ⟨by rw [hR.out]; rfl, (Only.refl [] w).alloc _⟩
 have ft5 : decide (255 < x1) = false := by simp; omega
 by_cases t6 : x2 < 0
 ·have ft6 : decide (x2 < 0) = true := by simp; omega
  have hR := Lib.hid (decide_eq_false (show ¬ Pk.Right ⟨x0, x1, x2, x3, x4, x5, x6, x7, x8, x9, x10, x11, x12, x13, x14, x15, x16, x17, x18, x19⟩ from by unfold Pk.Right; simp only; have h30 := h30.out; exact fun h => by obtain ⟨⟨⟨b1, b2⟩, b3⟩, ⟨a1, a2⟩, ⟨a3, a3'⟩, ⟨a4, a4'⟩, a5, a6, ⟨a7, a8⟩, a9⟩ := h; first | omega | (unfold knownP at a5; omega)))
  try clear e1
  try clear e2
  try clear e3
  go_enter Tryz.func29, Tryz.ntmps29
  go_wp2
  go_ret
  exact ⟨by rw [hR.out]; rfl, (Only.refl [] w).alloc _⟩
 have ft6 : decide (x2 < 0) = false := by simp; omega
 by_cases t7 : 255 < x2
 ·have ft7 : decide (255 < x2) = true := by simp; omega
  have hR := Lib.hid (decide_eq_false (show ¬ Pk.Right ⟨x0, x1, x2, x3, x4, x5, x6, x7, x8, x9, x10, x11, x12, x13, x14, x15, x16, x17, x18, x19⟩ from by unfold Pk.Right; simp only; have h30 := h30.out; exact fun h => by obtain ⟨⟨⟨b1, b2⟩, b3⟩, ⟨a1, a2⟩, ⟨a3, a3'⟩, ⟨a4, a4'⟩, a5, a6, ⟨a7, a8⟩, a9⟩ := h; first | omega | (unfold knownP at a5; omega)))
  try clear e1
  try clear e2
  try clear e3
  go_enter Tryz.func29, Tryz.ntmps29
  go_wp2
  go_ret
  exact ⟨by rw [hR.out]; rfl, (Only.refl [] w).alloc _⟩
 have ft7 : decide (255 < x2) = false := by simp; omega
 by_cases t8 : x8 < 0
 ·have ft8 : decide (x8 < 0) = true := by simp; omega
  have hR := Lib.hid (decide_eq_false (show ¬ Pk.Right ⟨x0, x1, x2, x3, x4, x5, x6, x7, x8, x9, x10, x11, x12, x13, x14, x15, x16, x17, x18, x19⟩ from by unfold Pk.Right; simp only; have h30 := h30.out; exact fun h => by obtain ⟨⟨⟨b1, b2⟩, b3⟩, ⟨a1, a2⟩, ⟨a3, a3'⟩, ⟨a4, a4'⟩, a5, a6, ⟨a7, a8⟩, a9⟩ := h; first | omega | (unfold knownP at a5; omega)))
  try clear e1
  try clear e2
  try clear e3
  go_enter Tryz.func29, Tryz.ntmps29
  go_wp2
  go_ret
  exact ⟨by rw [hR.out]; rfl, (Only.refl [] w).alloc _⟩
 have ft8 : decide (x8 < 0) = false := by simp; omega
 by_cases t9 : 25 < x8
 ·have ft9 : decide (25 < x8) = true := by simp; omega
  have hR := Lib.hid (decide_eq_false (show ¬ Pk.Right ⟨x0, x1, x2, x3, x4, x5, x6, x7, x8, x9, x10, x11, x12, x13, x14, x15, x16, x17, x18, x19⟩ from by unfold Pk.Right; simp only; have h30 := h30.out; exact fun h => by obtain ⟨⟨⟨b1, b2⟩, b3⟩, ⟨a1, a2⟩, ⟨a3, a3'⟩, ⟨a4, a4'⟩, a5, a6, ⟨a7, a8⟩, a9⟩ := h; first | omega | (unfold knownP at a5; omega)))
  try clear e1
  try clear e2
  try clear e3
  go_enter Tryz.func29, Tryz.ntmps29
  go_wp2
  go_ret
  exact ⟨by rw [hR.out]; rfl, (Only.refl [] w).alloc _⟩
 have ft9 : decide (25 < x8) = false := by simp; omega
 by_cases e1 : x0 = 2
 ·have ft : (x0 == 2) = true := by simpa using e1
  have gt : (x0 != 2) = false := by simpa using e1
  by_cases s1 : 64 < x17.size
  ·have fs1 : decide (((x17).size : Int) ≤ 64) = false := by simp; omega
   have gs1 : decide ((x17).size ≤ 64) = false := by simp; omega
   have hR := Lib.hid (decide_eq_false (show ¬ Pk.Right ⟨x0, x1, x2, x3, x4, x5, x6, x7, x8, x9, x10, x11, x12, x13, x14, x15, x16, x17, x18, x19⟩ from by unfold Pk.Right; simp only; have h30 := h30.out; exact fun h => by obtain ⟨⟨⟨b1, b2⟩, b3⟩, ⟨a1, a2⟩, ⟨a3, a3'⟩, ⟨a4, a4'⟩, a5, a6, ⟨a7, a8⟩, a9⟩ := h; first | omega | (unfold knownP at a5; omega)))
   try clear e1
   try clear e2
   try clear e3
   go_enter Tryz.func29, Tryz.ntmps29
   go_wp2
   go_ret
   exact ⟨by rw [hR.out]; rfl, (Only.refl [] w).alloc _⟩
  have fs1 : decide (((x17).size : Int) ≤ 64) = true := by simp; omega
  have gs1 : decide ((x17).size ≤ 64) = true := by simp; omega
  by_cases s2 : 64 < x18.size
  ·have fs2 : decide (((x18).size : Int) ≤ 64) = false := by simp; omega
   have gs2 : decide ((x18).size ≤ 64) = false := by simp; omega
   have hR := Lib.hid (decide_eq_false (show ¬ Pk.Right ⟨x0, x1, x2, x3, x4, x5, x6, x7, x8, x9, x10, x11, x12, x13, x14, x15, x16, x17, x18, x19⟩ from by unfold Pk.Right; simp only; have h30 := h30.out; exact fun h => by obtain ⟨⟨⟨b1, b2⟩, b3⟩, ⟨a1, a2⟩, ⟨a3, a3'⟩, ⟨a4, a4'⟩, a5, a6, ⟨a7, a8⟩, a9⟩ := h; first | omega | (unfold knownP at a5; omega)))
   try clear e1
   try clear e2
   try clear e3
   go_enter Tryz.func29, Tryz.ntmps29
   go_wp2
   go_ret
   exact ⟨by rw [hR.out]; rfl, (Only.refl [] w).alloc _⟩
  have fs2 : decide (((x18).size : Int) ≤ 64) = true := by simp; omega
  have gs2 : decide ((x18).size ≤ 64) = true := by simp; omega
  by_cases s3 : 128 < x19.size
  ·have fs3 : decide (((x19).size : Int) ≤ 128) = false := by simp; omega
   have gs3 : decide ((x19).size ≤ 128) = false := by simp; omega
   have hR := Lib.hid (decide_eq_false (show ¬ Pk.Right ⟨x0, x1, x2, x3, x4, x5, x6, x7, x8, x9, x10, x11, x12, x13, x14, x15, x16, x17, x18, x19⟩ from by unfold Pk.Right; simp only; have h30 := h30.out; exact fun h => by obtain ⟨⟨⟨b1, b2⟩, b3⟩, ⟨a1, a2⟩, ⟨a3, a3'⟩, ⟨a4, a4'⟩, a5, a6, ⟨a7, a8⟩, a9⟩ := h; first | omega | (unfold knownP at a5; omega)))
   try clear e1
   try clear e2
   try clear e3
   go_enter Tryz.func29, Tryz.ntmps29
   go_wp2
   go_ret
   exact ⟨by rw [hR.out]; rfl, (Only.refl [] w).alloc _⟩
  have fs3 : decide (((x19).size : Int) ≤ 128) = true := by simp; omega
  have gs3 : decide ((x19).size ≤ 128) = true := by simp; omega
  have hR := Lib.hid (decide_eq_true (show Pk.Right ⟨x0, x1, x2, x3, x4, x5, x6, x7, x8, x9, x10, x11, x12, x13, x14, x15, x16, x17, x18, x19⟩ from by unfold Pk.Right; simp only; have h30 := h30.out; exact ⟨⟨⟨by omega, by omega⟩, by omega⟩, ⟨by omega, by omega⟩, ⟨by omega, by omega⟩, ⟨by omega, by omega⟩, hk, by omega, ⟨by omega, by omega⟩, by omega⟩))
  try clear e1
  try clear e2
  try clear e3
  go_enter Tryz.func29, Tryz.ntmps29
  go_wp2
  go_ret
  exact ⟨by rw [hR.out]; rfl, (Only.refl [] w).alloc _⟩
 ·have ft : (x0 == 2) = false := by simpa using e1
  have gt : (x0 != 2) = true := by simpa using e1
  by_cases e2 : x8 = 0
  ·have fe : (x8 == 0) = true := by simpa using e2
   have ge : (x8 != 0) = false := by simpa using e2
   by_cases s1 : 64 < x17.size
   ·have fs1 : decide (((x17).size : Int) ≤ 64) = false := by simp; omega
    have gs1 : decide ((x17).size ≤ 64) = false := by simp; omega
    have hR := Lib.hid (decide_eq_false (show ¬ Pk.Right ⟨x0, x1, x2, x3, x4, x5, x6, x7, x8, x9, x10, x11, x12, x13, x14, x15, x16, x17, x18, x19⟩ from by unfold Pk.Right; simp only; have h30 := h30.out; exact fun h => by obtain ⟨⟨⟨b1, b2⟩, b3⟩, ⟨a1, a2⟩, ⟨a3, a3'⟩, ⟨a4, a4'⟩, a5, a6, ⟨a7, a8⟩, a9⟩ := h; first | omega | (unfold knownP at a5; omega)))
    try clear e1
    try clear e2
    try clear e3
    go_enter Tryz.func29, Tryz.ntmps29
    go_wp2
    go_ret
    exact ⟨by rw [hR.out]; rfl, (Only.refl [] w).alloc _⟩
   have fs1 : decide (((x17).size : Int) ≤ 64) = true := by simp; omega
   have gs1 : decide ((x17).size ≤ 64) = true := by simp; omega
   by_cases s2 : 64 < x18.size
   ·have fs2 : decide (((x18).size : Int) ≤ 64) = false := by simp; omega
    have gs2 : decide ((x18).size ≤ 64) = false := by simp; omega
    have hR := Lib.hid (decide_eq_false (show ¬ Pk.Right ⟨x0, x1, x2, x3, x4, x5, x6, x7, x8, x9, x10, x11, x12, x13, x14, x15, x16, x17, x18, x19⟩ from by unfold Pk.Right; simp only; have h30 := h30.out; exact fun h => by obtain ⟨⟨⟨b1, b2⟩, b3⟩, ⟨a1, a2⟩, ⟨a3, a3'⟩, ⟨a4, a4'⟩, a5, a6, ⟨a7, a8⟩, a9⟩ := h; first | omega | (unfold knownP at a5; omega)))
    try clear e1
    try clear e2
    try clear e3
    go_enter Tryz.func29, Tryz.ntmps29
    go_wp2
    go_ret
    exact ⟨by rw [hR.out]; rfl, (Only.refl [] w).alloc _⟩
   have fs2 : decide (((x18).size : Int) ≤ 64) = true := by simp; omega
   have gs2 : decide ((x18).size ≤ 64) = true := by simp; omega
   by_cases s3 : 128 < x19.size
   ·have fs3 : decide (((x19).size : Int) ≤ 128) = false := by simp; omega
    have gs3 : decide ((x19).size ≤ 128) = false := by simp; omega
    have hR := Lib.hid (decide_eq_false (show ¬ Pk.Right ⟨x0, x1, x2, x3, x4, x5, x6, x7, x8, x9, x10, x11, x12, x13, x14, x15, x16, x17, x18, x19⟩ from by unfold Pk.Right; simp only; have h30 := h30.out; exact fun h => by obtain ⟨⟨⟨b1, b2⟩, b3⟩, ⟨a1, a2⟩, ⟨a3, a3'⟩, ⟨a4, a4'⟩, a5, a6, ⟨a7, a8⟩, a9⟩ := h; first | omega | (unfold knownP at a5; omega)))
    try clear e1
    try clear e2
    try clear e3
    go_enter Tryz.func29, Tryz.ntmps29
    go_wp2
    go_ret
    exact ⟨by rw [hR.out]; rfl, (Only.refl [] w).alloc _⟩
   have fs3 : decide (((x19).size : Int) ≤ 128) = true := by simp; omega
   have gs3 : decide ((x19).size ≤ 128) = true := by simp; omega
   have hR := Lib.hid (decide_eq_true (show Pk.Right ⟨x0, x1, x2, x3, x4, x5, x6, x7, x8, x9, x10, x11, x12, x13, x14, x15, x16, x17, x18, x19⟩ from by unfold Pk.Right; simp only; have h30 := h30.out; exact ⟨⟨⟨by omega, by omega⟩, by omega⟩, ⟨by omega, by omega⟩, ⟨by omega, by omega⟩, ⟨by omega, by omega⟩, hk, by omega, ⟨by omega, by omega⟩, by omega⟩))
   try clear e1
   try clear e2
   try clear e3
   go_enter Tryz.func29, Tryz.ntmps29
   go_wp2
   go_ret
   exact ⟨by rw [hR.out]; rfl, (Only.refl [] w).alloc _⟩
  ·have fe : (x8 == 0) = false := by simpa using e2
   have ge : (x8 != 0) = true := by simpa using e2
   have hR := Lib.hid (decide_eq_false (show ¬ Pk.Right ⟨x0, x1, x2, x3, x4, x5, x6, x7, x8, x9, x10, x11, x12, x13, x14, x15, x16, x17, x18, x19⟩ from by unfold Pk.Right; simp only; have h30 := h30.out; exact fun h => by obtain ⟨⟨⟨b1, b2⟩, b3⟩, ⟨a1, a2⟩, ⟨a3, a3'⟩, ⟨a4, a4'⟩, a5, a6, ⟨a7, a8⟩, a9⟩ := h; first | omega | (unfold knownP at a5; omega)))
   try clear e1
   try clear e2
   try clear e3
   go_enter Tryz.func29, Tryz.ntmps29
   go_wp2
   go_ret
   exact ⟨by rw [hR.out]; rfl, (Only.refl [] w).alloc _⟩
end Go.Proofs.YtmelaiefbpdifaaGreatDoor
/- The walk of the document's Right: codes 11 to 24. -/
namespace Go.Proofs.YtmelaiefbpdifaaGreatDoor
set_option maxRecDepth 100000
open Go.RowKit
set_option maxHeartbeats 4000000 in
theorem rright_2 (p : Pk) (w : World) (hc : 11 ≤ p.code ∧ p.code ≤ 24) : Calls Tryz.prog 29 #[pkV p] w fun e w' => e = .returned (.bool (decide p.Right)) ∧ Only [] w w' := by
 obtain ⟨x0, x1, x2, x3, x4, x5, x6, x7, x8, x9, x10, x11, x12, x13, x14, x15, x16, x17, x18, x19⟩ := p
 simp only at hc
 have fc1 : decide (1 ≤ x7) = true := by simp; omega
 have fc2 : decide (x7 ≤ 5) = false := by simp; omega
 have fc3 : decide (11 ≤ x7) = true := by simp; omega
 have fc4 : decide (x7 ≤ 24) = true := by simp; omega
 have fc5 : (x7 == 30) = false := by simp; omega
 have gc5 : (x7 != 30) = true := by simp; omega
 have hk : knownP x7 := by unfold knownP; omega
 have h30 := Lib.hid (show ¬ x7 = 30 by omega)
 replace hc := Lib.hid hc
 by_cases t1 : x0 < 1
 ·have ft1 : decide (x0 < 1) = true := by simp; omega
  have hR := Lib.hid (decide_eq_false (show ¬ Pk.Right ⟨x0, x1, x2, x3, x4, x5, x6, x7, x8, x9, x10, x11, x12, x13, x14, x15, x16, x17, x18, x19⟩ from by unfold Pk.Right; simp only; have h30 := h30.out; exact fun h => by obtain ⟨⟨⟨b1, b2⟩, b3⟩, ⟨a1, a2⟩, ⟨a3, a3'⟩, ⟨a4, a4'⟩, a5, a6, ⟨a7, a8⟩, a9⟩ := h; first | omega | (unfold knownP at a5; omega)))
  try clear e1
  try clear e2
  try clear e3
  go_enter Tryz.func29, Tryz.ntmps29
  go_wp2
  go_ret
  exact ⟨by rw [hR.out]; rfl, (Only.refl [] w).alloc _⟩
 have ft1 : decide (x0 < 1) = false := by simp; omega
 by_cases t2 : 3 < x0
 ·have ft2 : decide (3 < x0) = true := by simp; omega
  have hR := Lib.hid (decide_eq_false (show ¬ Pk.Right ⟨x0, x1, x2, x3, x4, x5, x6, x7, x8, x9, x10, x11, x12, x13, x14, x15, x16, x17, x18, x19⟩ from by unfold Pk.Right; simp only; have h30 := h30.out; exact fun h => by obtain ⟨⟨⟨b1, b2⟩, b3⟩, ⟨a1, a2⟩, ⟨a3, a3'⟩, ⟨a4, a4'⟩, a5, a6, ⟨a7, a8⟩, a9⟩ := h; first | omega | (unfold knownP at a5; omega)))
  try clear e1
  try clear e2
  try clear e3
  go_enter Tryz.func29, Tryz.ntmps29
  go_wp2
  go_ret
  exact ⟨by rw [hR.out]; rfl, (Only.refl [] w).alloc _⟩
 have ft2 : decide (3 < x0) = false := by simp; omega
 by_cases e3 : x0 = 3
 ·have ft3 : (x0 == 3) = true := by simp; omega
  have gt3 : (x0 != 3) = false := by simp; omega
  have hR := Lib.hid (decide_eq_false (show ¬ Pk.Right ⟨x0, x1, x2, x3, x4, x5, x6, x7, x8, x9, x10, x11, x12, x13, x14, x15, x16, x17, x18, x19⟩ from by unfold Pk.Right; simp only; have h30 := h30.out; exact fun h => by obtain ⟨⟨⟨b1, b2⟩, b3⟩, ⟨a1, a2⟩, ⟨a3, a3'⟩, ⟨a4, a4'⟩, a5, a6, ⟨a7, a8⟩, a9⟩ := h; first | omega | (unfold knownP at a5; omega)))
  try clear e1
  try clear e2
  try clear e3
  go_enter Tryz.func29, Tryz.ntmps29
  go_wp2
  go_ret
  exact ⟨by rw [hR.out]; rfl, (Only.refl [] w).alloc _⟩
 have ft3 : (x0 == 3) = false := by simp; omega
 have gt3 : (x0 != 3) = true := by simp; omega
 by_cases t4 : x1 < 0
 ·have ft4 : decide (x1 < 0) = true := by simp; omega
  have hR := Lib.hid (decide_eq_false (show ¬ Pk.Right ⟨x0, x1, x2, x3, x4, x5, x6, x7, x8, x9, x10, x11, x12, x13, x14, x15, x16, x17, x18, x19⟩ from by unfold Pk.Right; simp only; have h30 := h30.out; exact fun h => by obtain ⟨⟨⟨b1, b2⟩, b3⟩, ⟨a1, a2⟩, ⟨a3, a3'⟩, ⟨a4, a4'⟩, a5, a6, ⟨a7, a8⟩, a9⟩ := h; first | omega | (unfold knownP at a5; omega)))
  try clear e1
  try clear e2
  try clear e3
  go_enter Tryz.func29, Tryz.ntmps29
  go_wp2
  go_ret
  exact ⟨by rw [hR.out]; rfl, (Only.refl [] w).alloc _⟩
 have ft4 : decide (x1 < 0) = false := by simp; omega
 by_cases t5 : 255 < x1
 ·have ft5 : decide (255 < x1) = true := by simp; omega
  have hR := Lib.hid (decide_eq_false (show ¬ Pk.Right ⟨x0, x1, x2, x3, x4, x5, x6, x7, x8, x9, x10, x11, x12, x13, x14, x15, x16, x17, x18, x19⟩ from by unfold Pk.Right; simp only; have h30 := h30.out; exact fun h => by obtain ⟨⟨⟨b1, b2⟩, b3⟩, ⟨a1, a2⟩, ⟨a3, a3'⟩, ⟨a4, a4'⟩, a5, a6, ⟨a7, a8⟩, a9⟩ := h; first | omega | (unfold knownP at a5; omega)))
  try clear e1
  try clear e2
  try clear e3
  go_enter Tryz.func29, Tryz.ntmps29
  go_wp2
  go_ret
  exact ⟨by rw [hR.out]; rfl, (Only.refl [] w).alloc _⟩
 have ft5 : decide (255 < x1) = false := by simp; omega
 by_cases t6 : x2 < 0
 ·have ft6 : decide (x2 < 0) = true := by simp; omega
  have hR := Lib.hid (decide_eq_false (show ¬ Pk.Right ⟨x0, x1, x2, x3, x4, x5, x6, x7, x8, x9, x10, x11, x12, x13, x14, x15, x16, x17, x18, x19⟩ from by unfold Pk.Right; simp only; have h30 := h30.out; exact fun h => by obtain ⟨⟨⟨b1, b2⟩, b3⟩, ⟨a1, a2⟩, ⟨a3, a3'⟩, ⟨a4, a4'⟩, a5, a6, ⟨a7, a8⟩, a9⟩ := h; first | omega | (unfold knownP at a5; omega)))
  try clear e1
  try clear e2
  try clear e3
  go_enter Tryz.func29, Tryz.ntmps29
  go_wp2
  go_ret
  exact ⟨by rw [hR.out]; rfl, (Only.refl [] w).alloc _⟩
 have ft6 : decide (x2 < 0) = false := by simp; omega
 by_cases t7 : 255 < x2
 ·have ft7 : decide (255 < x2) = true := by simp; omega
  have hR := Lib.hid (decide_eq_false (show ¬ Pk.Right ⟨x0, x1, x2, x3, x4, x5, x6, x7, x8, x9, x10, x11, x12, x13, x14, x15, x16, x17, x18, x19⟩ from by unfold Pk.Right; simp only; have h30 := h30.out; exact fun h => by obtain ⟨⟨⟨b1, b2⟩, b3⟩, ⟨a1, a2⟩, ⟨a3, a3'⟩, ⟨a4, a4'⟩, a5, a6, ⟨a7, a8⟩, a9⟩ := h; first | omega | (unfold knownP at a5; omega)))
  try clear e1
  try clear e2
  try clear e3
  go_enter Tryz.func29, Tryz.ntmps29
  go_wp2
  go_ret
  exact ⟨by rw [hR.out]; rfl, (Only.refl [] w).alloc _⟩
 have ft7 : decide (255 < x2) = false := by simp; omega
 by_cases t8 : x8 < 0
 ·have ft8 : decide (x8 < 0) = true := by simp; omega
  have hR := Lib.hid (decide_eq_false (show ¬ Pk.Right ⟨x0, x1, x2, x3, x4, x5, x6, x7, x8, x9, x10, x11, x12, x13, x14, x15, x16, x17, x18, x19⟩ from by unfold Pk.Right; simp only; have h30 := h30.out; exact fun h => by obtain ⟨⟨⟨b1, b2⟩, b3⟩, ⟨a1, a2⟩, ⟨a3, a3'⟩, ⟨a4, a4'⟩, a5, a6, ⟨a7, a8⟩, a9⟩ := h; first | omega | (unfold knownP at a5; omega)))
  try clear e1
  try clear e2
  try clear e3
  go_enter Tryz.func29, Tryz.ntmps29
  go_wp2
  go_ret
  exact ⟨by rw [hR.out]; rfl, (Only.refl [] w).alloc _⟩
 have ft8 : decide (x8 < 0) = false := by simp; omega
 by_cases t9 : 25 < x8
 ·have ft9 : decide (25 < x8) = true := by simp; omega
  have hR := Lib.hid (decide_eq_false (show ¬ Pk.Right ⟨x0, x1, x2, x3, x4, x5, x6, x7, x8, x9, x10, x11, x12, x13, x14, x15, x16, x17, x18, x19⟩ from by unfold Pk.Right; simp only; have h30 := h30.out; exact fun h => by obtain ⟨⟨⟨b1, b2⟩, b3⟩, ⟨a1, a2⟩, ⟨a3, a3'⟩, ⟨a4, a4'⟩, a5, a6, ⟨a7, a8⟩, a9⟩ := h; first | omega | (unfold knownP at a5; omega)))
  try clear e1
  try clear e2
  try clear e3
  go_enter Tryz.func29, Tryz.ntmps29
  go_wp2
  go_ret
  exact ⟨by rw [hR.out]; rfl, (Only.refl [] w).alloc _⟩
 have ft9 : decide (25 < x8) = false := by simp; omega
 by_cases e1 : x0 = 2
 ·have ft : (x0 == 2) = true := by simpa using e1
  have gt : (x0 != 2) = false := by simpa using e1
  by_cases s1 : 64 < x17.size
  ·have fs1 : decide (((x17).size : Int) ≤ 64) = false := by simp; omega
   have gs1 : decide ((x17).size ≤ 64) = false := by simp; omega
   have hR := Lib.hid (decide_eq_false (show ¬ Pk.Right ⟨x0, x1, x2, x3, x4, x5, x6, x7, x8, x9, x10, x11, x12, x13, x14, x15, x16, x17, x18, x19⟩ from by unfold Pk.Right; simp only; have h30 := h30.out; exact fun h => by obtain ⟨⟨⟨b1, b2⟩, b3⟩, ⟨a1, a2⟩, ⟨a3, a3'⟩, ⟨a4, a4'⟩, a5, a6, ⟨a7, a8⟩, a9⟩ := h; first | omega | (unfold knownP at a5; omega)))
   try clear e1
   try clear e2
   try clear e3
   go_enter Tryz.func29, Tryz.ntmps29
   go_wp2
   go_ret
   exact ⟨by rw [hR.out]; rfl, (Only.refl [] w).alloc _⟩
  have fs1 : decide (((x17).size : Int) ≤ 64) = true := by simp; omega
  have gs1 : decide ((x17).size ≤ 64) = true := by simp; omega
  by_cases s2 : 64 < x18.size
  ·have fs2 : decide (((x18).size : Int) ≤ 64) = false := by simp; omega
   have gs2 : decide ((x18).size ≤ 64) = false := by simp; omega
   have hR := Lib.hid (decide_eq_false (show ¬ Pk.Right ⟨x0, x1, x2, x3, x4, x5, x6, x7, x8, x9, x10, x11, x12, x13, x14, x15, x16, x17, x18, x19⟩ from by unfold Pk.Right; simp only; have h30 := h30.out; exact fun h => by obtain ⟨⟨⟨b1, b2⟩, b3⟩, ⟨a1, a2⟩, ⟨a3, a3'⟩, ⟨a4, a4'⟩, a5, a6, ⟨a7, a8⟩, a9⟩ := h; first | omega | (unfold knownP at a5; omega)))
   try clear e1
   try clear e2
   try clear e3
   go_enter Tryz.func29, Tryz.ntmps29
   go_wp2
   go_ret
   exact ⟨by rw [hR.out]; rfl, (Only.refl [] w).alloc _⟩
  have fs2 : decide (((x18).size : Int) ≤ 64) = true := by simp; omega
  have gs2 : decide ((x18).size ≤ 64) = true := by simp; omega
  by_cases s3 : 128 < x19.size
  ·have fs3 : decide (((x19).size : Int) ≤ 128) = false := by simp; omega
   have gs3 : decide ((x19).size ≤ 128) = false := by simp; omega
   have hR := Lib.hid (decide_eq_false (show ¬ Pk.Right ⟨x0, x1, x2, x3, x4, x5, x6, x7, x8, x9, x10, x11, x12, x13, x14, x15, x16, x17, x18, x19⟩ from by unfold Pk.Right; simp only; have h30 := h30.out; exact fun h => by obtain ⟨⟨⟨b1, b2⟩, b3⟩, ⟨a1, a2⟩, ⟨a3, a3'⟩, ⟨a4, a4'⟩, a5, a6, ⟨a7, a8⟩, a9⟩ := h; first | omega | (unfold knownP at a5; omega)))
   try clear e1
   try clear e2
   try clear e3
   go_enter Tryz.func29, Tryz.ntmps29
   go_wp2
   go_ret
   exact ⟨by rw [hR.out]; rfl, (Only.refl [] w).alloc _⟩
  have fs3 : decide (((x19).size : Int) ≤ 128) = true := by simp; omega
  have gs3 : decide ((x19).size ≤ 128) = true := by simp; omega
  have hR := Lib.hid (decide_eq_true (show Pk.Right ⟨x0, x1, x2, x3, x4, x5, x6, x7, x8, x9, x10, x11, x12, x13, x14, x15, x16, x17, x18, x19⟩ from by unfold Pk.Right; simp only; have h30 := h30.out; exact ⟨⟨⟨by omega, by omega⟩, by omega⟩, ⟨by omega, by omega⟩, ⟨by omega, by omega⟩, ⟨by omega, by omega⟩, hk, by omega, ⟨by omega, by omega⟩, by omega⟩))
  try clear e1
  try clear e2
  try clear e3
  go_enter Tryz.func29, Tryz.ntmps29
  go_wp2
  go_ret
  exact ⟨by rw [hR.out]; rfl, (Only.refl [] w).alloc _⟩
 ·have ft : (x0 == 2) = false := by simpa using e1
  have gt : (x0 != 2) = true := by simpa using e1
  by_cases e2 : x8 = 0
  ·have fe : (x8 == 0) = true := by simpa using e2
   have ge : (x8 != 0) = false := by simpa using e2
   by_cases s1 : 64 < x17.size
   ·have fs1 : decide (((x17).size : Int) ≤ 64) = false := by simp; omega
    have gs1 : decide ((x17).size ≤ 64) = false := by simp; omega
    have hR := Lib.hid (decide_eq_false (show ¬ Pk.Right ⟨x0, x1, x2, x3, x4, x5, x6, x7, x8, x9, x10, x11, x12, x13, x14, x15, x16, x17, x18, x19⟩ from by unfold Pk.Right; simp only; have h30 := h30.out; exact fun h => by obtain ⟨⟨⟨b1, b2⟩, b3⟩, ⟨a1, a2⟩, ⟨a3, a3'⟩, ⟨a4, a4'⟩, a5, a6, ⟨a7, a8⟩, a9⟩ := h; first | omega | (unfold knownP at a5; omega)))
    try clear e1
    try clear e2
    try clear e3
    go_enter Tryz.func29, Tryz.ntmps29
    go_wp2
    go_ret
    exact ⟨by rw [hR.out]; rfl, (Only.refl [] w).alloc _⟩
   have fs1 : decide (((x17).size : Int) ≤ 64) = true := by simp; omega
   have gs1 : decide ((x17).size ≤ 64) = true := by simp; omega
   by_cases s2 : 64 < x18.size
   ·have fs2 : decide (((x18).size : Int) ≤ 64) = false := by simp; omega
    have gs2 : decide ((x18).size ≤ 64) = false := by simp; omega
    have hR := Lib.hid (decide_eq_false (show ¬ Pk.Right ⟨x0, x1, x2, x3, x4, x5, x6, x7, x8, x9, x10, x11, x12, x13, x14, x15, x16, x17, x18, x19⟩ from by unfold Pk.Right; simp only; have h30 := h30.out; exact fun h => by obtain ⟨⟨⟨b1, b2⟩, b3⟩, ⟨a1, a2⟩, ⟨a3, a3'⟩, ⟨a4, a4'⟩, a5, a6, ⟨a7, a8⟩, a9⟩ := h; first | omega | (unfold knownP at a5; omega)))
    try clear e1
    try clear e2
    try clear e3
    go_enter Tryz.func29, Tryz.ntmps29
    go_wp2
    go_ret
    exact ⟨by rw [hR.out]; rfl, (Only.refl [] w).alloc _⟩
   have fs2 : decide (((x18).size : Int) ≤ 64) = true := by simp; omega
   have gs2 : decide ((x18).size ≤ 64) = true := by simp; omega
   by_cases s3 : 128 < x19.size
   ·have fs3 : decide (((x19).size : Int) ≤ 128) = false := by simp; omega
    have gs3 : decide ((x19).size ≤ 128) = false := by simp; omega
    have hR := Lib.hid (decide_eq_false (show ¬ Pk.Right ⟨x0, x1, x2, x3, x4, x5, x6, x7, x8, x9, x10, x11, x12, x13, x14, x15, x16, x17, x18, x19⟩ from by unfold Pk.Right; simp only; have h30 := h30.out; exact fun h => by obtain ⟨⟨⟨b1, b2⟩, b3⟩, ⟨a1, a2⟩, ⟨a3, a3'⟩, ⟨a4, a4'⟩, a5, a6, ⟨a7, a8⟩, a9⟩ := h; first | omega | (unfold knownP at a5; omega)))
    try clear e1
    try clear e2
    try clear e3
    go_enter Tryz.func29, Tryz.ntmps29
    go_wp2
    go_ret
    exact ⟨by rw [hR.out]; rfl, (Only.refl [] w).alloc _⟩
   have fs3 : decide (((x19).size : Int) ≤ 128) = true := by simp; omega
   have gs3 : decide ((x19).size ≤ 128) = true := by simp; omega
   have hR := Lib.hid (decide_eq_true (show Pk.Right ⟨x0, x1, x2, x3, x4, x5, x6, x7, x8, x9, x10, x11, x12, x13, x14, x15, x16, x17, x18, x19⟩ from by unfold Pk.Right; simp only; have h30 := h30.out; exact ⟨⟨⟨by omega, by omega⟩, by omega⟩, ⟨by omega, by omega⟩, ⟨by omega, by omega⟩, ⟨by omega, by omega⟩, hk, by omega, ⟨by omega, by omega⟩, by omega⟩))
   try clear e1
   try clear e2
   try clear e3
   go_enter Tryz.func29, Tryz.ntmps29
   go_wp2
   go_ret
   exact ⟨by rw [hR.out]; rfl, (Only.refl [] w).alloc _⟩
  ·have fe : (x8 == 0) = false := by simpa using e2
   have ge : (x8 != 0) = true := by simpa using e2
   have hR := Lib.hid (decide_eq_false (show ¬ Pk.Right ⟨x0, x1, x2, x3, x4, x5, x6, x7, x8, x9, x10, x11, x12, x13, x14, x15, x16, x17, x18, x19⟩ from by unfold Pk.Right; simp only; have h30 := h30.out; exact fun h => by obtain ⟨⟨⟨b1, b2⟩, b3⟩, ⟨a1, a2⟩, ⟨a3, a3'⟩, ⟨a4, a4'⟩, a5, a6, ⟨a7, a8⟩, a9⟩ := h; first | omega | (unfold knownP at a5; omega)))
   try clear e1
   try clear e2
   try clear e3
   go_enter Tryz.func29, Tryz.ntmps29
   go_wp2
   go_ret
   exact ⟨by rw [hR.out]; rfl, (Only.refl [] w).alloc _⟩
end Go.Proofs.YtmelaiefbpdifaaGreatDoor
/- The walk of the document's Right: code 30. -/
namespace Go.Proofs.YtmelaiefbpdifaaGreatDoor
set_option maxRecDepth 100000
open Go.RowKit
set_option maxHeartbeats 4000000 in
theorem rright_3 (p : Pk) (w : World) (hc : p.code = 30) : Calls Tryz.prog 29 #[pkV p] w fun e w' => e = .returned (.bool (decide p.Right)) ∧ Only [] w w' := by
 obtain ⟨x0, x1, x2, x3, x4, x5, x6, x7, x8, x9, x10, x11, x12, x13, x14, x15, x16, x17, x18, x19⟩ := p
 simp only at hc
 have fc1 : decide (1 ≤ x7) = true := by simp; omega
 have fc2 : decide (x7 ≤ 5) = false := by simp; omega
 have fc3 : decide (11 ≤ x7) = true := by simp; omega
 have fc4 : decide (x7 ≤ 24) = false := by simp; omega
 have fc5 : (x7 == 30) = true := by simp; omega
 have gc5 : (x7 != 30) = false := by simp; omega
 have hk : knownP x7 := by unfold knownP; omega
 have h30 := Lib.hid (show x7 = 30 by omega)
 replace hc := Lib.hid hc
 by_cases t1 : x0 < 1
 ·have ft1 : decide (x0 < 1) = true := by simp; omega
  have hR := Lib.hid (decide_eq_false (show ¬ Pk.Right ⟨x0, x1, x2, x3, x4, x5, x6, x7, x8, x9, x10, x11, x12, x13, x14, x15, x16, x17, x18, x19⟩ from by unfold Pk.Right; simp only; have h30 := h30.out; exact fun h => by obtain ⟨⟨⟨b1, b2⟩, b3⟩, ⟨a1, a2⟩, ⟨a3, a3'⟩, ⟨a4, a4'⟩, a5, a6, ⟨a7, a8⟩, a9⟩ := h; first | omega | (unfold knownP at a5; omega)))
  try clear e1
  try clear e2
  try clear e3
  go_enter Tryz.func29, Tryz.ntmps29
  go_wp2
  go_ret
  exact ⟨by rw [hR.out]; rfl, (Only.refl [] w).alloc _⟩
 have ft1 : decide (x0 < 1) = false := by simp; omega
 by_cases t2 : 3 < x0
 ·have ft2 : decide (3 < x0) = true := by simp; omega
  have hR := Lib.hid (decide_eq_false (show ¬ Pk.Right ⟨x0, x1, x2, x3, x4, x5, x6, x7, x8, x9, x10, x11, x12, x13, x14, x15, x16, x17, x18, x19⟩ from by unfold Pk.Right; simp only; have h30 := h30.out; exact fun h => by obtain ⟨⟨⟨b1, b2⟩, b3⟩, ⟨a1, a2⟩, ⟨a3, a3'⟩, ⟨a4, a4'⟩, a5, a6, ⟨a7, a8⟩, a9⟩ := h; first | omega | (unfold knownP at a5; omega)))
  try clear e1
  try clear e2
  try clear e3
  go_enter Tryz.func29, Tryz.ntmps29
  go_wp2
  go_ret
  exact ⟨by rw [hR.out]; rfl, (Only.refl [] w).alloc _⟩
 have ft2 : decide (3 < x0) = false := by simp; omega
 by_cases e3 : ¬ x0 = 3
 ·have ft3 : (x0 == 3) = false := by simp; omega
  have gt3 : (x0 != 3) = true := by simp; omega
  have hR := Lib.hid (decide_eq_false (show ¬ Pk.Right ⟨x0, x1, x2, x3, x4, x5, x6, x7, x8, x9, x10, x11, x12, x13, x14, x15, x16, x17, x18, x19⟩ from by unfold Pk.Right; simp only; have h30 := h30.out; exact fun h => by obtain ⟨⟨⟨b1, b2⟩, b3⟩, ⟨a1, a2⟩, ⟨a3, a3'⟩, ⟨a4, a4'⟩, a5, a6, ⟨a7, a8⟩, a9⟩ := h; first | omega | (unfold knownP at a5; omega)))
  try clear e1
  try clear e2
  try clear e3
  go_enter Tryz.func29, Tryz.ntmps29
  go_wp2
  go_ret
  exact ⟨by rw [hR.out]; rfl, (Only.refl [] w).alloc _⟩
 have ft3 : (x0 == 3) = true := by simp; omega
 have gt3 : (x0 != 3) = false := by simp; omega
 by_cases t4 : x1 < 0
 ·have ft4 : decide (x1 < 0) = true := by simp; omega
  have hR := Lib.hid (decide_eq_false (show ¬ Pk.Right ⟨x0, x1, x2, x3, x4, x5, x6, x7, x8, x9, x10, x11, x12, x13, x14, x15, x16, x17, x18, x19⟩ from by unfold Pk.Right; simp only; have h30 := h30.out; exact fun h => by obtain ⟨⟨⟨b1, b2⟩, b3⟩, ⟨a1, a2⟩, ⟨a3, a3'⟩, ⟨a4, a4'⟩, a5, a6, ⟨a7, a8⟩, a9⟩ := h; first | omega | (unfold knownP at a5; omega)))
  try clear e1
  try clear e2
  try clear e3
  go_enter Tryz.func29, Tryz.ntmps29
  go_wp2
  go_ret
  exact ⟨by rw [hR.out]; rfl, (Only.refl [] w).alloc _⟩
 have ft4 : decide (x1 < 0) = false := by simp; omega
 by_cases t5 : 255 < x1
 ·have ft5 : decide (255 < x1) = true := by simp; omega
  have hR := Lib.hid (decide_eq_false (show ¬ Pk.Right ⟨x0, x1, x2, x3, x4, x5, x6, x7, x8, x9, x10, x11, x12, x13, x14, x15, x16, x17, x18, x19⟩ from by unfold Pk.Right; simp only; have h30 := h30.out; exact fun h => by obtain ⟨⟨⟨b1, b2⟩, b3⟩, ⟨a1, a2⟩, ⟨a3, a3'⟩, ⟨a4, a4'⟩, a5, a6, ⟨a7, a8⟩, a9⟩ := h; first | omega | (unfold knownP at a5; omega)))
  try clear e1
  try clear e2
  try clear e3
  go_enter Tryz.func29, Tryz.ntmps29
  go_wp2
  go_ret
  exact ⟨by rw [hR.out]; rfl, (Only.refl [] w).alloc _⟩
 have ft5 : decide (255 < x1) = false := by simp; omega
 by_cases t6 : x2 < 0
 ·have ft6 : decide (x2 < 0) = true := by simp; omega
  have hR := Lib.hid (decide_eq_false (show ¬ Pk.Right ⟨x0, x1, x2, x3, x4, x5, x6, x7, x8, x9, x10, x11, x12, x13, x14, x15, x16, x17, x18, x19⟩ from by unfold Pk.Right; simp only; have h30 := h30.out; exact fun h => by obtain ⟨⟨⟨b1, b2⟩, b3⟩, ⟨a1, a2⟩, ⟨a3, a3'⟩, ⟨a4, a4'⟩, a5, a6, ⟨a7, a8⟩, a9⟩ := h; first | omega | (unfold knownP at a5; omega)))
  try clear e1
  try clear e2
  try clear e3
  go_enter Tryz.func29, Tryz.ntmps29
  go_wp2
  go_ret
  exact ⟨by rw [hR.out]; rfl, (Only.refl [] w).alloc _⟩
 have ft6 : decide (x2 < 0) = false := by simp; omega
 by_cases t7 : 255 < x2
 ·have ft7 : decide (255 < x2) = true := by simp; omega
  have hR := Lib.hid (decide_eq_false (show ¬ Pk.Right ⟨x0, x1, x2, x3, x4, x5, x6, x7, x8, x9, x10, x11, x12, x13, x14, x15, x16, x17, x18, x19⟩ from by unfold Pk.Right; simp only; have h30 := h30.out; exact fun h => by obtain ⟨⟨⟨b1, b2⟩, b3⟩, ⟨a1, a2⟩, ⟨a3, a3'⟩, ⟨a4, a4'⟩, a5, a6, ⟨a7, a8⟩, a9⟩ := h; first | omega | (unfold knownP at a5; omega)))
  try clear e1
  try clear e2
  try clear e3
  go_enter Tryz.func29, Tryz.ntmps29
  go_wp2
  go_ret
  exact ⟨by rw [hR.out]; rfl, (Only.refl [] w).alloc _⟩
 have ft7 : decide (255 < x2) = false := by simp; omega
 by_cases t8 : x8 < 0
 ·have ft8 : decide (x8 < 0) = true := by simp; omega
  have hR := Lib.hid (decide_eq_false (show ¬ Pk.Right ⟨x0, x1, x2, x3, x4, x5, x6, x7, x8, x9, x10, x11, x12, x13, x14, x15, x16, x17, x18, x19⟩ from by unfold Pk.Right; simp only; have h30 := h30.out; exact fun h => by obtain ⟨⟨⟨b1, b2⟩, b3⟩, ⟨a1, a2⟩, ⟨a3, a3'⟩, ⟨a4, a4'⟩, a5, a6, ⟨a7, a8⟩, a9⟩ := h; first | omega | (unfold knownP at a5; omega)))
  try clear e1
  try clear e2
  try clear e3
  go_enter Tryz.func29, Tryz.ntmps29
  go_wp2
  go_ret
  exact ⟨by rw [hR.out]; rfl, (Only.refl [] w).alloc _⟩
 have ft8 : decide (x8 < 0) = false := by simp; omega
 by_cases t9 : 25 < x8
 ·have ft9 : decide (25 < x8) = true := by simp; omega
  have hR := Lib.hid (decide_eq_false (show ¬ Pk.Right ⟨x0, x1, x2, x3, x4, x5, x6, x7, x8, x9, x10, x11, x12, x13, x14, x15, x16, x17, x18, x19⟩ from by unfold Pk.Right; simp only; have h30 := h30.out; exact fun h => by obtain ⟨⟨⟨b1, b2⟩, b3⟩, ⟨a1, a2⟩, ⟨a3, a3'⟩, ⟨a4, a4'⟩, a5, a6, ⟨a7, a8⟩, a9⟩ := h; first | omega | (unfold knownP at a5; omega)))
  try clear e1
  try clear e2
  try clear e3
  go_enter Tryz.func29, Tryz.ntmps29
  go_wp2
  go_ret
  exact ⟨by rw [hR.out]; rfl, (Only.refl [] w).alloc _⟩
 have ft9 : decide (25 < x8) = false := by simp; omega
 by_cases e1 : x0 = 2
 ·have ft : (x0 == 2) = true := by simpa using e1
  have gt : (x0 != 2) = false := by simpa using e1
  by_cases s1 : 64 < x17.size
  ·have fs1 : decide (((x17).size : Int) ≤ 64) = false := by simp; omega
   have gs1 : decide ((x17).size ≤ 64) = false := by simp; omega
   have hR := Lib.hid (decide_eq_false (show ¬ Pk.Right ⟨x0, x1, x2, x3, x4, x5, x6, x7, x8, x9, x10, x11, x12, x13, x14, x15, x16, x17, x18, x19⟩ from by unfold Pk.Right; simp only; have h30 := h30.out; exact fun h => by obtain ⟨⟨⟨b1, b2⟩, b3⟩, ⟨a1, a2⟩, ⟨a3, a3'⟩, ⟨a4, a4'⟩, a5, a6, ⟨a7, a8⟩, a9⟩ := h; first | omega | (unfold knownP at a5; omega)))
   try clear e1
   try clear e2
   try clear e3
   go_enter Tryz.func29, Tryz.ntmps29
   go_wp2
   go_ret
   exact ⟨by rw [hR.out]; rfl, (Only.refl [] w).alloc _⟩
  have fs1 : decide (((x17).size : Int) ≤ 64) = true := by simp; omega
  have gs1 : decide ((x17).size ≤ 64) = true := by simp; omega
  by_cases s2 : 64 < x18.size
  ·have fs2 : decide (((x18).size : Int) ≤ 64) = false := by simp; omega
   have gs2 : decide ((x18).size ≤ 64) = false := by simp; omega
   have hR := Lib.hid (decide_eq_false (show ¬ Pk.Right ⟨x0, x1, x2, x3, x4, x5, x6, x7, x8, x9, x10, x11, x12, x13, x14, x15, x16, x17, x18, x19⟩ from by unfold Pk.Right; simp only; have h30 := h30.out; exact fun h => by obtain ⟨⟨⟨b1, b2⟩, b3⟩, ⟨a1, a2⟩, ⟨a3, a3'⟩, ⟨a4, a4'⟩, a5, a6, ⟨a7, a8⟩, a9⟩ := h; first | omega | (unfold knownP at a5; omega)))
   try clear e1
   try clear e2
   try clear e3
   go_enter Tryz.func29, Tryz.ntmps29
   go_wp2
   go_ret
   exact ⟨by rw [hR.out]; rfl, (Only.refl [] w).alloc _⟩
  have fs2 : decide (((x18).size : Int) ≤ 64) = true := by simp; omega
  have gs2 : decide ((x18).size ≤ 64) = true := by simp; omega
  by_cases s3 : 128 < x19.size
  ·have fs3 : decide (((x19).size : Int) ≤ 128) = false := by simp; omega
   have gs3 : decide ((x19).size ≤ 128) = false := by simp; omega
   have hR := Lib.hid (decide_eq_false (show ¬ Pk.Right ⟨x0, x1, x2, x3, x4, x5, x6, x7, x8, x9, x10, x11, x12, x13, x14, x15, x16, x17, x18, x19⟩ from by unfold Pk.Right; simp only; have h30 := h30.out; exact fun h => by obtain ⟨⟨⟨b1, b2⟩, b3⟩, ⟨a1, a2⟩, ⟨a3, a3'⟩, ⟨a4, a4'⟩, a5, a6, ⟨a7, a8⟩, a9⟩ := h; first | omega | (unfold knownP at a5; omega)))
   try clear e1
   try clear e2
   try clear e3
   go_enter Tryz.func29, Tryz.ntmps29
   go_wp2
   go_ret
   exact ⟨by rw [hR.out]; rfl, (Only.refl [] w).alloc _⟩
  have fs3 : decide (((x19).size : Int) ≤ 128) = true := by simp; omega
  have gs3 : decide ((x19).size ≤ 128) = true := by simp; omega
  have hR := Lib.hid (decide_eq_true (show Pk.Right ⟨x0, x1, x2, x3, x4, x5, x6, x7, x8, x9, x10, x11, x12, x13, x14, x15, x16, x17, x18, x19⟩ from by unfold Pk.Right; simp only; have h30 := h30.out; exact ⟨⟨⟨by omega, by omega⟩, by omega⟩, ⟨by omega, by omega⟩, ⟨by omega, by omega⟩, ⟨by omega, by omega⟩, hk, by omega, ⟨by omega, by omega⟩, by omega⟩))
  try clear e1
  try clear e2
  try clear e3
  go_enter Tryz.func29, Tryz.ntmps29
  go_wp2
  go_ret
  exact ⟨by rw [hR.out]; rfl, (Only.refl [] w).alloc _⟩
 ·have ft : (x0 == 2) = false := by simpa using e1
  have gt : (x0 != 2) = true := by simpa using e1
  by_cases e2 : x8 = 0
  ·have fe : (x8 == 0) = true := by simpa using e2
   have ge : (x8 != 0) = false := by simpa using e2
   by_cases s1 : 64 < x17.size
   ·have fs1 : decide (((x17).size : Int) ≤ 64) = false := by simp; omega
    have gs1 : decide ((x17).size ≤ 64) = false := by simp; omega
    have hR := Lib.hid (decide_eq_false (show ¬ Pk.Right ⟨x0, x1, x2, x3, x4, x5, x6, x7, x8, x9, x10, x11, x12, x13, x14, x15, x16, x17, x18, x19⟩ from by unfold Pk.Right; simp only; have h30 := h30.out; exact fun h => by obtain ⟨⟨⟨b1, b2⟩, b3⟩, ⟨a1, a2⟩, ⟨a3, a3'⟩, ⟨a4, a4'⟩, a5, a6, ⟨a7, a8⟩, a9⟩ := h; first | omega | (unfold knownP at a5; omega)))
    try clear e1
    try clear e2
    try clear e3
    go_enter Tryz.func29, Tryz.ntmps29
    go_wp2
    go_ret
    exact ⟨by rw [hR.out]; rfl, (Only.refl [] w).alloc _⟩
   have fs1 : decide (((x17).size : Int) ≤ 64) = true := by simp; omega
   have gs1 : decide ((x17).size ≤ 64) = true := by simp; omega
   by_cases s2 : 64 < x18.size
   ·have fs2 : decide (((x18).size : Int) ≤ 64) = false := by simp; omega
    have gs2 : decide ((x18).size ≤ 64) = false := by simp; omega
    have hR := Lib.hid (decide_eq_false (show ¬ Pk.Right ⟨x0, x1, x2, x3, x4, x5, x6, x7, x8, x9, x10, x11, x12, x13, x14, x15, x16, x17, x18, x19⟩ from by unfold Pk.Right; simp only; have h30 := h30.out; exact fun h => by obtain ⟨⟨⟨b1, b2⟩, b3⟩, ⟨a1, a2⟩, ⟨a3, a3'⟩, ⟨a4, a4'⟩, a5, a6, ⟨a7, a8⟩, a9⟩ := h; first | omega | (unfold knownP at a5; omega)))
    try clear e1
    try clear e2
    try clear e3
    go_enter Tryz.func29, Tryz.ntmps29
    go_wp2
    go_ret
    exact ⟨by rw [hR.out]; rfl, (Only.refl [] w).alloc _⟩
   have fs2 : decide (((x18).size : Int) ≤ 64) = true := by simp; omega
   have gs2 : decide ((x18).size ≤ 64) = true := by simp; omega
   by_cases s3 : 128 < x19.size
   ·have fs3 : decide (((x19).size : Int) ≤ 128) = false := by simp; omega
    have gs3 : decide ((x19).size ≤ 128) = false := by simp; omega
    have hR := Lib.hid (decide_eq_false (show ¬ Pk.Right ⟨x0, x1, x2, x3, x4, x5, x6, x7, x8, x9, x10, x11, x12, x13, x14, x15, x16, x17, x18, x19⟩ from by unfold Pk.Right; simp only; have h30 := h30.out; exact fun h => by obtain ⟨⟨⟨b1, b2⟩, b3⟩, ⟨a1, a2⟩, ⟨a3, a3'⟩, ⟨a4, a4'⟩, a5, a6, ⟨a7, a8⟩, a9⟩ := h; first | omega | (unfold knownP at a5; omega)))
    try clear e1
    try clear e2
    try clear e3
    go_enter Tryz.func29, Tryz.ntmps29
    go_wp2
    go_ret
    exact ⟨by rw [hR.out]; rfl, (Only.refl [] w).alloc _⟩
   have fs3 : decide (((x19).size : Int) ≤ 128) = true := by simp; omega
   have gs3 : decide ((x19).size ≤ 128) = true := by simp; omega
   have hR := Lib.hid (decide_eq_true (show Pk.Right ⟨x0, x1, x2, x3, x4, x5, x6, x7, x8, x9, x10, x11, x12, x13, x14, x15, x16, x17, x18, x19⟩ from by unfold Pk.Right; simp only; have h30 := h30.out; exact ⟨⟨⟨by omega, by omega⟩, by omega⟩, ⟨by omega, by omega⟩, ⟨by omega, by omega⟩, ⟨by omega, by omega⟩, hk, by omega, ⟨by omega, by omega⟩, by omega⟩))
   try clear e1
   try clear e2
   try clear e3
   go_enter Tryz.func29, Tryz.ntmps29
   go_wp2
   go_ret
   exact ⟨by rw [hR.out]; rfl, (Only.refl [] w).alloc _⟩
  ·have fe : (x8 == 0) = false := by simpa using e2
   have ge : (x8 != 0) = true := by simpa using e2
   have hR := Lib.hid (decide_eq_false (show ¬ Pk.Right ⟨x0, x1, x2, x3, x4, x5, x6, x7, x8, x9, x10, x11, x12, x13, x14, x15, x16, x17, x18, x19⟩ from by unfold Pk.Right; simp only; have h30 := h30.out; exact fun h => by obtain ⟨⟨⟨b1, b2⟩, b3⟩, ⟨a1, a2⟩, ⟨a3, a3'⟩, ⟨a4, a4'⟩, a5, a6, ⟨a7, a8⟩, a9⟩ := h; first | omega | (unfold knownP at a5; omega)))
   try clear e1
   try clear e2
   try clear e3
   go_enter Tryz.func29, Tryz.ntmps29
   go_wp2
   go_ret
   exact ⟨by rw [hR.out]; rfl, (Only.refl [] w).alloc _⟩
end Go.Proofs.YtmelaiefbpdifaaGreatDoor
/- The walk of the document's Right. -/
namespace Go.Proofs.YtmelaiefbpdifaaGreatDoor
set_option maxRecDepth 100000
open Go.RowKit
theorem rright_any (w : World) (p : Pk) : Calls Tryz.prog 29 #[pkV p] w fun e w' => e = .returned (.bool (decide p.Right)) ∧ Only [] w w' := by
 by_cases h1 : 1 ≤ p.code ∧ p.code ≤ 5
 ·exact rright_1 p w h1
 by_cases h2 : 11 ≤ p.code ∧ p.code ≤ 24
 ·exact rright_2 p w h2
 by_cases h3 : p.code = 30
 ·exact rright_3 p w h3
 have hk : ¬ knownP p.code := by unfold knownP; omega
 obtain ⟨x0, x1, x2, x3, x4, x5, x6, x7, x8, x9, x10, x11, x12, x13, x14, x15, x16, x17, x18, x19⟩ := p
 simp only at h1 h2 h3 hk
 have f5 : (x7 == 30) = false := by simpa using h3
 clear h3
 by_cases t1 : x7 < 1
 ·have fc1 : decide (1 ≤ x7) = false := by simp; omega
  have fc3 : decide (11 ≤ x7) = false := by simp; omega
  have hR := Lib.hid (decide_eq_false (show ¬ Pk.Right ⟨x0, x1, x2, x3, x4, x5, x6, x7, x8, x9, x10, x11, x12, x13, x14, x15, x16, x17, x18, x19⟩ from by unfold Pk.Right; simp only; exact fun h => hk h.2.2.2.2.1))
  try clear e1
  try clear e2
  try clear e3
  go_enter Tryz.func29, Tryz.ntmps29
  go_wp2
  go_ret
  exact ⟨by rw [hR.out]; rfl, (Only.refl [] w).alloc _⟩
 by_cases t2 : x7 ≤ 5
 ·exact absurd ⟨by omega, t2⟩ h1
 by_cases t3 : x7 < 11
 ·have fc1 : decide (1 ≤ x7) = true := by simp; omega
  have fc2 : decide (x7 ≤ 5) = false := by simp; omega
  have fc3 : decide (11 ≤ x7) = false := by simp; omega
  have hR := Lib.hid (decide_eq_false (show ¬ Pk.Right ⟨x0, x1, x2, x3, x4, x5, x6, x7, x8, x9, x10, x11, x12, x13, x14, x15, x16, x17, x18, x19⟩ from by unfold Pk.Right; simp only; exact fun h => hk h.2.2.2.2.1))
  try clear e1
  try clear e2
  try clear e3
  go_enter Tryz.func29, Tryz.ntmps29
  go_wp2
  go_ret
  exact ⟨by rw [hR.out]; rfl, (Only.refl [] w).alloc _⟩
 by_cases t4 : x7 ≤ 24
 ·exact absurd ⟨by omega, t4⟩ h2
 ·have fc1 : decide (1 ≤ x7) = true := by simp; omega
  have fc2 : decide (x7 ≤ 5) = false := by simp; omega
  have fc3 : decide (11 ≤ x7) = true := by simp; omega
  have fc4 : decide (x7 ≤ 24) = false := by simp; omega
  have hR := Lib.hid (decide_eq_false (show ¬ Pk.Right ⟨x0, x1, x2, x3, x4, x5, x6, x7, x8, x9, x10, x11, x12, x13, x14, x15, x16, x17, x18, x19⟩ from by unfold Pk.Right; simp only; exact fun h => hk h.2.2.2.2.1))
  try clear e1
  try clear e2
  try clear e3
  go_enter Tryz.func29, Tryz.ntmps29
  go_wp2
  go_ret
  exact ⟨by rw [hR.out]; rfl, (Only.refl [] w).alloc _⟩
end Go.Proofs.YtmelaiefbpdifaaGreatDoor
/- A packet that comes in, opened. -/
namespace Go.Proofs.YtmelaiefbpdifaaGreatDoor
set_option maxRecDepth 100000
open Go.RowKit Go.WideShapes Go.ChangeShapes Go.Deep
theorem i_range {n : Int} (h : (Lit.int .i64 n).wf = true) : I n := by
 have e1 : IntKind.i64.min = -9223372036854775808 := by decide +kernel
 have e2 : IntKind.i64.max = 9223372036854775807 := by decide +kernel
 simp only [Lit.wf, Bool.and_eq_true, decide_eq_true_eq] at h
 unfold I
 omega
theorem u_range {n : Int} (h : (Lit.int .u32 n).wf = true) : U n := by
 have e1 : IntKind.u32.min = 0 := by decide +kernel
 have e2 : IntKind.u32.max = 4294967295 := by decide +kernel
 simp only [Lit.wf, Bool.and_eq_true, decide_eq_true_eq] at h
 unfold U
 omega
theorem open_field {H : Type} {enc : TypeId × Value → H} {P : Program} {w : World} {base : Nat} {spare : Nat → Bool} {held : Bool} {t : TypeId} {fs : Array Field} {fuel : Nat} {cs : List Value} {x : DataW H × List MemPlace}
  (he : P.underlying t = some (.struct fs)) (h : DataW.trod enc P w base spare held fuel t cs = some x) (j : Nat) (f : Field) (hj : fs[j]? = some f) (o k : Nat) (ty : TypeId) (hty : f.type = ty) (ho : f.offset = o) (hk : P.cellsOf ty = k) :
  ∃ (n : Nat) (y : DataW H × List MemPlace), DataW.trod enc P w base spare held n ty ((cs.drop o).take k) = some y := by
 subst hty
 obtain ⟨ys, n', _, _, hlen', hyl, hf⟩ := DataW.trod_struct he h
 have h1 := hf j f hj
 rw [ho, hk] at h1
 have hjl : j < ys.length := by
  rw [hyl]
  exact (Array.getElem?_eq_some_iff.1 hj).1
 rw [List.getElem?_eq_getElem hjl] at h1
 exact ⟨n', ys[j], h1⟩
section
variable {H : Type} {enc : TypeId × Value → H} {w : World}
end
end Go.Proofs.YtmelaiefbpdifaaGreatDoor
