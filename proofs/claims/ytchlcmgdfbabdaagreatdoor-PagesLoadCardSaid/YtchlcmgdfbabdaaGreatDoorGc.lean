/- Joined: Shelf2, Ord, Blks, Data, Data2, Shelf. -/
import Derived.Test.YtchlcmgdfbabdaaGreatDoorGb
import Derived.Shelf.SlGeneric
import Derived.Shelf.Strings.Trim
import Derived.Shelf.Small.Strs
import Derived.Shelf.Small.Wraps
import Derived.Shelf.Slices.Turned
import Derived.Shelf.SlLaysF0
import Derived.Ground.SlsfProg
import Derived.Test.YtchlcmgdfbabdaaGreatDoorChecked
import Derived.Maps.RangeWalk
import Derived.Lib.Bytealg
import Derived.Deep.Slices
import Derived.Deep.Fields
import Derived.ProofKit
import Derived.Shelf.Strings.Prefix
import Derived.Shelf.Strings.Repeat

/-! === Shelf2 === -/
/-
  DERIVED: THE SHELF's CONTRACTS AT THIS DUMP, IN PLAIN WORDS (tools/lay-plain.mjs out of 'TryShelf.lean', which tools/lay-shelf.mjs wrote): THE SAME DECLARATIONS UNDER THE SAME NAMES: 'import', 'namespace', 'open', 'def', 'theorem' AND NOTHING ELSE: no command of the shelf's: FOR A HAND-IN. Each laying: the table of numbers ('.._ren') and one theorem, a field a fact of the dump's own or the kernel's comparison; each contract: ONE APPLICATION.
-/
namespace Go.Proofs
open Go.Shelf
def Tryz.lays160_ren : Go.Shelf.Ren := ⟨fun | 160 => 68 | 232 => 69 | 231 => 95 | 227 => 70 | 234 => 71 | 233 => 96 | 236 => 72 | 235 => 97 | 228 => 98 | 271 => 99 | 151 => 100 | 197 => 133 | 120 => 134 | 152 => 135 | 260 => 150 | 137 => 151 | 119 => 152 | 224 => 153 | 225 => 154 | 217 => 161 | 266 => 164 | n => n, fun | 9 => 9 | 4 => 4 | 3 => 3 | 5 => 5 | 117 => 133 | 116 => 132 | 0 => 0 | 124 => 136 | 21 => 21 | 105 => 161 | 46 => 67 | 119 => 138 | 139 => 231 | 138 => 230 | n => n, fun | 3 => 1 | 4 => 2 | n => n⟩
theorem Tryz.lays160 : Go.Proofs.Lays.n160 Tryz.prog Tryz.lays160_ren := {
  mixed := by kernel_rfl
  f119 := Tryz.func152.trans (congrArg some (by kernel_rfl))
  f120 := Tryz.func134.trans (congrArg some (by kernel_rfl))
  f137 := Tryz.func151.trans (congrArg some (by kernel_rfl))
  f151 := Tryz.func100.trans (congrArg some (by kernel_rfl))
  f152 := Tryz.func135.trans (congrArg some (by kernel_rfl))
  f160 := Tryz.func68.trans (congrArg some (by kernel_rfl))
  f197 := Tryz.func133.trans (congrArg some (by kernel_rfl))
  f217 := Tryz.func161.trans (congrArg some (by kernel_rfl))
  f224 := Tryz.func153.trans (congrArg some (by kernel_rfl))
  f225 := Tryz.func154.trans (congrArg some (by kernel_rfl))
  f227 := Tryz.func70.trans (congrArg some (by kernel_rfl))
  f228 := Tryz.func98.trans (congrArg some (by kernel_rfl))
  f231 := Tryz.func95.trans (congrArg some (by kernel_rfl))
  f232 := Tryz.func69.trans (congrArg some (by kernel_rfl))
  f233 := Tryz.func96.trans (congrArg some (by kernel_rfl))
  f234 := Tryz.func71.trans (congrArg some (by kernel_rfl))
  f235 := Tryz.func97.trans (congrArg some (by kernel_rfl))
  f236 := Tryz.func72.trans (congrArg some (by kernel_rfl))
  f260 := Tryz.func150.trans (congrArg some (by kernel_rfl))
  f266 := Tryz.func164.trans (congrArg some (by kernel_rfl))
  f271 := Tryz.func99.trans (congrArg some (by kernel_rfl))
  t0 := Tryz.underlying0
  a0 := Tryz.isAgg0
  z0 := Tryz.sizeOf0
  v0 := Tryz.zeroValue0
  t3 := Tryz.underlying3
  a3 := Tryz.isAgg3
  z3 := Tryz.sizeOf3
  v3 := Tryz.zeroValue3
  t4 := Tryz.underlying4
  a4 := Tryz.isAgg4
  z4 := Tryz.sizeOf4
  v4 := Tryz.zeroValue4
  t5 := Tryz.underlying5
  a5 := Tryz.isAgg5
  z5 := Tryz.sizeOf5
  v5 := Tryz.zeroValue5
  t9 := Tryz.underlying9
  a9 := Tryz.isAgg9
  z9 := Tryz.sizeOf9
  v9 := Tryz.zeroValue9
  t21 := Tryz.underlying21
  a21 := Tryz.isAgg21
  z21 := Tryz.sizeOf21
  v21 := Tryz.zeroValue21
  t46 := Tryz.underlying67
  a46 := Tryz.isAgg67
  z46 := Tryz.sizeOf67
  v46 := Tryz.zeroValue67
  t105 := Tryz.underlying161
  a105 := Tryz.isAgg161
  z105 := Tryz.sizeOf161
  v105 := Tryz.zeroValue161
  t116 := Tryz.underlying132
  a116 := Tryz.isAgg132
  z116 := Tryz.sizeOf132
  t117 := Tryz.underlying133
  a117 := Tryz.isAgg133
  z117 := Tryz.sizeOf133
  v117 := Tryz.zeroValue133
  t119 := Tryz.underlying138
  a119 := Tryz.isAgg138
  z119 := Tryz.sizeOf138
  t124 := Tryz.underlying136
  a124 := Tryz.isAgg136
  z124 := Tryz.sizeOf136
  v124 := Tryz.zeroValue136
  t138 := Tryz.underlying230
  a138 := Tryz.isAgg230
  z138 := Tryz.sizeOf230
  v138 := Tryz.zeroValue230
  t139 := Tryz.underlying231
  a139 := Tryz.isAgg231
  z139 := Tryz.sizeOf231
  v139 := Tryz.zeroValue231
  g3 := by kernel_rfl
  g4 := by kernel_rfl }
open Go.RowKit in
/-- strings.Trim: "Trim returns a slice of the string s with all leading and trailing Unicode code points contained in cutset removed.": AT A cutset OF ONE ASCII BYTE. THE WORLD BEHIND IT: as it was, or (where s is not empty) with ONE DRAW MORE off the tape: the statement 'return trimLeftByte(trimRightByte(s, c), c)' draws its order of evaluation. (LAID: no walk: one application.) -/
theorem Tryz.strings_Trim_one (s : ByteArray) (c : UInt8) (hc : c.toNat < 128) (w : World) (hs : s.size ≤ 9223372036854775807) :
    Calls Tryz.prog 68 #[.string s, .string ⟨#[c]⟩] w fun e w' => e = .returned (.string ⟨(Lib.trimB s.data.toList c).toArray⟩) ∧ (w' = w ∨ w' = w.drew) := Any.strings_Trim_one Tryz.lays160 s c hc w hs
def Tryz.lays106_ren : Go.Shelf.Ren := ⟨fun | 106 => 52 | 213 => 85 | 265 => 120 | n => n, fun | 9 => 9 | 3 => 3 | n => n, fun | n => n⟩
theorem Tryz.lays106 : Go.Proofs.Lays.n106 Tryz.prog Tryz.lays106_ren := {
  mixed := by kernel_rfl
  f106 := Tryz.func52.trans (congrArg some (by kernel_rfl))
  f213 := Tryz.func85.trans (congrArg some (by kernel_rfl))
  f265 := Tryz.func120.trans (congrArg some (by kernel_rfl))
  t3 := Tryz.underlying3
  a3 := Tryz.isAgg3
  z3 := Tryz.sizeOf3
  v3 := Tryz.zeroValue3
  t9 := Tryz.underlying9
  a9 := Tryz.isAgg9
  z9 := Tryz.sizeOf9
  v9 := Tryz.zeroValue9 }
open Go.RowKit in
/-- strings.Compare: "Compare returns an integer comparing two strings lexicographically. The result will be 0 if a == b, -1 if a < b, and +1 if a > b.": IT RETURNS 'Lib.compareBytes a b'; the world is as it was. (LAID: no walk: one application.) -/
theorem Tryz.strings_Compare (a b : ByteArray) (w : World) :
    Calls Tryz.prog 52 #[.string a, .string b] w fun e w' => e = .returned (.int .i64 (Lib.compareBytes a.data.toList b.data.toList)) ∧ w' = w := Any.strings_Compare Tryz.lays106 a b w
def Tryz.lays122_ren : Go.Shelf.Ren := ⟨fun | 122 => 61 | 215 => 89 | n => n, fun | 3 => 3 | 4 => 4 | n => n, fun | n => n⟩
theorem Tryz.lays122 : Go.Proofs.Lays.n122 Tryz.prog Tryz.lays122_ren := {
  mixed := by kernel_rfl
  f122 := Tryz.func61.trans (congrArg some (by kernel_rfl))
  f215 := Tryz.func89.trans (congrArg some (by kernel_rfl))
  t3 := Tryz.underlying3
  a3 := Tryz.isAgg3
  z3 := Tryz.sizeOf3
  v3 := Tryz.zeroValue3
  t4 := Tryz.underlying4
  a4 := Tryz.isAgg4
  z4 := Tryz.sizeOf4
  v4 := Tryz.zeroValue4 }
open Go.RowKit in
/-- cmp.Compare at int: "Compare returns -1 if x is less than y, 0 if x equals y, +1 if x is greater than y.": IT RETURNS 'Lib.compareInt x y'; the world is as it was. (LAID: no walk: one application.) -/
theorem Tryz.cmp_Compare_int (x y : Int) (w : World) :
    Calls Tryz.prog 61 #[.int .i64 x, .int .i64 y] w fun e w' => e = .returned (.int .i64 (Lib.compareInt x y)) ∧ w' = w := Any.cmp_Compare_int Tryz.lays122 x y w
def Tryz.lays108_ren : Go.Shelf.Ren := ⟨fun | 108 => 87 | n => n, fun | 28 => 59 | 3 => 3 | 0 => 0 | 4 => 4 | n => n, fun | n => n⟩
theorem Tryz.lays108 : Go.Proofs.Lays.n108 Tryz.prog Tryz.lays108_ren := {
  mixed := by kernel_rfl
  f108 := Tryz.func87.trans (congrArg some (by kernel_rfl))
  t0 := Tryz.underlying0
  a0 := Tryz.isAgg0
  z0 := Tryz.sizeOf0
  v0 := Tryz.zeroValue0
  t3 := Tryz.underlying3
  a3 := Tryz.isAgg3
  z3 := Tryz.sizeOf3
  v3 := Tryz.zeroValue3
  t4 := Tryz.underlying4
  a4 := Tryz.isAgg4
  z4 := Tryz.sizeOf4
  v4 := Tryz.zeroValue4
  t28 := Tryz.underlying59
  a28 := Tryz.isAgg59
  z28 := Tryz.sizeOf59
  v28 := Tryz.zeroValue59 }
open Go.Lib in
/-- slices.Index at []int: "Index returns the index of the first occurrence of v in s, or -1 if not present.": IT RETURNS 'Lib.idxOf (the elements) v'; the world is as it was. 'zs': what the cells behind the slice's address hold (its spare capacity too, if you have it); 'zs.take n': its elements. (LAID: no walk: one application.) -/
theorem Tryz.slices_Index_int (b off n c : Nat) (zs : List Int) (x : Int) (w : World) (hz : n ≤ zs.length) (hbig : n ≤ 9223372036854775807) (hc : ∀ j, j < zs.length → w.cell? ⟨b, off + j, none⟩ = some (.int .i64 (zs.getD j 0))) :
    Calls Tryz.prog 87 #[.slice (some ⟨b, off, none⟩) n c, .int .i64 x] w fun e w' => e = .returned (.int .i64 (Lib.idxOf (zs.take n) x)) ∧ w' = w := Any.slices_Index_int Tryz.lays108 b off n c zs x w hz hbig hc
open Go.Lib in
/-- The same at a slice of length 0, a nil one too: no cell is known, none is asked for. (LAID: no walk: one application.) -/
theorem Tryz.slices_Index_int_empty (a : Option Addr) (c : Nat) (x : Int) (w : World) :
    Calls Tryz.prog 87 #[.slice a 0 c, .int .i64 x] w fun e w' => e = .returned (.int .i64 (Lib.idxOf [] x)) ∧ w' = w := Any.slices_Index_int_empty Tryz.lays108 a c x w
def Tryz.lays107_ren : Go.Shelf.Ren := ⟨fun | 107 => 58 | 108 => 87 | n => n, fun | 28 => 59 | 3 => 3 | 4 => 4 | 0 => 0 | n => n, fun | n => n⟩
theorem Tryz.lays107 : Go.Proofs.Lays.n107 Tryz.prog Tryz.lays107_ren := {
  mixed := by kernel_rfl
  f107 := Tryz.func58.trans (congrArg some (by kernel_rfl))
  f108 := Tryz.func87.trans (congrArg some (by kernel_rfl))
  t0 := Tryz.underlying0
  a0 := Tryz.isAgg0
  z0 := Tryz.sizeOf0
  v0 := Tryz.zeroValue0
  t3 := Tryz.underlying3
  a3 := Tryz.isAgg3
  z3 := Tryz.sizeOf3
  v3 := Tryz.zeroValue3
  t4 := Tryz.underlying4
  a4 := Tryz.isAgg4
  z4 := Tryz.sizeOf4
  v4 := Tryz.zeroValue4
  t28 := Tryz.underlying59
  a28 := Tryz.isAgg59
  z28 := Tryz.sizeOf59
  v28 := Tryz.zeroValue59 }
open Go.Lib in
/-- slices.Contains at []int: "Contains reports whether v is present in s.": IT RETURNS 'elements.contains v'; the world is as it was. ITS CALLEE slices.Index IS MET BY ITS OWN CONTRACT OFF THE SHELF (lay that first): no loop is walked here. (LAID: no walk: one application.) -/
theorem Tryz.slices_Contains_int (b off n c : Nat) (zs : List Int) (x : Int) (w : World) (hz : n ≤ zs.length) (hbig : n ≤ 9223372036854775807) (hc : ∀ j, j < zs.length → w.cell? ⟨b, off + j, none⟩ = some (.int .i64 (zs.getD j 0))) :
    Calls Tryz.prog 58 #[.slice (some ⟨b, off, none⟩) n c, .int .i64 x] w fun e w' => e = .returned (.bool ((zs.take n).contains x)) ∧ w' = w := Any.slices_Contains_int Tryz.lays107 b off n c zs x w hz hbig hc
open Go.Lib in
/-- The same at a slice of length 0, a nil one too. (LAID: no walk: one application.) -/
theorem Tryz.slices_Contains_int_empty (a : Option Addr) (c : Nat) (x : Int) (w : World) :
    Calls Tryz.prog 58 #[.slice a 0 c, .int .i64 x] w fun e w' => e = .returned (.bool false) ∧ w' = w := Any.slices_Contains_int_empty Tryz.lays107 a c x w
def Tryz.sortCh_ren : Go.Shelf.Ren := ⟨fun | 6 => 50 | 15 => 84 | 14 => 83 | 28 => 118 | 29 => 119 | 20 => 110 | 21 => 111 | 22 => 112 | 23 => 113 | 24 => 114 | 25 => 115 | 26 => 116 | 27 => 117 | 46 => 136 | 47 => 137 | 48 => 138 | 49 => 139 | 50 => 140 | 57 => 155 | n => n, fun | 22 => 22 | 24 => 66 | 25 => 109 | 3 => 3 | 39 => 67 | 0 => 0 | 53 => 23 | 55 => 168 | 4 => 4 | 46 => 179 | 45 => 178 | 50 => 183 | 5 => 5 | 9 => 9 | 66 => 198 | 70 => 202 | 76 => 220 | 77 => 221 | n => n, fun | n => n⟩
theorem Tryz.sortCh : Go.Proofs.SlLaysF0.n6 Tryz.prog Tryz.sortCh_ren := {
  mixed := by kernel_rfl
  f6 := ⟨Tryz.f50.name, by decide, Tryz.func50.trans (congrArg some (by kernel_rfl))⟩
  f14 := ⟨Tryz.f83.name, by decide, Tryz.func83.trans (congrArg some (by kernel_rfl))⟩
  f15 := Tryz.func84.trans (congrArg some (by kernel_rfl))
  f20 := ⟨Tryz.f110.name, by decide, Tryz.func110.trans (congrArg some (by kernel_rfl))⟩
  f21 := ⟨Tryz.f111.name, by decide, Tryz.func111.trans (congrArg some (by kernel_rfl))⟩
  f22 := ⟨Tryz.f112.name, by decide, Tryz.func112.trans (congrArg some (by kernel_rfl))⟩
  f23 := ⟨Tryz.f113.name, by decide, Tryz.func113.trans (congrArg some (by kernel_rfl))⟩
  f24 := ⟨Tryz.f114.name, by decide, Tryz.func114.trans (congrArg some (by kernel_rfl))⟩
  f25 := ⟨Tryz.f115.name, by decide, Tryz.func115.trans (congrArg some (by kernel_rfl))⟩
  f26 := ⟨Tryz.f116.name, by decide, Tryz.func116.trans (congrArg some (by kernel_rfl))⟩
  f27 := ⟨Tryz.f117.name, by decide, Tryz.func117.trans (congrArg some (by kernel_rfl))⟩
  f28 := Tryz.func118.trans (congrArg some (by kernel_rfl))
  f29 := Tryz.func119.trans (congrArg some (by kernel_rfl))
  f46 := ⟨Tryz.f136.name, by decide, Tryz.func136.trans (congrArg some (by kernel_rfl))⟩
  f47 := Tryz.func137.trans (congrArg some (by kernel_rfl))
  f48 := Tryz.func138.trans (congrArg some (by kernel_rfl))
  f49 := ⟨Tryz.f139.name, by decide, Tryz.func139.trans (congrArg some (by kernel_rfl))⟩
  f50 := ⟨Tryz.f140.name, by decide, Tryz.func140.trans (congrArg some (by kernel_rfl))⟩
  f57 := ⟨Tryz.f155.name, by decide, Tryz.func155.trans (congrArg some (by kernel_rfl))⟩
  t0 := Tryz.underlying0
  a0 := Tryz.isAgg0
  z0 := Tryz.sizeOf0
  v0 := Tryz.zeroValue0
  t3 := Tryz.underlying3
  a3 := Tryz.isAgg3
  z3 := Tryz.sizeOf3
  v3 := Tryz.zeroValue3
  t4 := Tryz.underlying4
  a4 := Tryz.isAgg4
  z4 := Tryz.sizeOf4
  v4 := Tryz.zeroValue4
  t5 := Tryz.underlying5
  a5 := Tryz.isAgg5
  z5 := Tryz.sizeOf5
  v5 := Tryz.zeroValue5
  t9 := Tryz.underlying9
  a9 := Tryz.isAgg9
  z9 := Tryz.sizeOf9
  v9 := Tryz.zeroValue9
  t22 := Tryz.underlying22
  a22 := Tryz.isAgg22
  z22 := Tryz.sizeOf22
  v22 := Tryz.zeroValue22
  t25 := Tryz.underlying109
  a25 := Tryz.isAgg109
  z25 := Tryz.sizeOf109
  v25 := Tryz.zeroValue109
  t39 := Tryz.underlying67
  a39 := Tryz.isAgg67
  z39 := Tryz.sizeOf67
  v39 := Tryz.zeroValue67
  t45 := Tryz.underlying178
  a45 := Tryz.isAgg178
  z45 := Tryz.sizeOf178
  v45 := Tryz.zeroValue178
  t46 := Tryz.underlying179
  a46 := Tryz.isAgg179
  z46 := Tryz.sizeOf179
  v46 := Tryz.zeroValue179
  t50 := Tryz.underlying183
  a50 := Tryz.isAgg183
  z50 := Tryz.sizeOf183
  v50 := Tryz.zeroValue183
  t53 := Tryz.underlying23
  a53 := Tryz.isAgg23
  z53 := Tryz.sizeOf23
  v53 := Tryz.zeroValue23
  t55 := Tryz.underlying168
  a55 := Tryz.isAgg168
  z55 := Tryz.sizeOf168
  v55 := Tryz.zeroValue168
  t66 := Tryz.underlying198
  a66 := Tryz.isAgg198
  z66 := Tryz.sizeOf198
  v66 := Tryz.zeroValue198
  t70 := Tryz.underlying202
  a70 := Tryz.isAgg202
  z70 := Tryz.sizeOf202
  v70 := Tryz.zeroValue202
  t76 := Tryz.underlying220
  a76 := Tryz.isAgg220
  z76 := Tryz.sizeOf220
  v76 := Tryz.zeroValue220
  t77 := Tryz.underlying221
  a77 := Tryz.isAgg221
  z77 := Tryz.sizeOf221
  v77 := Tryz.zeroValue221 }
def Tryz.sortStep_ren : Go.Shelf.Ren := ⟨fun | 6 => 59 | 15 => 84 | 14 => 88 | 28 => 118 | 29 => 119 | 20 => 121 | 21 => 122 | 22 => 123 | 23 => 124 | 24 => 125 | 25 => 126 | 26 => 127 | 27 => 128 | 46 => 141 | 47 => 137 | 48 => 138 | 49 => 142 | 50 => 143 | 57 => 156 | n => n, fun | 22 => 77 | 24 => 117 | 25 => 121 | 3 => 3 | 39 => 67 | 0 => 0 | 53 => 23 | 55 => 168 | 4 => 4 | 46 => 179 | 45 => 178 | 50 => 183 | 5 => 5 | 9 => 9 | 66 => 198 | 70 => 202 | 76 => 220 | 77 => 221 | n => n, fun | n => n⟩
theorem Tryz.sortStep : Go.Proofs.SlLaysF0.n6 Tryz.prog Tryz.sortStep_ren := {
  mixed := by kernel_rfl
  f6 := ⟨Tryz.f59.name, by decide, Tryz.func59.trans (congrArg some (by kernel_rfl))⟩
  f14 := ⟨Tryz.f88.name, by decide, Tryz.func88.trans (congrArg some (by kernel_rfl))⟩
  f15 := Tryz.func84.trans (congrArg some (by kernel_rfl))
  f20 := ⟨Tryz.f121.name, by decide, Tryz.func121.trans (congrArg some (by kernel_rfl))⟩
  f21 := ⟨Tryz.f122.name, by decide, Tryz.func122.trans (congrArg some (by kernel_rfl))⟩
  f22 := ⟨Tryz.f123.name, by decide, Tryz.func123.trans (congrArg some (by kernel_rfl))⟩
  f23 := ⟨Tryz.f124.name, by decide, Tryz.func124.trans (congrArg some (by kernel_rfl))⟩
  f24 := ⟨Tryz.f125.name, by decide, Tryz.func125.trans (congrArg some (by kernel_rfl))⟩
  f25 := ⟨Tryz.f126.name, by decide, Tryz.func126.trans (congrArg some (by kernel_rfl))⟩
  f26 := ⟨Tryz.f127.name, by decide, Tryz.func127.trans (congrArg some (by kernel_rfl))⟩
  f27 := ⟨Tryz.f128.name, by decide, Tryz.func128.trans (congrArg some (by kernel_rfl))⟩
  f28 := Tryz.func118.trans (congrArg some (by kernel_rfl))
  f29 := Tryz.func119.trans (congrArg some (by kernel_rfl))
  f46 := ⟨Tryz.f141.name, by decide, Tryz.func141.trans (congrArg some (by kernel_rfl))⟩
  f47 := Tryz.func137.trans (congrArg some (by kernel_rfl))
  f48 := Tryz.func138.trans (congrArg some (by kernel_rfl))
  f49 := ⟨Tryz.f142.name, by decide, Tryz.func142.trans (congrArg some (by kernel_rfl))⟩
  f50 := ⟨Tryz.f143.name, by decide, Tryz.func143.trans (congrArg some (by kernel_rfl))⟩
  f57 := ⟨Tryz.f156.name, by decide, Tryz.func156.trans (congrArg some (by kernel_rfl))⟩
  t0 := Tryz.underlying0
  a0 := Tryz.isAgg0
  z0 := Tryz.sizeOf0
  v0 := Tryz.zeroValue0
  t3 := Tryz.underlying3
  a3 := Tryz.isAgg3
  z3 := Tryz.sizeOf3
  v3 := Tryz.zeroValue3
  t4 := Tryz.underlying4
  a4 := Tryz.isAgg4
  z4 := Tryz.sizeOf4
  v4 := Tryz.zeroValue4
  t5 := Tryz.underlying5
  a5 := Tryz.isAgg5
  z5 := Tryz.sizeOf5
  v5 := Tryz.zeroValue5
  t9 := Tryz.underlying9
  a9 := Tryz.isAgg9
  z9 := Tryz.sizeOf9
  v9 := Tryz.zeroValue9
  t22 := Tryz.underlying77
  a22 := Tryz.isAgg77
  z22 := Tryz.sizeOf77
  v22 := Tryz.zeroValue77
  t25 := Tryz.underlying121
  a25 := Tryz.isAgg121
  z25 := Tryz.sizeOf121
  v25 := Tryz.zeroValue121
  t39 := Tryz.underlying67
  a39 := Tryz.isAgg67
  z39 := Tryz.sizeOf67
  v39 := Tryz.zeroValue67
  t45 := Tryz.underlying178
  a45 := Tryz.isAgg178
  z45 := Tryz.sizeOf178
  v45 := Tryz.zeroValue178
  t46 := Tryz.underlying179
  a46 := Tryz.isAgg179
  z46 := Tryz.sizeOf179
  v46 := Tryz.zeroValue179
  t50 := Tryz.underlying183
  a50 := Tryz.isAgg183
  z50 := Tryz.sizeOf183
  v50 := Tryz.zeroValue183
  t53 := Tryz.underlying23
  a53 := Tryz.isAgg23
  z53 := Tryz.sizeOf23
  v53 := Tryz.zeroValue23
  t55 := Tryz.underlying168
  a55 := Tryz.isAgg168
  z55 := Tryz.sizeOf168
  v55 := Tryz.zeroValue168
  t66 := Tryz.underlying198
  a66 := Tryz.isAgg198
  z66 := Tryz.sizeOf198
  v66 := Tryz.zeroValue198
  t70 := Tryz.underlying202
  a70 := Tryz.isAgg202
  z70 := Tryz.sizeOf202
  v70 := Tryz.zeroValue202
  t76 := Tryz.underlying220
  a76 := Tryz.isAgg220
  z76 := Tryz.sizeOf220
  v76 := Tryz.zeroValue220
  t77 := Tryz.underlying221
  a77 := Tryz.isAgg221
  z77 := Tryz.sizeOf221
  v77 := Tryz.zeroValue221 }
end Go.Proofs

/-! === Ord === -/
/- Rows and changes as plain data: the order of keys, what is put, what goes, what is found. Of no program. -/
namespace Go.Proofs.YtchlcmgdfbabdaaGreatDoor
open Go.RowKit

/-- A change; a row with its block. -/
structure Ch where
  key : List UInt8
  val : List UInt8
  gone : Bool
structure Rw where
  key : List UInt8
  val : List UInt8
  at_ : Nat
instance : Inhabited Ch := ⟨⟨[], [], false⟩⟩
instance : Inhabited Rw := ⟨⟨[], [], 0⟩⟩

/-! The order of bytes. -/
theorem u8_lt_iff (a b : UInt8) : (a < b) ↔ a.toNat < b.toNat := UInt8.lt_iff_toNat_lt
theorem bb_irrefl : ∀ a : List UInt8, bytesBefore a a = false
  | [] => rfl
  | x :: r => by
    have h : ¬ x < x := UInt8.lt_irrefl x
    simp [bytesBefore, h, bb_irrefl r]
theorem bb_trans : ∀ a b c : List UInt8, bytesBefore a b = true → bytesBefore b c = true → bytesBefore a c = true
  | [], [], _, h, _ => by simp [bytesBefore] at h
  | [], _ :: _, [], _, h => by simp [bytesBefore] at h
  | [], _ :: _, _ :: _, _, _ => rfl
  | _ :: _, [], _, h, _ => by simp [bytesBefore] at h
  | _ :: _, _ :: _, [], _, h => by simp [bytesBefore] at h
  | x :: a, y :: b, z :: c, h1, h2 => by
    simp only [bytesBefore, Bool.or_eq_true, decide_eq_true_eq, Bool.and_eq_true, beq_iff_eq, u8_lt_iff] at *
    rcases h1 with h1 | ⟨rfl, h1⟩
    · rcases h2 with h2 | ⟨rfl, h2⟩
      · left; omega
      · left; exact h1
    · rcases h2 with h2 | ⟨rfl, h2⟩
      · left; exact h2
      · right; exact ⟨rfl, bb_trans a b c h1 h2⟩
theorem bb_total : ∀ a b : List UInt8, a ≠ b → bytesBefore a b = true ∨ bytesBefore b a = true
  | [], [], h => absurd rfl h
  | [], _ :: _, _ => .inl rfl
  | _ :: _, [], _ => .inr rfl
  | x :: a, y :: b, h => by
    simp only [bytesBefore, Bool.or_eq_true, decide_eq_true_eq, Bool.and_eq_true, beq_iff_eq, u8_lt_iff]
    by_cases hxy : x = y
    · subst hxy
      rcases bb_total a b (fun e => h (by rw [e])) with h1 | h1
      · exact .inl (.inr ⟨rfl, h1⟩)
      · exact .inr (.inr ⟨rfl, h1⟩)
    · have : x.toNat ≠ y.toNat := fun e => hxy (UInt8.toNat_inj.1 e)
      omega
theorem bb_asymm (a b : List UInt8) (h : bytesBefore a b = true) : bytesBefore b a = false := by
  cases h2 : bytesBefore b a
  · rfl
  · have := bb_trans a b a h h2
    rw [bb_irrefl] at this
    cases this
theorem bb_ne {a b : List UInt8} (h : bytesBefore a b = true) : a ≠ b := fun e => by
  rw [e, bb_irrefl] at h
  cases h
theorem cmp_lt : ∀ a b : List UInt8, decide (Lib.compareBytes a b < 0) = bytesBefore a b
  | [], [] => by simp [Lib.compareBytes, bytesBefore]
  | [], _ :: _ => by simp [Lib.compareBytes, bytesBefore]
  | _ :: _, [] => by simp [Lib.compareBytes, bytesBefore]
  | x :: a, y :: b => by
    have ih := cmp_lt a b
    simp only [Lib.compareBytes, bytesBefore]
    by_cases h1 : x < y
    · simp [h1]
    · by_cases h2 : y < x
      · have h3 : ¬ x = y := fun e => by subst e; exact UInt8.lt_irrefl x h2
        simp [h1, h2, h3]
      · have h3 : x = y := by
          rw [u8_lt_iff] at h1 h2
          exact UInt8.toNat_inj.1 (by omega)
        simp [h3, ih]

/-! Rows, rising. -/
def Sorted (M : List Rw) : Prop := M.Pairwise fun a b => bytesBefore a.key b.key = true
theorem Sorted.nil : Sorted [] := List.Pairwise.nil
theorem Sorted.keys {M : List Rw} (h : Sorted M) : M.Pairwise fun a b => a.key ≠ b.key := h.imp fun h => bb_ne h
theorem Sorted.inj {M : List Rw} (h : Sorted M) {x y : Rw} (hx : x ∈ M) (hy : y ∈ M) (e : x.key = y.key) : x = y := by
  induction M with
  | nil => cases hx
  | cons a r ih =>
    obtain ⟨h1, h2⟩ := List.pairwise_cons.1 h
    rcases List.mem_cons.1 hx with hx' | hx'
    · rcases List.mem_cons.1 hy with hy' | hy'
      · rw [hx', hy']
      · exact absurd e (by rw [hx']; exact bb_ne (h1 y hy'))
    · rcases List.mem_cons.1 hy with hy' | hy'
      · exact absurd e.symm (by rw [hy']; exact bb_ne (h1 x hx'))
      · exact ih h2 hx' hy'
theorem Sorted.nodup {M : List Rw} (h : Sorted M) : M.Nodup := h.keys.imp fun h e => h (by rw [e])
theorem Sorted.filter {M : List Rw} (h : Sorted M) (p : Rw → Bool) : Sorted (M.filter p) := List.Pairwise.filter p h
theorem sorted_perm_eq {M M' : List Rw} (h : Sorted M) (h' : Sorted M') (hp : M.Perm M') : M = M' := by
  unfold Sorted at h h'
  exact List.Perm.eq_of_pairwise (le := fun a b : Rw => bytesBefore a.key b.key = true) (fun a b _ _ h1 h2 => by rw [bb_asymm _ _ h1] at h2; cases h2) h h' hp
theorem sorted_ext {M M' : List Rw} (h : Sorted M) (h' : Sorted M') (hm : ∀ x, x ∈ M ↔ x ∈ M') : M = M' :=
  sorted_perm_eq h h' ((List.perm_ext_iff_of_nodup h.nodup h'.nodup).2 hm)

def insR (x : Rw) : List Rw → List Rw
  | [] => [x]
  | y :: r => if bytesBefore x.key y.key then x :: y :: r else y :: insR x r
def delR (M : List Rw) (k : List UInt8) : List Rw := M.filter fun r => !(r.key == k)
def putR (M : List Rw) (x : Rw) : List Rw := insR x (delR M x.key)
def findR (M : List Rw) (k : List UInt8) : Option Rw := M.find? fun r => r.key == k

theorem mem_insR {x y : Rw} : ∀ {M : List Rw}, y ∈ insR x M ↔ y = x ∨ y ∈ M
  | [] => by simp [insR]
  | a :: r => by
    unfold insR
    split
    · simp
    · rw [List.mem_cons, mem_insR (M := r), List.mem_cons]
      constructor
      · rintro (h | h | h) <;> simp [h]
      · rintro (h | h | h) <;> simp [h]
theorem mem_delR {y : Rw} {M : List Rw} {k : List UInt8} : y ∈ delR M k ↔ y ∈ M ∧ y.key ≠ k := by simp [delR]
theorem mem_putR {x y : Rw} {M : List Rw} : y ∈ putR M x ↔ y = x ∨ (y ∈ M ∧ y.key ≠ x.key) := by rw [putR, mem_insR, mem_delR]
theorem sorted_insR {x : Rw} : ∀ {M : List Rw}, Sorted M → (∀ y ∈ M, y.key ≠ x.key) → Sorted (insR x M)
  | [], _, _ => by simp [insR, Sorted]
  | a :: r, h, hn => by
    obtain ⟨h1, h2⟩ := List.pairwise_cons.1 h
    unfold insR
    split
    · rename_i hx
      refine List.pairwise_cons.2 ⟨fun y hy => ?_, h⟩
      rcases List.mem_cons.1 hy with rfl | hy
      · exact hx
      · exact bb_trans _ _ _ hx (h1 y hy)
    · rename_i hx
      refine List.pairwise_cons.2 ⟨fun y hy => ?_, sorted_insR h2 (fun y hy => hn y (by simp [hy]))⟩
      rcases mem_insR.1 hy with rfl | hy
      · rcases bb_total _ _ (hn a (by simp)) with h3 | h3
        · exact h3
        · exact absurd h3 hx
      · exact h1 y hy
theorem sorted_delR {M : List Rw} (h : Sorted M) (k : List UInt8) : Sorted (delR M k) := h.filter _
theorem sorted_putR {M : List Rw} (h : Sorted M) (x : Rw) : Sorted (putR M x) := sorted_insR (sorted_delR h _) fun _ hy => (mem_delR.1 hy).2
theorem findR_mem {M : List Rw} {k : List UInt8} {r : Rw} (h : findR M k = some r) : r ∈ M ∧ r.key = k := by
  unfold findR at h
  exact ⟨List.mem_of_find?_eq_some h, by simpa using List.find?_some h⟩
theorem findR_none {M : List Rw} {k : List UInt8} : findR M k = none ↔ ∀ r ∈ M, r.key ≠ k := by
  unfold findR
  rw [List.find?_eq_none]
  simp
theorem findR_of {M : List Rw} (hs : Sorted M) {r : Rw} (h : r ∈ M) : findR M r.key = some r := by
  cases hf : findR M r.key with
  | none => exact absurd rfl (findR_none.1 hf r h)
  | some x =>
    obtain ⟨h1, h2⟩ := findR_mem hf
    rw [hs.inj h1 h h2]
theorem findR_iff {M : List Rw} (hs : Sorted M) {k : List UInt8} {r : Rw} : findR M k = some r ↔ r ∈ M ∧ r.key = k :=
  ⟨findR_mem, fun ⟨h1, h2⟩ => by rw [← h2]; exact findR_of hs h1⟩
theorem insR_length (x : Rw) : ∀ M : List Rw, (insR x M).length = M.length + 1
  | [] => rfl
  | a :: r => by
    unfold insR
    split
    · rfl
    · rw [List.length_cons, insR_length x r, List.length_cons]
theorem delR_none {M : List Rw} {k : List UInt8} (h : ∀ r ∈ M, r.key ≠ k) : delR M k = M := by
  unfold delR
  rw [List.filter_eq_self]
  intro r hr
  simp [h r hr]
theorem delR_length {M : List Rw} (hs : Sorted M) {k : List UInt8} {r : Rw} (h : findR M k = some r) : (delR M k).length + 1 = M.length := by
  induction M with
  | nil => simp [findR] at h
  | cons a l ih =>
    obtain ⟨h1, h2⟩ := List.pairwise_cons.1 hs
    by_cases ha : a.key = k
    · have hn : ∀ r ∈ l, r.key ≠ k := fun r hr e => bb_ne (h1 r hr) (by rw [ha, e])
      have : delR (a :: l) k = l := by
        have e := delR_none hn
        unfold delR at e ⊢
        rw [List.filter_cons_of_neg (by simp [ha]), e]
      rw [this, List.length_cons]
    · have hf : findR l k = some r := by
        unfold findR at h ⊢
        rwa [List.find?_cons_of_neg (by simp [ha])] at h
      have e : delR (a :: l) k = a :: delR l k := by
        unfold delR
        rw [List.filter_cons_of_pos (by simp [ha])]
      rw [e, List.length_cons, ih h2 hf, List.length_cons]
theorem putR_new {M : List Rw} {x : Rw} (h : findR M x.key = none) : (putR M x).length = M.length + 1 := by
  rw [putR, insR_length, delR_none (findR_none.1 h)]
theorem putR_old {M : List Rw} (hs : Sorted M) {x r : Rw} (h : findR M x.key = some r) : (putR M x).length = M.length := by
  rw [putR, insR_length, delR_length hs h]

/-! A map that reads as rows. -/
def ent (r : Rw) : Lit × DataW Unit := (.string r.key, .agg [.lit (.int .i64 (r.at_ : Int)), .lit (.string r.val)])
def mapD (M : List Rw) : DataW Unit := .map (M.map ent)
theorem filter_ent (M : List Rw) (k : List UInt8) : (M.map ent).filter (fun p => !p.1.sameKey (.string k)) = (delR M k).map ent := by
  unfold delR
  rw [List.filter_map]
  rfl
theorem insert_ent (x : Rw) : ∀ M : List Rw, DataW.insert (ent x) (M.map ent) = (insR x M).map ent
  | [] => rfl
  | a :: r => by
    rw [List.map_cons, DataW.insert, insR]
    show (if bytesBefore x.key a.key then _ else _) = _
    split
    · rfl
    · rw [List.map_cons, insert_ent x r]
theorem mapD_put (M : List Rw) (x : Rw) : (mapD M).put (.string x.key) (.agg [.lit (.int .i64 (x.at_ : Int)), .lit (.string x.val)]) = mapD (putR M x) := by
  show DataW.map (DataW.insert (ent x) ((M.map ent).filter (fun p => !p.1.sameKey (.string x.key)))) = _
  rw [filter_ent, insert_ent]
  rfl
theorem mapD_del (M : List Rw) (k : List UInt8) : (mapD M).del (.string k) = mapD (delR M k) := by
  show DataW.map ((M.map ent).filter (fun p => !p.1.sameKey (.string k))) = _
  rw [filter_ent]
  rfl
theorem mapD_find (M : List Rw) (k : List UInt8) : (M.map ent).find? (fun p => p.1.sameKey (.string k)) = (findR M k).map ent := by
  unfold findR
  rw [List.find?_map]
  rfl
theorem mapD_atKey (M : List Rw) (k : List UInt8) (z : DataW Unit) : (mapD M).atKey (.string k) z = match findR M k with | some r => (ent r).2 | none => z := by
  unfold mapD DataW.atKey
  simp only [mapD_find]
  cases findR M k <;> rfl
theorem mapD_has (M : List Rw) (k : List UInt8) : Maps.has (mapD M) (.string k) = (findR M k).isSome := by
  show (M.map ent).any (fun p => p.1.sameKey (.string k)) = _
  rw [Bool.eq_iff_iff, List.any_eq_true]
  constructor
  · rintro ⟨p, hp, hk⟩
    obtain ⟨r, hr, rfl⟩ := List.mem_map.1 hp
    cases hf : findR M k with
    | some _ => rfl
    | none => exact absurd (show r.key = k by simpa [ent, Lit.sameKey] using hk) (findR_none.1 hf r hr)
  · intro h
    obtain ⟨r, hf⟩ := Option.isSome_iff_exists.1 h
    obtain ⟨h1, h2⟩ := findR_mem hf
    exact ⟨ent r, List.mem_map.2 ⟨r, h1, rfl⟩, by simp [ent, Lit.sameKey, h2]⟩
theorem mapD_size (M : List Rw) : Maps.size (mapD M) = M.length := by
  show (M.map ent).length = _
  simp

/-- How a row's element reads. -/
def rowElem (v : Value) : Option (DataW Unit × List MemPlace) :=
  match v with
  | .agg cs => match cs.toList with
    | [.int .i64 a, .string s] => some (.agg [.lit (.int .i64 a), .lit (.string s.data.toList)], [])
    | _ => none
  | _ => none
theorem rowElem_mk (a : Int) (s : ByteArray) : rowElem (.agg #[.int .i64 a, .string s]) = some (.agg [.lit (.int .i64 a), .lit (.string s.data.toList)], []) := rfl
theorem rowElem_inv {v : Value} {z : DataW Unit × List MemPlace} (h : rowElem v = some z) : ∃ a s, v = .agg #[.int .i64 a, .string s] ∧ z = (.agg [.lit (.int .i64 a), .lit (.string s.data.toList)], []) := by
  unfold rowElem at h
  split at h
  · rename_i cs
    split at h
    · rename_i a s hcs
      injection h with h
      refine ⟨a, s, ?_, h.symm⟩
      have : cs = #[.int .i64 a, .string s] := by rw [← Array.toArray_toList (xs := cs), hcs]
      rw [this]
    · cases h
  · cases h
end Go.Proofs.YtchlcmgdfbabdaaGreatDoor

/-! === Blks === -/
/- Lists of blocks that are to be changed: opened to what lies in memory; whether they may be. -/
namespace Go.Proofs.YtchlcmgdfbabdaaGreatDoor
open Go.RowKit Go.WideShapes Go.ChangeShapes Go.Deep

section
variable {H : Type} {enc : TypeId × Value → H} {P : Program} {w : World} {base : Nat} {spare : Nat → Bool} {held : Bool}

theorem addr_plain {a : Addr} {v : Value} (h : w.cell? a = some v) : a = ⟨a.block, a.off, none⟩ := by
  obtain ⟨b, o, s⟩ := a
  cases s with
  | none => rfl
  | some x =>
    unfold World.cell? at h
    split at h
    · simp at h
    · cases h

/-- A slice of structs of one-cell fields: nil, or each element's cells, and each cell's reading. -/
theorem open_structs {t e : TypeId} {fs : Array Field} {fuel : Nat} {cs : List Value} {x : DataW H × List MemPlace} (ht : P.underlying t = some (.slice e)) (he : P.underlying e = some (.struct fs))
    (hone : oneCellFields P fs = true) (hC : P.cellsOf e = fs.size) (hpos : 0 < fs.size) (h : DataW.trod enc P w base spare held fuel t cs = some x) :
    cs = [.slice none 0 0] ∨ ∃ (A : Option Addr) (len cap : Nat), cs = [.slice A len cap] ∧ (len ≤ maxLen ∧ len ≤ cap) ∧
      (len = 0 ∨ ∃ g o, A = some ⟨g, o, none⟩ ∧ g < w.heap.size ∧ ∀ i, i < len → ∀ (j : Nat) (f : Field), fs[j]? = some f →
        ∃ (n : Nat) (v : Value) (y : DataW H × List MemPlace), w.cell? ⟨g, o + i * fs.size + j, none⟩ = some v ∧ DataW.trod enc P w base spare held n f.type [v] = some y) := by
  rcases open_slice ht h with h0 | ⟨a, len, cap, m, n, D, Pl, hcs, hb, hl, hm, hmm, _, hi⟩
  · exact .inl h0.1
  right
  refine ⟨some a, len, cap, hcs, ⟨by omega, hl⟩, ?_⟩
  by_cases hz : len = 0
  · exact .inl hz
  right
  have hlm : ∀ i, i < len → i < m := fun i hi' => by rw [hmm]; split <;> omega
  have cell0 : ∃ v, w.cell? a = some v := by
    obtain ⟨cs', hc, _⟩ := hi 0 (hlm 0 (by omega))
    obtain ⟨_, hcl, hat⟩ := World.cells?_some hc
    have := hat 0 (by omega)
    rw [Nat.zero_mul] at this
    have hadd : (a.add 0).add 0 = a := by simp [Addr.add]
    rw [hadd] at this
    exact ⟨_, this.trans (List.getElem?_eq_getElem (by omega))⟩
  obtain ⟨v0, hv0⟩ := cell0
  have hap := addr_plain hv0
  refine ⟨a.block, a.off, by rw [← hap], World.block_lt_of_cell? w a hv0, fun i hil j f hj => ?_⟩
  obtain ⟨cs', hc, ht'⟩ := hi i (hlm i hil)
  obtain ⟨ys, n', _, _, hlen', hyl, hf⟩ := DataW.trod_struct he ht'
  obtain ⟨_, hcl, hat⟩ := World.cells?_some hc
  obtain ⟨ho, hk⟩ := hone_of hone j f hj
  have hjl : j < fs.size := (Array.getElem?_eq_some_iff.1 hj).1
  have hcell := hat j (by omega)
  have hcj : j < cs'.length := by omega
  have h1 := hf j f hj
  rw [ho, hk, List.drop_eq_getElem_cons hcj] at h1
  refine ⟨n', cs'[j], ys[j]'(by omega), ?_, ?_⟩
  · rw [hap, addr_add, hC, addr_add, List.getElem?_eq_getElem hcj] at hcell
    exact hcell
  · rw [List.getElem?_eq_getElem (by omega)] at h1
    exact h1

end

/-- A block that is to be changed: which, and what it is to have. -/
structure Bk where
  at_ : Int
  data : List UInt8
def Bk.okay (x : Bk) : Prop := (-9223372036854775808 ≤ x.at_ ∧ x.at_ ≤ 9223372036854775807) ∧ x.data.length ≤ 9223372036854775807

def BlksAt (w : World) (g o : Nat) (l : List Bk) : Prop := ∀ i (h : i < l.length), w.cell? ⟨g, o + i * 2, none⟩ = some (.int .i64 l[i].at_) ∧ w.cell? ⟨g, o + i * 2 + 1, none⟩ = some (.string (strOf l[i].data))
/-- The blocks that a slice of address A holds. -/
def Blks (w : World) (A : Option Addr) (l : List Bk) : Prop := (l = [] ∨ ∃ g o, A = some ⟨g, o, none⟩ ∧ g < w.heap.size ∧ BlksAt w g o l) ∧ ∀ x ∈ l, x.okay

theorem Blks.kept {S : List Nat} {w w' : World} {A : Option Addr} {l : List Bk} (h : Blks w A l) (k : Only S w w') (hA : ∀ a, A = some a → a.block ∉ S) : Blks w' A l := by
  refine ⟨h.1.imp id ?_, h.2⟩
  rintro ⟨g, o, rfl, hg, hc⟩
  have hS := hA _ rfl
  exact ⟨g, o, rfl, Nat.lt_of_lt_of_le hg k.size, fun i hi => ⟨k.cell (hc i hi).1 hS, k.cell (hc i hi).2 hS⟩⟩
theorem Blks.get {w : World} {A : Option Addr} {l : List Bk} (h : Blks w A l) {i : Nat} (hi : i < l.length) : ∃ g o, A = some ⟨g, o, none⟩ ∧ g < w.heap.size ∧ BlksAt w g o l := by
  rcases h.1 with rfl | h
  · simp at hi
  · exact h

section
variable {H : Type} {enc : TypeId × Value → H} {w : World}
set_option maxRecDepth 100000 in
theorem open_blks' {v : Value} {fuel : Nat} {x : DataW H × List MemPlace} (h : DataW.trod enc Tryz.prog w 0 (fun _ => true) true fuel 80 [v] = some x) : ∃ (A : Option Addr) (c : Nat) (l : List Bk), v = .slice A (List.length l) c ∧ Blks w A l ∧ l.length ≤ 9223372036854775807 ∧ l.length ≤ c := by
  rcases open_structs Tryz.underlying80 Tryz.underlying129 (by kernel_rfl) (by kernel_rfl) (by decide) h with h0 | ⟨A, len, cap, hcs, ⟨hm, hcap⟩, hz⟩
  · injection h0 with h0 _
    exact ⟨none, 0, [], h0, ⟨.inl rfl, by simp⟩, by simp, by simp⟩
  · injection hcs with hcs _
    subst hcs
    have hm' : len ≤ 9223372036854775807 := by simp only [maxLen] at hm; omega
    rcases hz with rfl | ⟨g, o, rfl, hg, hall⟩
    · exact ⟨A, cap, [], rfl, ⟨.inl rfl, by simp⟩, by simp, by simp⟩
    have each : ∀ i, i < len → ∃ x : Bk, (w.cell? ⟨g, o + i * 2, none⟩ = some (.int .i64 x.at_) ∧ w.cell? ⟨g, o + i * 2 + 1, none⟩ = some (.string (strOf x.data))) ∧ x.okay := by
      intro i hi
      obtain ⟨n0, v0, y0, k0, t0⟩ := hall i hi 0 _ rfl
      obtain ⟨n1, v1, y1, k1, t1⟩ := hall i hi 1 _ rfl
      obtain ⟨a0, e0, _, w0⟩ := DataW.trod_int Tryz.underlying3 t0
      obtain ⟨s, e1, _, hs⟩ := DataW.trod_string Tryz.underlying9 t1
      injection e0 with e0 _; injection e1 with e1 _
      subst e0; subst e1
      have r0 := i64_range w0
      refine ⟨⟨a0, s.data.toList⟩, ⟨by simpa using k0, ?_⟩, r0, ?_⟩
      · simp only [strOf_toList]
        simpa using k1
      · simp only [maxLen] at hs
        have : s.data.toList.length = s.size := by rw [Array.length_toList]; rfl
        simp only [this]
        omega
    haveI : Inhabited Bk := ⟨⟨0, []⟩⟩
    obtain ⟨f, hf'⟩ := choose_lt each
    refine ⟨_, cap, (List.range len).map f, by simp, ⟨.inr ⟨g, o, rfl, hg, fun j hj => ?_⟩, ?_⟩, by rw [List.length_map, List.length_range]; exact hm', by rw [List.length_map, List.length_range]; exact hcap⟩
    · have e : ((List.range len).map f)[j] = f j := by simp
      rw [e]
      exact (hf' j (by simpa using hj)).1
    · intro x hx
      simp only [List.mem_map, List.mem_range] at hx
      obtain ⟨i, hi, rfl⟩ := hx
      exact (hf' i hi).2
set_option maxRecDepth 100000 in
/-- A list of blocks that comes in. -/
theorem open_blks {v : Value} {d : DataW H} {ps : List MemPlace} {r : Reach} {b0 : Nat} (hv : Value.okWide Tryz.prog w r b0 80 v) (h : DataW.Trod enc Tryz.prog w 0 (fun _ => true) true 80 v d ps) :
    ∃ A c l, v = .slice A (List.length l) c ∧ Blks w A l ∧ l.length ≤ 9223372036854775807 ∧ l.length ≤ c := by
  obtain ⟨A, len, cap, rfl⟩ := okWide_slice Tryz.underlying80 hv
  obtain ⟨fuel, hf⟩ := h
  exact open_blks' (by simpa [Value.cells] using hf)
end

/-! Which blocks may be changed together. -/
def goodAt (l : List Bk) (size : Int) (i : Nat) : Prop := ∀ x, l[i]? = some x → 0 ≤ x.at_ ∧ x.at_ < size ∧ x.data.length ≤ 248 ∧ ∀ k y, k < i → l[k]? = some y → y.at_ ≠ x.at_
def RightL (l : List Bk) (size : Int) : Prop := 1 ≤ l.length ∧ l.length ≤ 40 ∧ ∀ i, i < l.length → goodAt l size i

/-- The answer is whether P. -/
def Says (P : Prop) (e : Ending) : Prop := ∃ r : Bool, e = .returned (.bool r) ∧ (r = true ↔ P)
theorem Says.no {P : Prop} (h : ¬ P) : Says P (.returned (.bool false)) := ⟨false, rfl, by simp [h]⟩
theorem Says.yes {P : Prop} (h : P) : Says P (.returned (.bool true)) := ⟨true, rfl, by simp [h]⟩

end Go.Proofs.YtchlcmgdfbabdaaGreatDoor

/-! === Data === -/
/- A row's data: zero, isKey, dataOf, rowOf; and what they say of bytes. -/
namespace Go.Proofs.YtchlcmgdfbabdaaGreatDoor
open Go.RowKit

def isKeyL (k : List UInt8) : Bool := decide (1 ≤ k.length ∧ k.length ≤ 16)
def isZeroL (l : List UInt8) : Bool := l.all (· == 0)
theorem dropWhile_nil : ∀ l : List UInt8, (l.dropWhile (· == 0) = []) ↔ isZeroL l = true
  | [] => by simp [isZeroL]
  | a :: r => by
    by_cases h : a = 0
    · subst h
      simpa [isZeroL] using dropWhile_nil r
    · simp [isZeroL, h]
theorem dropWhile_suffix_zero : ∀ l : List UInt8, isZeroL (l.dropWhile (· == 0)) = isZeroL l
  | [] => rfl
  | a :: r => by
    by_cases h : a = 0
    · subst h
      simpa [isZeroL] using dropWhile_suffix_zero r
    · simp [h]
theorem isZeroL_reverse (l : List UInt8) : isZeroL l.reverse = isZeroL l := by simp [isZeroL]
theorem trimB_nil (l : List UInt8) : (Lib.trimB l 0 = []) ↔ isZeroL l = true := by
  unfold Lib.trimB Lib.trimLeftB Lib.trimRightB
  rw [dropWhile_nil, isZeroL_reverse, dropWhile_suffix_zero, isZeroL_reverse]

theorem zero5_any (w : World) (l : List UInt8) (hl : l.length ≤ 1048576) :
    Calls Tryz.prog 47 #[.string (strOf l)] w fun e w' => e = .returned (.bool (isZeroL l)) ∧ Only [] w w' := by
  have ht := fun W => Tryz.strings_Trim_one (strOf l) 0 (by decide) W (by rw [strOf_size]; omega)
  rw [strOf_list] at ht
  have hz : (⟨(Lib.trimB l 0).toArray⟩ : ByteArray).toList.isEmpty = isZeroL l := by
    rw [ByteArray.toList_mk, Bool.eq_iff_iff, List.isEmpty_iff]
    exact trimB_nil l
  generalize isZeroL l = b at *
  generalize (⟨(Lib.trimB l 0).toArray⟩ : ByteArray) = T at *
  replace hz := Lib.hid hz
  generalize strOf l = s at *
  replace ht := Lib.hid ht
  go_enter Tryz.func47, Tryz.ntmps47
  go_wp2_with fail
  refine (ht.out _).mono ?_
  rintro e w1 ⟨rfl, k⟩
  have k1 : Only [] w w1 := by
    rcases k with rfl | rfl
    · exact Only.refl _ _
    · exact (Only.refl [] w).drew
  clear k
  go_wp2
  go_ret
  exact ⟨by rw [← hz.out]; rfl, k1⟩

theorem isKey_any (w : World) (k : List UInt8) (hl : k.length ≤ 9223372036854775807) :
    Calls Tryz.prog 54 #[.string (strOf k)] w fun e w' => e = .returned (.bool (isKeyL k)) ∧ w' = w := by
  have hs := strOf_size k
  unfold isKeyL
  generalize k.length = n at *
  generalize strOf k = s at *
  subst hs
  by_cases h1 : 1 ≤ s.size
  · have e : decide (1 ≤ s.size ∧ s.size ≤ 16) = decide ((s.size : Int) ≤ 16) := by
      rw [Bool.eq_iff_iff]; simp [h1]; omega
    rw [e]
    go_enter Tryz.func54, Tryz.ntmps54
    go_wp2
    go_ret
    exact ⟨by simp, rfl⟩
  · have e : decide (1 ≤ s.size ∧ s.size ≤ 16) = false := by simp [h1]
    rw [e]
    have h0 : s.size = 0 := by omega
    go_enter Tryz.func54, Tryz.ntmps54
    go_wp2
    go_ret
    exact ⟨by simp, rfl⟩

/-- The bytes of a changed row. -/
def rowL (k v : List UInt8) : List UInt8 := be4 1 ++ encT k ++ encT v
def dataL (c : Ch) : List UInt8 := if c.gone then [] else rowL c.key c.val
theorem rowL_length (k v : List UInt8) : (rowL k v).length = 12 + k.length + padN k.length + v.length + padN v.length := by
  simp [rowL, be4_length, encT_length]
  omega

set_option maxRecDepth 100000 in
theorem dataOf_any (w : World) (c : Ch) (hk : c.key.length ≤ 16) (hv : c.val.length ≤ 200) :
    Calls Tryz.prog 66 #[.agg #[.string (strOf c.key), .string (strOf c.val), .bool c.gone]] w fun e w' => e = .returned (.string (strOf (dataL c))) ∧ Only [] w w' := by
  obtain ⟨key, val, gone⟩ := c
  simp only at hk hv ⊢
  have k0 : ∀ g, Only [] w (w.alloc (.cells #[.string (strOf key), .string (strOf val), .bool g] 66)) := fun g => (Only.refl [] w).alloc _
  cases gone with
  | true =>
    have e : dataL ⟨key, val, true⟩ = [] := rfl
    rw [e]
    have kk := k0 true
    generalize strOf key = ks at *
    generalize strOf val = vs at *
    clear k0
    go_enter Tryz.func66, Tryz.ntmps66
    go_wp2
    go_ret
    exact ⟨rfl, kk⟩
  | false =>
    have e : dataL ⟨key, val, false⟩ = rowL key val := rfl
    rw [e]
    have kk := k0 false
    have bk := Blk.new w 66 #[.string (strOf key), .string (strOf val), .bool false]
    have sk := strOf_list key
    have sv := strOf_list val
    have zk := strOf_size key
    have zv := strOf_size val
    have pk := padN_lt key.length
    have pv := padN_lt val.length
    have le := encT_length key
    have hfin : be4 1 ++ encT key ++ encT val = rowL key val := rfl
    generalize rowL key val = R at *
    generalize strOf key = ks at *
    generalize strOf val = vs at *
    have c0 := bk.cell 0
    have c1 := bk.cell 1
    have c2 := bk.cell 2
    simp only [List.getElem?_toArray, List.getElem?_cons_zero, List.getElem?_cons_succ] at c0 c1 c2
    replace hfin := Lib.hid hfin
    replace sk := Lib.hid sk
    replace sv := Lib.hid sv
    replace zk := Lib.hid zk
    replace zv := Lib.hid zv
    replace le := Lib.hid le
    clear k0 bk
    go_enter Tryz.func66, Tryz.ntmps66
    go_wp2_with fail
    generalize hw1 : w.alloc (.cells #[.string ks, .string vs, .bool false] 66) = w1 at *
    have hs1 : w1.heap.size = w.heap.size + 1 := by rw [← hw1]; simp
    obtain ⟨q, hq⟩ : ∃ q, q = w.heap.size := ⟨_, rfl⟩
    rw [← hq] at c0 c1 c2 hs1 ⊢
    replace hw1 := Lib.hid hw1
    replace hq := Lib.hid hq
    have k2 : Only [] w1 (w1.alloc (.cells #[.slice none 0 0] 156)) := (Only.refl [] w1).alloc _
    have b2 : Blk (w1.alloc (.cells #[.slice none 0 0] 156)) w1.heap.size 156 #[.slice none 0 0] := Blk.new _ _ _
    have hwr : Wr (w1.alloc (.cells #[.slice none 0 0] 156)) w1.heap.size [] [] := ⟨.slice none 0 0, b2, ⟨by simp [byteVs], .inl ⟨rfl, rfl⟩⟩, by simp [Value.ownBlock], by simp [Value.ownBlock]⟩
    have d0 := k2.cell c0 (by simp)
    have d1 := k2.cell c1 (by simp)
    obtain ⟨p, hp⟩ : ∃ p, p = q + 1 := ⟨_, rfl⟩
    rw [hs1, ← hp] at hwr
    rw [← hp]
    have hqp : q ≠ p := by omega
    have hpw : w.heap.size ≤ p := by have := hq.out; omega
    generalize hw2 : w1.alloc (.cells #[.slice none 0 0] 156) = w2 at *
    replace hw2 := Lib.hid hw2
    replace hp := Lib.hid hp
    replace hs1 := Lib.hid hs1
    have k02 := kk.trans k2
    clear b2 c0 c1 c2 k2 kk
    refine (wnumber_any _ p [] [] 1 1 rfl (by decide) hwr (by simp)).mono ?_
    rintro e w3 ⟨rfl, F3, h3, k3, hF3⟩
    have hp2 : p < w2.heap.size := hwr.lt
    have hq2 : q < w2.heap.size := by have := hp.out; omega
    have hqF3 : q ∉ p :: F3 := by
      intro hm
      rcases List.mem_cons.1 hm with h | h
      · exact hqp h
      · rcases hF3 q h with h | h
        · cases h
        · omega
    have e0 := k3.cell d0 (by simpa using hqp)
    have e1 := k3.cell d1 (by simpa using hqp)
    have hq3 := Nat.lt_of_lt_of_le hq2 k3.size
    have k03 : Only [] w w3 := k02.then k3 (by simp; exact hpw)
    replace hF3 := Lib.hid hF3
    clear hwr d0 d1 k3 k02
    go_wp2_with fail
    refine (wtext_any _ p F3 _ ks h3 (by rw [zk.out]; simp [be4_length]; omega)).mono ?_
    rintro e w4 ⟨rfl, F4, h4, k4, hF4⟩
    rw [sk.out] at h4
    have f1 := k4.cell e1 (by simpa using hqF3)
    have hF3w : ∀ i ∈ p :: F3, w.heap.size ≤ i := fun i hi => by
      rcases List.mem_cons.1 hi with rfl | hi
      · exact hpw
      · rcases hF3.out i hi with h | h
        · cases h
        · have := hp2; have := hp.out; have := hq.out; omega
    have k04 : Only [] w w4 := k03.then k4 (fun i hi => .inr (hF3w i hi))
    clear h3 e0 e1 k4 k03
    go_wp2_with fail
    refine (wtext_any _ p F4 _ vs h4 (by rw [zv.out]; simp [be4_length, le.out]; omega)).mono ?_
    rintro e w5 ⟨rfl, F5, h5, k5, hF5⟩
    rw [sv.out] at h5
    have hF4w : ∀ i ∈ p :: F4, w.heap.size ≤ i := fun i hi => by
      rcases List.mem_cons.1 hi with rfl | hi
      · exact hpw
      · rcases hF4 i hi with h | h
        · exact hF3w i (by simp [h])
        · have := hq3; have := hq.out; omega
    have k05 : Only [] w w5 := k04.then k5 (fun i hi => .inr (hF4w i hi))
    rw [List.nil_append, hfin.out] at h5
    clear h4 f1 k5 k04
    go_wp2_with fail
    refine (bytes_any _ p F5 _ h5).mono ?_
    rintro e w6 ⟨rfl, rfl⟩
    clear h5
    go_wp2
    go_ret
    exact ⟨rfl, k05⟩

/-- What data say. -/
def scanR (d : List UInt8) : Nat × List UInt8 × Nat := rNumber d 0
def scanK (d : List UInt8) : List UInt8 × List UInt8 × Nat := rText 16 (scanR d).2.1 (scanR d).2.2
def scanV (d : List UInt8) : List UInt8 × List UInt8 × Nat := rText 200 (scanK d).2.1 (scanK d).2.2
def goodD (d : List UInt8) : Bool := ((scanV d).2.2 == 0 && (scanR d).1 == 1) && (isKeyL (scanK d).1 && isZeroL (scanV d).2.1)
def rowOfL (d : List UInt8) : Option (List UInt8 × List UInt8) := if goodD d then some ((scanK d).1, (scanV d).1) else none
def rowOfV (d : List UInt8) : Value := match rowOfL d with
  | some x => .tuple #[.string (strOf x.1), .string (strOf x.2), .bool true]
  | none => .tuple #[.string ⟨#[]⟩, .string ⟨#[]⟩, .bool false]
theorem rNumber_suffix (d : List UInt8) (e : Nat) : (rNumber d e).2.1 <:+ d := by
  unfold rNumber
  split
  · exact List.suffix_refl _
  · split
    · exact List.suffix_refl _
    · exact List.drop_suffix _ _
theorem rText_suffix (m : Int) (d : List UInt8) (e : Nat) : (rText m d e).2.1 <:+ d := by
  unfold rText
  repeat (first | exact List.suffix_refl _ | exact List.drop_suffix _ _ | split)
theorem scan_suffix (d : List UInt8) : (scanV d).2.1 <:+ d := (rText_suffix _ _ _).trans ((rText_suffix _ _ _).trans (rNumber_suffix _ _))
end Go.Proofs.YtchlcmgdfbabdaaGreatDoor

/-! === Data2 === -/
/- rowOf: what a row's data say. -/
namespace Go.Proofs.YtchlcmgdfbabdaaGreatDoor
open Go.RowKit

set_option maxRecDepth 100000 in
set_option maxHeartbeats 1000000 in
theorem rowOf_any (w : World) (d : List UInt8) (hl : d.length ≤ 1048576) :
    Calls Tryz.prog 48 #[.string (strOf d)] w fun e w' => e = .returned (rowOfV d) ∧ Only [] w w' := by
  have hnew : ∀ W, Calls Tryz.prog 74 #[.string (strOf d)] W (NewRd2 W d) := fun W => by
    have := newReader_two W (strOf d) (by rw [strOf_size]; omega)
    rwa [strOf_list] at this
  have hn := fun W p g h => rnum_any W p g d 0 h
  have ht := fun W p g h => rtext_any W p g (scanR d).2.1 (scanR d).2.2 16 (by decide) h
  have hu := fun W p g h => rtext_any W p g (scanK d).2.1 (scanK d).2.2 200 (by decide) h
  have hkl : (scanK d).1.length ≤ 9223372036854775807 := by
    have := rText_len 16 (scanR d).2.1 (scanR d).2.2
    unfold scanK
    unfold rText
    split
    · simp
    · repeat (first | (split; simp) | (simp; have := hd4_lt (scanR d).2.1; omega))
  have hik := fun W => isKey_any W (scanK d).1 hkl
  have hsuf := scan_suffix d
  have hzl : (scanV d).2.1.length ≤ d.length := hsuf.length_le
  have hdrop : d.drop (d.length - (scanV d).2.1.length) = (scanV d).2.1 := (List.suffix_iff_eq_drop.1 hsuf).symm
  have hex : (strOf d).extract (d.length - (scanV d).2.1.length) d.length = strOf (scanV d).2.1 := by
    show (ByteArray.mk d.toArray).extract _ _ = _
    rw [ByteArray.extract_mk, List.take_of_length_le (by simp), hdrop]
    rfl
  have hze := fun W => zero5_any W (scanV d).2.1 (by omega)
  have hgood : goodD d = (((scanV d).2.2 == 0 && (scanR d).1 == 1) && (isKeyL (scanK d).1 && isZeroL (scanV d).2.1)) := rfl
  have hval : rowOfV d = if goodD d then .tuple #[.string (strOf (scanK d).1), .string (strOf (scanV d).1), .bool true] else .tuple #[.string ⟨#[]⟩, .string ⟨#[]⟩, .bool false] := by
    unfold rowOfV rowOfL
    cases goodD d <;> rfl
  rw [hval, hgood]
  change ∀ W p g, Rd W p g d 0 → Calls _ _ _ W (Took W p g (.int .u32 ((scanR d).1 : Int)) (scanR d).2.1 (scanR d).2.2) at hn
  change ∀ W p g, Rd W p g (scanR d).2.1 (scanR d).2.2 → Calls _ _ _ W (Took W p g (.string (strOf (scanK d).1)) (scanK d).2.1 (scanK d).2.2) at ht
  change ∀ W p g, Rd W p g (scanK d).2.1 (scanK d).2.2 → Calls _ _ _ W (Took W p g (.string (strOf (scanV d).1)) (scanV d).2.1 (scanV d).2.2) at hu
  have hR : (scanR d).1 < 4294967296 := by
    unfold scanR rNumber
    split
    · simp
    · split
      · simp
      · exact hd4_lt _
  have hsz : (strOf d).size = d.length := strOf_size d
  have hlI : (d.length : Int) ≤ 1048576 := by omega
  have hzI : ((scanV d).2.1.length : Int) ≤ (d.length : Int) := by omega
  clear hgood hval hsuf hdrop hl hzl hkl
  generalize scanR d = R at *
  generalize scanK d = K at *
  generalize scanV d = V at *
  obtain ⟨n, r1, e1⟩ := R
  obtain ⟨k, r2, e2⟩ := K
  obtain ⟨v, r3, e3⟩ := V
  simp only at *
  generalize isKeyL k = bk at *
  generalize isZeroL r3 = bz at *
  generalize strOf k = ks at *
  generalize strOf v = vs at *
  generalize strOf r3 = rs at *
  generalize hds : strOf d = ds at *
  replace hex := Lib.hid hex
  replace hnew := Lib.hid hnew
  replace hn := Lib.hid hn
  replace ht := Lib.hid ht
  replace hu := Lib.hid hu
  replace hik := Lib.hid hik
  replace hze := Lib.hid hze
  replace hds := Lib.hid hds
  have hRI : ((n : Nat) : Int) < 4294967296 := by omega
  clear hR
  by_cases hcase : e3 = 0 ∧ n = 1
  · obtain ⟨rfl, rfl⟩ := hcase
    cases bk with
    | false =>
      go_enter Tryz.func48, Tryz.ntmps48
      go_wp2_with fail
      refine (hnew.out _).mono ?_
      rintro e w2 ⟨p, g, rfl, hrd, hp, hg, k2, hg2⟩
      go_wp2_with fail
      refine (hn.out _ p g hrd).mono ?_
      rintro e w3 ⟨rfl, hrd3, k3⟩
      go_wp2_with fail
      refine (ht.out _ p g hrd3).mono ?_
      rintro e w4 ⟨rfl, hrd4, k4⟩
      go_wp2_with fail
      refine (hu.out _ p g hrd4).mono ?_
      rintro e w5 ⟨rfl, ⟨o5, c5, hrd5⟩, k5⟩
      have kend : Only [] w w5 := ((k2.then k3 (by simp; omega)).then k4 (by simp; omega)).then k5 (by simp; omega)
      go_wp2_with fail
      refine (err_any _ p g o5 c5 _ _ hrd5).mono ?_
      rintro e w6 ⟨rfl, rfl⟩
      clear hrd hrd3 hrd4 k2 k3 k4 k5
      go_wp2_with fail
      refine (hik.out _).mono ?_
      rintro e w7 ⟨rfl, rfl⟩
      clear hrd5
      go_wp2
      go_ret3
      exact ⟨rfl, kend⟩
    | true =>
      go_enter Tryz.func48, Tryz.ntmps48
      go_wp2_with fail
      refine (hnew.out _).mono ?_
      rintro e w2 ⟨p, g, rfl, hrd, hp, hg, k2, hg2⟩
      go_wp2_with fail
      refine (hn.out _ p g hrd).mono ?_
      rintro e w3 ⟨rfl, hrd3, k3⟩
      go_wp2_with fail
      refine (ht.out _ p g hrd3).mono ?_
      rintro e w4 ⟨rfl, hrd4, k4⟩
      go_wp2_with fail
      refine (hu.out _ p g hrd4).mono ?_
      rintro e w5 ⟨rfl, ⟨o5, c5, hrd5⟩, k5⟩
      have kend : Only [] w w5 := ((k2.then k3 (by simp; omega)).then k4 (by simp; omega)).then k5 (by simp; omega)
      clear hrd hrd3 hrd4 k2 k3 k4 k5
      go_wp2_with fail
      refine (err_any _ p g o5 c5 _ _ hrd5).mono ?_
      rintro e w6 ⟨rfl, rfl⟩
      go_wp2_with fail
      refine (hik.out _).mono ?_
      rintro e w7 ⟨rfl, rfl⟩
      go_wp2_with fail
      refine (left_any _ p g o5 c5 _ _ hrd5).mono ?_
      rintro e w8 ⟨rfl, rfl⟩
      clear hrd5
      go_wp2_with fail
      rw [hex.out]
      refine (hze.out _).mono ?_
      rintro e w9 ⟨rfl, k9⟩
      have kend9 := kend.trans k9
      clear kend k9
      cases bz
      · go_wp2
        go_ret3
        exact ⟨rfl, kend9⟩
      · go_wp2
        go_ret3
        exact ⟨rfl, kend9⟩
  · have hno : (((e3 == 0) && (n == 1)) && (bk && bz)) = false := by
      by_cases h3 : e3 = 0
      · have h1 : ¬ n = 1 := fun h => hcase ⟨h3, h⟩
        simp [h1]
      · simp [h3]
    rw [hno]
    by_cases h3 : e3 = 0
    · have h1 : ((n : Int) == 1) = false := by
        have h1 : ¬ n = 1 := fun h => hcase ⟨h3, h⟩
        simp
        omega
      have h1' : ((n : Int) != 1) = true := by rw [bne, h1]; rfl
      subst h3
      clear hcase hno
      generalize (n : Int) = y at *
      go_enter Tryz.func48, Tryz.ntmps48
      go_wp2_with fail
      refine (hnew.out _).mono ?_
      rintro e w2 ⟨p, g, rfl, hrd, hp, hg, k2, hg2⟩
      go_wp2_with fail
      refine (hn.out _ p g hrd).mono ?_
      rintro e w3 ⟨rfl, hrd3, k3⟩
      go_wp2_with fail
      refine (ht.out _ p g hrd3).mono ?_
      rintro e w4 ⟨rfl, hrd4, k4⟩
      go_wp2_with fail
      refine (hu.out _ p g hrd4).mono ?_
      rintro e w5 ⟨rfl, ⟨o5, c5, hrd5⟩, k5⟩
      have kend : Only [] w w5 := ((k2.then k3 (by simp; omega)).then k4 (by simp; omega)).then k5 (by simp; omega)
      clear hrd hrd3 hrd4 k2 k3 k4 k5
      go_wp2_with fail
      refine (err_any _ p g o5 c5 _ _ hrd5).mono ?_
      rintro e w6 ⟨rfl, rfl⟩
      clear hrd5
      go_wp2
      go_ret3
      exact ⟨rfl, kend⟩
    · have h1 : ((e3 : Int) != 0) = true := by simp; omega
      have hn0 : (0 : Int) ≤ (n : Int) := by omega
      clear hcase hno
      generalize (n : Int) = y at *
      go_enter Tryz.func48, Tryz.ntmps48
      go_wp2_with fail
      refine (hnew.out _).mono ?_
      rintro e w2 ⟨p, g, rfl, hrd, hp, hg, k2, hg2⟩
      go_wp2_with fail
      refine (hn.out _ p g hrd).mono ?_
      rintro e w3 ⟨rfl, hrd3, k3⟩
      go_wp2_with fail
      refine (ht.out _ p g hrd3).mono ?_
      rintro e w4 ⟨rfl, hrd4, k4⟩
      go_wp2_with fail
      refine (hu.out _ p g hrd4).mono ?_
      rintro e w5 ⟨rfl, ⟨o5, c5, hrd5⟩, k5⟩
      have kend : Only [] w w5 := ((k2.then k3 (by simp; omega)).then k4 (by simp; omega)).then k5 (by simp; omega)
      clear hrd hrd3 hrd4 k2 k3 k4 k5
      go_wp2_with fail
      refine (err_any _ p g o5 c5 _ _ hrd5).mono ?_
      rintro e w6 ⟨rfl, rfl⟩
      clear hrd5
      generalize (e3 : Int) = y3 at *
      go_wp2
      go_ret3
      exact ⟨rfl, kend⟩
end Go.Proofs.YtchlcmgdfbabdaaGreatDoor

/-! === Shelf === -/
/- The contracts of strings.HasPrefix and strings.Repeat at this dump: the library's, laid by number. -/
namespace Go.Proofs
open Go.Shelf
def Tryz.lays99_ren : Go.Shelf.Ren := ⟨fun | 99 => 49 | 206 => 82 | n => n, fun | 9 => 9 | 4 => 4 | 3 => 3 | n => n, fun | n => n⟩
theorem Tryz.lays99 : Go.Proofs.Lays.n99 Tryz.prog Tryz.lays99_ren := {
  mixed := by kernel_rfl
  f99 := Tryz.func49.trans (congrArg some (by kernel_rfl))
  f206 := Tryz.func82.trans (congrArg some (by kernel_rfl))
  t3 := Tryz.underlying3
  a3 := Tryz.isAgg3
  z3 := Tryz.sizeOf3
  v3 := Tryz.zeroValue3
  t4 := Tryz.underlying4
  a4 := Tryz.isAgg4
  z4 := Tryz.sizeOf4
  v4 := Tryz.zeroValue4
  t9 := Tryz.underlying9
  a9 := Tryz.isAgg9
  z9 := Tryz.sizeOf9
  v9 := Tryz.zeroValue9 }
open Go.RowKit Go.Lib in
/-- strings.HasPrefix: "HasPrefix reports whether the string s begins with prefix.": IT RETURNS 'Lib.hasPrefix s prefix'; the world is as it was. (LAID: no walk: one application.) -/
theorem Tryz.strings_HasPrefix (s p : ByteArray) (w : World) :
    Calls Tryz.prog 49 #[.string s, .string p] w fun e w' => e = .returned (.bool (Lib.hasPrefix s.data.toList p.data.toList)) ∧ w' = w := Any.strings_HasPrefix Tryz.lays99 s p w
def Tryz.lays105_ren : Go.Shelf.Ren := ⟨fun | 105 => 132 | 212 => 145 | 99 => 49 | 165 => 146 | 166 => 147 | 170 => 148 | 169 => 149 | 263 => 157 | 264 => 158 | 206 => 82 | 240 => 159 | 241 => 160 | 276 => 162 | 277 => 163 | n => n, fun | 9 => 9 | 3 => 3 | 4 => 4 | 20 => 20 | 0 => 0 | 46 => 67 | 109 => 207 | 5 => 5 | 72 => 211 | 76 => 215 | 51 => 23 | 146 => 224 | 53 => 168 | 148 => 226 | 70 => 209 | 37 => 88 | 75 => 214 | 127 => 228 | 164 => 232 | 80 => 124 | n => n, fun | n => n⟩
theorem Tryz.lays105 : Go.Proofs.Lays.n105 Tryz.prog Tryz.lays105_ren := {
  mixed := by kernel_rfl
  f99 := Tryz.func49.trans (congrArg some (by kernel_rfl))
  f105 := Tryz.func132.trans (congrArg some (by kernel_rfl))
  f165 := Tryz.func146.trans (congrArg some (by kernel_rfl))
  f166 := Tryz.func147.trans (congrArg some (by kernel_rfl))
  f169 := Tryz.func149.trans (congrArg some (by kernel_rfl))
  f170 := Tryz.func148.trans (congrArg some (by kernel_rfl))
  f206 := Tryz.func82.trans (congrArg some (by kernel_rfl))
  f212 := Tryz.func145.trans (congrArg some (by kernel_rfl))
  f240 := Tryz.func159.trans (congrArg some (by kernel_rfl))
  f241 := Tryz.func160.trans (congrArg some (by kernel_rfl))
  f263 := Tryz.func157.trans (congrArg some (by kernel_rfl))
  f264 := Tryz.func158.trans (congrArg some (by kernel_rfl))
  f276 := Tryz.func162.trans (congrArg some (by kernel_rfl))
  f277 := Tryz.func163.trans (congrArg some (by kernel_rfl))
  t0 := Tryz.underlying0
  a0 := Tryz.isAgg0
  z0 := Tryz.sizeOf0
  v0 := Tryz.zeroValue0
  t3 := Tryz.underlying3
  a3 := Tryz.isAgg3
  z3 := Tryz.sizeOf3
  v3 := Tryz.zeroValue3
  t4 := Tryz.underlying4
  a4 := Tryz.isAgg4
  z4 := Tryz.sizeOf4
  v4 := Tryz.zeroValue4
  t5 := Tryz.underlying5
  a5 := Tryz.isAgg5
  z5 := Tryz.sizeOf5
  v5 := Tryz.zeroValue5
  t9 := Tryz.underlying9
  a9 := Tryz.isAgg9
  z9 := Tryz.sizeOf9
  v9 := Tryz.zeroValue9
  t20 := Tryz.underlying20
  a20 := Tryz.isAgg20
  z20 := Tryz.sizeOf20
  v20 := Tryz.zeroValue20
  t37 := Tryz.underlying88
  a37 := Tryz.isAgg88
  z37 := Tryz.sizeOf88
  v37 := Tryz.zeroValue88
  t46 := Tryz.underlying67
  a46 := Tryz.isAgg67
  z46 := Tryz.sizeOf67
  v46 := Tryz.zeroValue67
  t51 := Tryz.underlying23
  a51 := Tryz.isAgg23
  z51 := Tryz.sizeOf23
  v51 := Tryz.zeroValue23
  t53 := Tryz.underlying168
  a53 := Tryz.isAgg168
  z53 := Tryz.sizeOf168
  v53 := Tryz.zeroValue168
  t70 := Tryz.underlying209
  a70 := Tryz.isAgg209
  z70 := Tryz.sizeOf209
  v70 := Tryz.zeroValue209
  t72 := Tryz.underlying211
  a72 := Tryz.isAgg211
  z72 := Tryz.sizeOf211
  v72 := Tryz.zeroValue211
  t75 := Tryz.underlying214
  a75 := Tryz.isAgg214
  z75 := Tryz.sizeOf214
  v75 := Tryz.zeroValue214
  t76 := Tryz.underlying215
  a76 := Tryz.isAgg215
  z76 := Tryz.sizeOf215
  v76 := Tryz.zeroValue215
  t109 := Tryz.underlying207
  a109 := Tryz.isAgg207
  z109 := Tryz.sizeOf207
  v109 := Tryz.zeroValue207
  t127 := Tryz.underlying228
  a127 := Tryz.isAgg228
  z127 := Tryz.sizeOf228
  v127 := Tryz.zeroValue228
  t146 := Tryz.underlying224
  a146 := Tryz.isAgg224
  z146 := Tryz.sizeOf224
  v146 := Tryz.zeroValue224
  t148 := Tryz.underlying226
  a148 := Tryz.isAgg226
  z148 := Tryz.sizeOf226
  v148 := Tryz.zeroValue226
  t164 := Tryz.underlying232
  a164 := Tryz.isAgg232
  z164 := Tryz.sizeOf232
  v164 := Tryz.zeroValue232 }
theorem Tryz.Builder_Extra_105 : Builder.Extra Tryz.prog Tryz.lays105_ren := {
  sizeBuilder := by kernel_rfl
  liesBuilder := by kernel_rfl
  t5 := Tryz.underlying5
  a5 := Tryz.isAgg5
  z5 := Tryz.sizeOf5
  v5 := Tryz.zeroValue5
  infoByte := by kernel_rfl
  cellsByte := by kernel_rfl
  sizeByte := by kernel_rfl
  neB5 := by decide }
open Go.RowKit Go.Lib in
/-- **strings.Repeat: count ≥ 0, the result within one allocation: count copies of s.** (LAID: no walk: one application.) -/
theorem Tryz.strings_Repeat (s : ByteArray) (c : Nat) (w : World) (hc : c ≤ 9223372036854775807) (hlen : s.size * c ≤ 140737488355328) :
    Calls Tryz.prog 132 #[.string s, .int .i64 c] w fun e w' => e = .returned (.string ⟨(Lib.repeatL s.data.toList c).toArray⟩) ∧ Below w.heap.size w w' := Any.strings_Repeat Tryz.lays105 Tryz.Builder_Extra_105 s c w hc hlen
end Go.Proofs
