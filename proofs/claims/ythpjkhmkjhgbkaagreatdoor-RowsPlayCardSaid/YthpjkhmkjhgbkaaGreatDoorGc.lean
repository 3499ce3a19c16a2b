/- Joined: Shelf2, Ord, Blks, Data, Data2, Shelf. -/
import Derived.Test.YthpjkhmkjhgbkaaGreatDoorGb
import Derived.Shelf.SlGeneric
import Derived.Shelf.Strings.Trim
import Derived.Shelf.Small.Strs
import Derived.Shelf.Small.Wraps
import Derived.Shelf.Slices.Turned
import Derived.Shelf.SlLaysF0
import Derived.Ground.SlsfProg
import Derived.Test.YthpjkhmkjhgbkaaGreatDoorChecked
import Derived.Maps.RangeWalk
import Derived.Lib.Bytealg
import Derived.Deep.Slices
import Derived.Deep.Fields
import Derived.ProofKit
import Derived.Shelf.Strings.Prefix
import Derived.Shelf.Strings.Repeat

/-! === Shelf2 === -/
/-
  DERIVED: THE SHELF's CONTRACTS AT THIS DUMP, IN PLAIN WORDS (tools/lay-plain.mjs out of 'TryShelf.lean', which tools/lay-shelf.mjs wrote): THE SAME DECLARATIONS UNDER THE SAME NAMES: 'import', 'namespace', 'open', 'def', 'theorem' AND NOTHING ELSE: no command of the shelf's: FOR A HAND-IN. Each laying: the table of numbers ('.._ren') and one theorem, a field a fact of the dump's own or the kernel's comparison; each contract: ONE APPLICATION.
-/
namespace Go.Proofs
open Go.Shelf
def Tryz.lays160_ren : Go.Shelf.Ren := ⟨fun | 160 => 100 | 232 => 133 | 231 => 132 | 227 => 134 | 234 => 136 | 233 => 135 | 236 => 138 | 235 => 137 | 228 => 159 | 271 => 162 | 151 => 161 | 197 => 160 | 120 => 175 | 152 => 174 | 260 => 173 | 137 => 181 | 119 => 182 | 224 => 183 | 225 => 184 | 217 => 187 | 266 => 188 | n => n, fun | 9 => 9 | 4 => 4 | 3 => 3 | 5 => 5 | 117 => 200 | 116 => 199 | 0 => 0 | 124 => 203 | 21 => 21 | 105 => 225 | 46 => 24 | 119 => 92 | 139 => 252 | 138 => 251 | n => n, fun | 3 => 1 | 4 => 2 | n => n⟩
theorem Tryz.lays160 : Go.Proofs.Lays.n160 Tryz.prog Tryz.lays160_ren := {
  mixed := by kernel_rfl
  f119 := Tryz.func182.trans (congrArg some (by kernel_rfl))
  f120 := Tryz.func175.trans (congrArg some (by kernel_rfl))
  f137 := Tryz.func181.trans (congrArg some (by kernel_rfl))
  f151 := Tryz.func161.trans (congrArg some (by kernel_rfl))
  f152 := Tryz.func174.trans (congrArg some (by kernel_rfl))
  f160 := Tryz.func100.trans (congrArg some (by kernel_rfl))
  f197 := Tryz.func160.trans (congrArg some (by kernel_rfl))
  f217 := Tryz.func187.trans (congrArg some (by kernel_rfl))
  f224 := Tryz.func183.trans (congrArg some (by kernel_rfl))
  f225 := Tryz.func184.trans (congrArg some (by kernel_rfl))
  f227 := Tryz.func134.trans (congrArg some (by kernel_rfl))
  f228 := Tryz.func159.trans (congrArg some (by kernel_rfl))
  f231 := Tryz.func132.trans (congrArg some (by kernel_rfl))
  f232 := Tryz.func133.trans (congrArg some (by kernel_rfl))
  f233 := Tryz.func135.trans (congrArg some (by kernel_rfl))
  f234 := Tryz.func136.trans (congrArg some (by kernel_rfl))
  f235 := Tryz.func137.trans (congrArg some (by kernel_rfl))
  f236 := Tryz.func138.trans (congrArg some (by kernel_rfl))
  f260 := Tryz.func173.trans (congrArg some (by kernel_rfl))
  f266 := Tryz.func188.trans (congrArg some (by kernel_rfl))
  f271 := Tryz.func162.trans (congrArg some (by kernel_rfl))
  t0 := Tryz.underlying0
  a0 := Tryz.isAgg0
  z0 := Tryz.sizeOf0
  v0 := Tryz.zeroValue0
  t3 := Tryz.underlying3
  a3 := Tryz.isAgg3
  z3 := Tryz.sizeOf3
  v3 := Tryz.zeroValue3
  t4 := Tryz.underlying4
  a4 := Tryz.isAgg4
  z4 := Tryz.sizeOf4
  v4 := Tryz.zeroValue4
  t5 := Tryz.underlying5
  a5 := Tryz.isAgg5
  z5 := Tryz.sizeOf5
  v5 := Tryz.zeroValue5
  t9 := Tryz.underlying9
  a9 := Tryz.isAgg9
  z9 := Tryz.sizeOf9
  v9 := Tryz.zeroValue9
  t21 := Tryz.underlying21
  a21 := Tryz.isAgg21
  z21 := Tryz.sizeOf21
  v21 := Tryz.zeroValue21
  t46 := Tryz.underlying24
  a46 := Tryz.isAgg24
  z46 := Tryz.sizeOf24
  v46 := Tryz.zeroValue24
  t105 := Tryz.underlying225
  a105 := Tryz.isAgg225
  z105 := Tryz.sizeOf225
  v105 := Tryz.zeroValue225
  t116 := Tryz.underlying199
  a116 := Tryz.isAgg199
  z116 := Tryz.sizeOf199
  t117 := Tryz.underlying200
  a117 := Tryz.isAgg200
  z117 := Tryz.sizeOf200
  v117 := Tryz.zeroValue200
  t119 := Tryz.underlying92
  a119 := Tryz.isAgg92
  z119 := Tryz.sizeOf92
  t124 := Tryz.underlying203
  a124 := Tryz.isAgg203
  z124 := Tryz.sizeOf203
  v124 := Tryz.zeroValue203
  t138 := Tryz.underlying251
  a138 := Tryz.isAgg251
  z138 := Tryz.sizeOf251
  v138 := Tryz.zeroValue251
  t139 := Tryz.underlying252
  a139 := Tryz.isAgg252
  z139 := Tryz.sizeOf252
  v139 := Tryz.zeroValue252
  g3 := by kernel_rfl
  g4 := by kernel_rfl }
open Go.RowKit in
/-- strings.Trim: "Trim returns a slice of the string s with all leading and trailing Unicode code points contained in cutset removed.": AT A cutset OF ONE ASCII BYTE. THE WORLD BEHIND IT: as it was, or (where s is not empty) with ONE DRAW MORE off the tape: the statement 'return trimLeftByte(trimRightByte(s, c), c)' draws its order of evaluation. (LAID: no walk: one application.) -/
theorem Tryz.strings_Trim_one (s : ByteArray) (c : UInt8) (hc : c.toNat < 128) (w : World) (hs : s.size ≤ 9223372036854775807) :
    Calls Tryz.prog 100 #[.string s, .string ⟨#[c]⟩] w fun e w' => e = .returned (.string ⟨(Lib.trimB s.data.toList c).toArray⟩) ∧ (w' = w ∨ w' = w.drew) := Any.strings_Trim_one Tryz.lays160 s c hc w hs
def Tryz.lays106_ren : Go.Shelf.Ren := ⟨fun | 106 => 53 | 213 => 90 | 265 => 123 | n => n, fun | 9 => 9 | 3 => 3 | n => n, fun | n => n⟩
theorem Tryz.lays106 : Go.Proofs.Lays.n106 Tryz.prog Tryz.lays106_ren := {
  mixed := by kernel_rfl
  f106 := Tryz.func53.trans (congrArg some (by kernel_rfl))
  f213 := Tryz.func90.trans (congrArg some (by kernel_rfl))
  f265 := Tryz.func123.trans (congrArg some (by kernel_rfl))
  t3 := Tryz.underlying3
  a3 := Tryz.isAgg3
  z3 := Tryz.sizeOf3
  v3 := Tryz.zeroValue3
  t9 := Tryz.underlying9
  a9 := Tryz.isAgg9
  z9 := Tryz.sizeOf9
  v9 := Tryz.zeroValue9 }
open Go.RowKit in
/-- strings.Compare: "Compare returns an integer comparing two strings lexicographically. The result will be 0 if a == b, -1 if a < b, and +1 if a > b.": IT RETURNS 'Lib.compareBytes a b'; the world is as it was. (LAID: no walk: one application.) -/
theorem Tryz.strings_Compare (a b : ByteArray) (w : World) :
    Calls Tryz.prog 53 #[.string a, .string b] w fun e w' => e = .returned (.int .i64 (Lib.compareBytes a.data.toList b.data.toList)) ∧ w' = w := Any.strings_Compare Tryz.lays106 a b w
def Tryz.lays122_ren : Go.Shelf.Ren := ⟨fun | 122 => 81 | 215 => 107 | n => n, fun | 3 => 3 | 4 => 4 | n => n, fun | n => n⟩
theorem Tryz.lays122 : Go.Proofs.Lays.n122 Tryz.prog Tryz.lays122_ren := {
  mixed := by kernel_rfl
  f122 := Tryz.func81.trans (congrArg some (by kernel_rfl))
  f215 := Tryz.func107.trans (congrArg some (by kernel_rfl))
  t3 := Tryz.underlying3
  a3 := Tryz.isAgg3
  z3 := Tryz.sizeOf3
  v3 := Tryz.zeroValue3
  t4 := Tryz.underlying4
  a4 := Tryz.isAgg4
  z4 := Tryz.sizeOf4
  v4 := Tryz.zeroValue4 }
open Go.RowKit in
/-- cmp.Compare at int: "Compare returns -1 if x is less than y, 0 if x equals y, +1 if x is greater than y.": IT RETURNS 'Lib.compareInt x y'; the world is as it was. (LAID: no walk: one application.) -/
theorem Tryz.cmp_Compare_int (x y : Int) (w : World) :
    Calls Tryz.prog 81 #[.int .i64 x, .int .i64 y] w fun e w' => e = .returned (.int .i64 (Lib.compareInt x y)) ∧ w' = w := Any.cmp_Compare_int Tryz.lays122 x y w
def Tryz.lays108_ren : Go.Shelf.Ren := ⟨fun | 108 => 105 | n => n, fun | 28 => 68 | 3 => 3 | 0 => 0 | 4 => 4 | n => n, fun | n => n⟩
theorem Tryz.lays108 : Go.Proofs.Lays.n108 Tryz.prog Tryz.lays108_ren := {
  mixed := by kernel_rfl
  f108 := Tryz.func105.trans (congrArg some (by kernel_rfl))
  t0 := Tryz.underlying0
  a0 := Tryz.isAgg0
  z0 := Tryz.sizeOf0
  v0 := Tryz.zeroValue0
  t3 := Tryz.underlying3
  a3 := Tryz.isAgg3
  z3 := Tryz.sizeOf3
  v3 := Tryz.zeroValue3
  t4 := Tryz.underlying4
  a4 := Tryz.isAgg4
  z4 := Tryz.sizeOf4
  v4 := Tryz.zeroValue4
  t28 := Tryz.underlying68
  a28 := Tryz.isAgg68
  z28 := Tryz.sizeOf68
  v28 := Tryz.zeroValue68 }
open Go.Lib in
/-- slices.Index at []int: "Index returns the index of the first occurrence of v in s, or -1 if not present.": IT RETURNS 'Lib.idxOf (the elements) v'; the world is as it was. 'zs': what the cells behind the slice's address hold (its spare capacity too, if you have it); 'zs.take n': its elements. (LAID: no walk: one application.) -/
theorem Tryz.slices_Index_int (b off n c : Nat) (zs : List Int) (x : Int) (w : World) (hz : n ≤ zs.length) (hbig : n ≤ 9223372036854775807) (hc : ∀ j, j < zs.length → w.cell? ⟨b, off + j, none⟩ = some (.int .i64 (zs.getD j 0))) :
    Calls Tryz.prog 105 #[.slice (some ⟨b, off, none⟩) n c, .int .i64 x] w fun e w' => e = .returned (.int .i64 (Lib.idxOf (zs.take n) x)) ∧ w' = w := Any.slices_Index_int Tryz.lays108 b off n c zs x w hz hbig hc
open Go.Lib in
/-- The same at a slice of length 0, a nil one too: no cell is known, none is asked for. (LAID: no walk: one application.) -/
theorem Tryz.slices_Index_int_empty (a : Option Addr) (c : Nat) (x : Int) (w : World) :
    Calls Tryz.prog 105 #[.slice a 0 c, .int .i64 x] w fun e w' => e = .returned (.int .i64 (Lib.idxOf [] x)) ∧ w' = w := Any.slices_Index_int_empty Tryz.lays108 a c x w
def Tryz.lays107_ren : Go.Shelf.Ren := ⟨fun | 107 => 78 | 108 => 105 | n => n, fun | 28 => 68 | 3 => 3 | 4 => 4 | 0 => 0 | n => n, fun | n => n⟩
theorem Tryz.lays107 : Go.Proofs.Lays.n107 Tryz.prog Tryz.lays107_ren := {
  mixed := by kernel_rfl
  f107 := Tryz.func78.trans (congrArg some (by kernel_rfl))
  f108 := Tryz.func105.trans (congrArg some (by kernel_rfl))
  t0 := Tryz.underlying0
  a0 := Tryz.isAgg0
  z0 := Tryz.sizeOf0
  v0 := Tryz.zeroValue0
  t3 := Tryz.underlying3
  a3 := Tryz.isAgg3
  z3 := Tryz.sizeOf3
  v3 := Tryz.zeroValue3
  t4 := Tryz.underlying4
  a4 := Tryz.isAgg4
  z4 := Tryz.sizeOf4
  v4 := Tryz.zeroValue4
  t28 := Tryz.underlying68
  a28 := Tryz.isAgg68
  z28 := Tryz.sizeOf68
  v28 := Tryz.zeroValue68 }
open Go.Lib in
/-- slices.Contains at []int: "Contains reports whether v is present in s.": IT RETURNS 'elements.contains v'; the world is as it was. ITS CALLEE slices.Index IS MET BY ITS OWN CONTRACT OFF THE SHELF (lay that first): no loop is walked here. (LAID: no walk: one application.) -/
theorem Tryz.slices_Contains_int (b off n c : Nat) (zs : List Int) (x : Int) (w : World) (hz : n ≤ zs.length) (hbig : n ≤ 9223372036854775807) (hc : ∀ j, j < zs.length → w.cell? ⟨b, off + j, none⟩ = some (.int .i64 (zs.getD j 0))) :
    Calls Tryz.prog 78 #[.slice (some ⟨b, off, none⟩) n c, .int .i64 x] w fun e w' => e = .returned (.bool ((zs.take n).contains x)) ∧ w' = w := Any.slices_Contains_int Tryz.lays107 b off n c zs x w hz hbig hc
open Go.Lib in
/-- The same at a slice of length 0, a nil one too. (LAID: no walk: one application.) -/
theorem Tryz.slices_Contains_int_empty (a : Option Addr) (c : Nat) (x : Int) (w : World) :
    Calls Tryz.prog 78 #[.slice a 0 c, .int .i64 x] w fun e w' => e = .returned (.bool false) ∧ w' = w := Any.slices_Contains_int_empty Tryz.lays107 a c x w
def Tryz.sortCh_ren : Go.Shelf.Ren := ⟨fun | 6 => 51 | 15 => 89 | 14 => 88 | 28 => 121 | 29 => 122 | 20 => 113 | 21 => 114 | 22 => 115 | 23 => 116 | 24 => 117 | 25 => 118 | 26 => 119 | 27 => 120 | 46 => 154 | 47 => 155 | 48 => 156 | 49 => 157 | 50 => 158 | 57 => 172 | n => n, fun | 22 => 37 | 24 => 59 | 25 => 111 | 3 => 3 | 39 => 24 | 0 => 0 | 53 => 112 | 55 => 36 | 4 => 4 | 46 => 182 | 45 => 181 | 50 => 116 | 5 => 5 | 9 => 9 | 66 => 218 | 70 => 222 | 76 => 240 | 77 => 241 | n => n, fun | n => n⟩
theorem Tryz.sortCh : Go.Proofs.SlLaysF0.n6 Tryz.prog Tryz.sortCh_ren := {
  mixed := by kernel_rfl
  f6 := ⟨Tryz.f51.name, by decide, Tryz.func51.trans (congrArg some (by kernel_rfl))⟩
  f14 := ⟨Tryz.f88.name, by decide, Tryz.func88.trans (congrArg some (by kernel_rfl))⟩
  f15 := Tryz.func89.trans (congrArg some (by kernel_rfl))
  f20 := ⟨Tryz.f113.name, by decide, Tryz.func113.trans (congrArg some (by kernel_rfl))⟩
  f21 := ⟨Tryz.f114.name, by decide, Tryz.func114.trans (congrArg some (by kernel_rfl))⟩
  f22 := ⟨Tryz.f115.name, by decide, Tryz.func115.trans (congrArg some (by kernel_rfl))⟩
  f23 := ⟨Tryz.f116.name, by decide, Tryz.func116.trans (congrArg some (by kernel_rfl))⟩
  f24 := ⟨Tryz.f117.name, by decide, Tryz.func117.trans (congrArg some (by kernel_rfl))⟩
  f25 := ⟨Tryz.f118.name, by decide, Tryz.func118.trans (congrArg some (by kernel_rfl))⟩
  f26 := ⟨Tryz.f119.name, by decide, Tryz.func119.trans (congrArg some (by kernel_rfl))⟩
  f27 := ⟨Tryz.f120.name, by decide, Tryz.func120.trans (congrArg some (by kernel_rfl))⟩
  f28 := Tryz.func121.trans (congrArg some (by kernel_rfl))
  f29 := Tryz.func122.trans (congrArg some (by kernel_rfl))
  f46 := ⟨Tryz.f154.name, by decide, Tryz.func154.trans (congrArg some (by kernel_rfl))⟩
  f47 := Tryz.func155.trans (congrArg some (by kernel_rfl))
  f48 := Tryz.func156.trans (congrArg some (by kernel_rfl))
  f49 := ⟨Tryz.f157.name, by decide, Tryz.func157.trans (congrArg some (by kernel_rfl))⟩
  f50 := ⟨Tryz.f158.name, by decide, Tryz.func158.trans (congrArg some (by kernel_rfl))⟩
  f57 := ⟨Tryz.f172.name, by decide, Tryz.func172.trans (congrArg some (by kernel_rfl))⟩
  t0 := Tryz.underlying0
  a0 := Tryz.isAgg0
  z0 := Tryz.sizeOf0
  v0 := Tryz.zeroValue0
  t3 := Tryz.underlying3
  a3 := Tryz.isAgg3
  z3 := Tryz.sizeOf3
  v3 := Tryz.zeroValue3
  t4 := Tryz.underlying4
  a4 := Tryz.isAgg4
  z4 := Tryz.sizeOf4
  v4 := Tryz.zeroValue4
  t5 := Tryz.underlying5
  a5 := Tryz.isAgg5
  z5 := Tryz.sizeOf5
  v5 := Tryz.zeroValue5
  t9 := Tryz.underlying9
  a9 := Tryz.isAgg9
  z9 := Tryz.sizeOf9
  v9 := Tryz.zeroValue9
  t22 := Tryz.underlying37
  a22 := Tryz.isAgg37
  z22 := Tryz.sizeOf37
  v22 := Tryz.zeroValue37
  t25 := Tryz.underlying111
  a25 := Tryz.isAgg111
  z25 := Tryz.sizeOf111
  v25 := Tryz.zeroValue111
  t39 := Tryz.underlying24
  a39 := Tryz.isAgg24
  z39 := Tryz.sizeOf24
  v39 := Tryz.zeroValue24
  t45 := Tryz.underlying181
  a45 := Tryz.isAgg181
  z45 := Tryz.sizeOf181
  v45 := Tryz.zeroValue181
  t46 := Tryz.underlying182
  a46 := Tryz.isAgg182
  z46 := Tryz.sizeOf182
  v46 := Tryz.zeroValue182
  t50 := Tryz.underlying116
  a50 := Tryz.isAgg116
  z50 := Tryz.sizeOf116
  v50 := Tryz.zeroValue116
  t53 := Tryz.underlying112
  a53 := Tryz.isAgg112
  z53 := Tryz.sizeOf112
  v53 := Tryz.zeroValue112
  t55 := Tryz.underlying36
  a55 := Tryz.isAgg36
  z55 := Tryz.sizeOf36
  v55 := Tryz.zeroValue36
  t66 := Tryz.underlying218
  a66 := Tryz.isAgg218
  z66 := Tryz.sizeOf218
  v66 := Tryz.zeroValue218
  t70 := Tryz.underlying222
  a70 := Tryz.isAgg222
  z70 := Tryz.sizeOf222
  v70 := Tryz.zeroValue222
  t76 := Tryz.underlying240
  a76 := Tryz.isAgg240
  z76 := Tryz.sizeOf240
  v76 := Tryz.zeroValue240
  t77 := Tryz.underlying241
  a77 := Tryz.isAgg241
  z77 := Tryz.sizeOf241
  v77 := Tryz.zeroValue241 }
def Tryz.sortStep_ren : Go.Shelf.Ren := ⟨fun | 6 => 79 | 15 => 89 | 14 => 106 | 28 => 121 | 29 => 122 | 20 => 142 | 21 => 143 | 22 => 144 | 23 => 145 | 24 => 146 | 25 => 147 | 26 => 148 | 27 => 149 | 46 => 163 | 47 => 155 | 48 => 156 | 49 => 164 | 50 => 165 | 57 => 176 | n => n, fun | 22 => 99 | 24 => 148 | 25 => 152 | 3 => 3 | 39 => 24 | 0 => 0 | 53 => 112 | 55 => 36 | 4 => 4 | 46 => 182 | 45 => 181 | 50 => 116 | 5 => 5 | 9 => 9 | 66 => 218 | 70 => 222 | 76 => 240 | 77 => 241 | n => n, fun | n => n⟩
theorem Tryz.sortStep : Go.Proofs.SlLaysF0.n6 Tryz.prog Tryz.sortStep_ren := {
  mixed := by kernel_rfl
  f6 := ⟨Tryz.f79.name, by decide, Tryz.func79.trans (congrArg some (by kernel_rfl))⟩
  f14 := ⟨Tryz.f106.name, by decide, Tryz.func106.trans (congrArg some (by kernel_rfl))⟩
  f15 := Tryz.func89.trans (congrArg some (by kernel_rfl))
  f20 := ⟨Tryz.f142.name, by decide, Tryz.func142.trans (congrArg some (by kernel_rfl))⟩
  f21 := ⟨Tryz.f143.name, by decide, Tryz.func143.trans (congrArg some (by kernel_rfl))⟩
  f22 := ⟨Tryz.f144.name, by decide, Tryz.func144.trans (congrArg some (by kernel_rfl))⟩
  f23 := ⟨Tryz.f145.name, by decide, Tryz.func145.trans (congrArg some (by kernel_rfl))⟩
  f24 := ⟨Tryz.f146.name, by decide, Tryz.func146.trans (congrArg some (by kernel_rfl))⟩
  f25 := ⟨Tryz.f147.name, by decide, Tryz.func147.trans (congrArg some (by kernel_rfl))⟩
  f26 := ⟨Tryz.f148.name, by decide, Tryz.func148.trans (congrArg some (by kernel_rfl))⟩
  f27 := ⟨Tryz.f149.name, by decide, Tryz.func149.trans (congrArg some (by kernel_rfl))⟩
  f28 := Tryz.func121.trans (congrArg some (by kernel_rfl))
  f29 := Tryz.func122.trans (congrArg some (by kernel_rfl))
  f46 := ⟨Tryz.f163.name, by decide, Tryz.func163.trans (congrArg some (by kernel_rfl))⟩
  f47 := Tryz.func155.trans (congrArg some (by kernel_rfl))
  f48 := Tryz.func156.trans (congrArg some (by kernel_rfl))
  f49 := ⟨Tryz.f164.name, by decide, Tryz.func164.trans (congrArg some (by kernel_rfl))⟩
  f50 := ⟨Tryz.f165.name, by decide, Tryz.func165.trans (congrArg some (by kernel_rfl))⟩
  f57 := ⟨Tryz.f176.name, by decide, Tryz.func176.trans (congrArg some (by kernel_rfl))⟩
  t0 := Tryz.underlying0
  a0 := Tryz.isAgg0
  z0 := Tryz.sizeOf0
  v0 := Tryz.zeroValue0
  t3 := Tryz.underlying3
  a3 := Tryz.isAgg3
  z3 := Tryz.sizeOf3
  v3 := Tryz.zeroValue3
  t4 := Tryz.underlying4
  a4 := Tryz.isAgg4
  z4 := Tryz.sizeOf4
  v4 := Tryz.zeroValue4
  t5 := Tryz.underlying5
  a5 := Tryz.isAgg5
  z5 := Tryz.sizeOf5
  v5 := Tryz.zeroValue5
  t9 := Tryz.underlying9
  a9 := Tryz.isAgg9
  z9 := Tryz.sizeOf9
  v9 := Tryz.zeroValue9
  t22 := Tryz.underlying99
  a22 := Tryz.isAgg99
  z22 := Tryz.sizeOf99
  v22 := Tryz.zeroValue99
  t25 := Tryz.underlying152
  a25 := Tryz.isAgg152
  z25 := Tryz.sizeOf152
  v25 := Tryz.zeroValue152
  t39 := Tryz.underlying24
  a39 := Tryz.isAgg24
  z39 := Tryz.sizeOf24
  v39 := Tryz.zeroValue24
  t45 := Tryz.underlying181
  a45 := Tryz.isAgg181
  z45 := Tryz.sizeOf181
  v45 := Tryz.zeroValue181
  t46 := Tryz.underlying182
  a46 := Tryz.isAgg182
  z46 := Tryz.sizeOf182
  v46 := Tryz.zeroValue182
  t50 := Tryz.underlying116
  a50 := Tryz.isAgg116
  z50 := Tryz.sizeOf116
  v50 := Tryz.zeroValue116
  t53 := Tryz.underlying112
  a53 := Tryz.isAgg112
  z53 := Tryz.sizeOf112
  v53 := Tryz.zeroValue112
  t55 := Tryz.underlying36
  a55 := Tryz.isAgg36
  z55 := Tryz.sizeOf36
  v55 := Tryz.zeroValue36
  t66 := Tryz.underlying218
  a66 := Tryz.isAgg218
  z66 := Tryz.sizeOf218
  v66 := Tryz.zeroValue218
  t70 := Tryz.underlying222
  a70 := Tryz.isAgg222
  z70 := Tryz.sizeOf222
  v70 := Tryz.zeroValue222
  t76 := Tryz.underlying240
  a76 := Tryz.isAgg240
  z76 := Tryz.sizeOf240
  v76 := Tryz.zeroValue240
  t77 := Tryz.underlying241
  a77 := Tryz.isAgg241
  z77 := Tryz.sizeOf241
  v77 := Tryz.zeroValue241 }
end Go.Proofs

/-! === Ord === -/
/- Rows and changes as plain data: the order of keys, what is put, what goes, what is found. Of no program. -/
namespace Go.Proofs.YthpjkhmkjhgbkaaGreatDoor
open Go.RowKit

/-- A change; a row with its block. -/
structure Ch where
  key : List UInt8
  val : List UInt8
  gone : Bool
structure Rw where
  key : List UInt8
  val : List UInt8
  at_ : Nat
instance : Inhabited Ch := ⟨⟨[], [], false⟩⟩
instance : Inhabited Rw := ⟨⟨[], [], 0⟩⟩

/-! The order of bytes. -/
theorem u8_lt_iff (a b : UInt8) : (a < b) ↔ a.toNat < b.toNat := UInt8.lt_iff_toNat_lt
theorem bb_irrefl : ∀ a : List UInt8, bytesBefore a a = false
  | [] => rfl
  | x :: r => by
    have h : ¬ x < x := UInt8.lt_irrefl x
    simp [bytesBefore, h, bb_irrefl r]
theorem bb_trans : ∀ a b c : List UInt8, bytesBefore a b = true → bytesBefore b c = true → bytesBefore a c = true
  | [], [], _, h, _ => by simp [bytesBefore] at h
  | [], _ :: _, [], _, h => by simp [bytesBefore] at h
  | [], _ :: _, _ :: _, _, _ => rfl
  | _ :: _, [], _, h, _ => by simp [bytesBefore] at h
  | _ :: _, _ :: _, [], _, h => by simp [bytesBefore] at h
  | x :: a, y :: b, z :: c, h1, h2 => by
    simp only [bytesBefore, Bool.or_eq_true, decide_eq_true_eq, Bool.and_eq_true, beq_iff_eq, u8_lt_iff] at *
    rcases h1 with h1 | ⟨rfl, h1⟩
    · rcases h2 with h2 | ⟨rfl, h2⟩
      · left; omega
      · left; exact h1
    · rcases h2 with h2 | ⟨rfl, h2⟩
      · left; exact h2
      · right; exact ⟨rfl, bb_trans a b c h1 h2⟩
theorem bb_total : ∀ a b : List UInt8, a ≠ b → bytesBefore a b = true ∨ bytesBefore b a = true
  | [], [], h => absurd rfl h
  | [], _ :: _, _ => .inl rfl
  | _ :: _, [], _ => .inr rfl
  | x :: a, y :: b, h => by
    simp only [bytesBefore, Bool.or_eq_true, decide_eq_true_eq, Bool.and_eq_true, beq_iff_eq, u8_lt_iff]
    by_cases hxy : x = y
    · subst hxy
      rcases bb_total a b (fun e => h (by rw [e])) with h1 | h1
      · exact .inl (.inr ⟨rfl, h1⟩)
      · exact .inr (.inr ⟨rfl, h1⟩)
    · have : x.toNat ≠ y.toNat := fun e => hxy (UInt8.toNat_inj.1 e)
      omega
theorem bb_asymm (a b : List UInt8) (h : bytesBefore a b = true) : bytesBefore b a = false := by
  cases h2 : bytesBefore b a
  · rfl
  · have := bb_trans a b a h h2
    rw [bb_irrefl] at this
    cases this
theorem bb_ne {a b : List UInt8} (h : bytesBefore a b = true) : a ≠ b := fun e => by
  rw [e, bb_irrefl] at h
  cases h
theorem cmp_lt : ∀ a b : List UInt8, decide (Lib.compareBytes a b < 0) = bytesBefore a b
  | [], [] => by simp [Lib.compareBytes, bytesBefore]
  | [], _ :: _ => by simp [Lib.compareBytes, bytesBefore]
  | _ :: _, [] => by simp [Lib.compareBytes, bytesBefore]
  | x :: a, y :: b => by
    have ih := cmp_lt a b
    simp only [Lib.compareBytes, bytesBefore]
    by_cases h1 : x < y
    · simp [h1]
    · by_cases h2 : y < x
      · have h3 : ¬ x = y := fun e => by subst e; exact UInt8.lt_irrefl x h2
        simp [h1, h2, h3]
      · have h3 : x = y := by
          rw [u8_lt_iff] at h1 h2
          exact UInt8.toNat_inj.1 (by omega)
        simp [h3, ih]

/-! Rows, rising. -/
def Sorted (M : List Rw) : Prop := M.Pairwise fun a b => bytesBefore a.key b.key = true
theorem Sorted.nil : Sorted [] := List.Pairwise.nil
theorem Sorted.keys {M : List Rw} (h : Sorted M) : M.Pairwise fun a b => a.key ≠ b.key := h.imp fun h => bb_ne h
theorem Sorted.inj {M : List Rw} (h : Sorted M) {x y : Rw} (hx : x ∈ M) (hy : y ∈ M) (e : x.key = y.key) : x = y := by
  induction M with
  | nil => cases hx
  | cons a r ih =>
    obtain ⟨h1, h2⟩ := List.pairwise_cons.1 h
    rcases List.mem_cons.1 hx with hx' | hx'
    · rcases List.mem_cons.1 hy with hy' | hy'
      · rw [hx', hy']
      · exact absurd e (by rw [hx']; exact bb_ne (h1 y hy'))
    · rcases List.mem_cons.1 hy with hy' | hy'
      · exact absurd e.symm (by rw [hy']; exact bb_ne (h1 x hx'))
      · exact ih h2 hx' hy'
theorem Sorted.nodup {M : List Rw} (h : Sorted M) : M.Nodup := h.keys.imp fun h e => h (by rw [e])
theorem Sorted.filter {M : List Rw} (h : Sorted M) (p : Rw → Bool) : Sorted (M.filter p) := List.Pairwise.filter p h
theorem sorted_perm_eq {M M' : List Rw} (h : Sorted M) (h' : Sorted M') (hp : M.Perm M') : M = M' := by
  unfold Sorted at h h'
  exact List.Perm.eq_of_pairwise (le := fun a b : Rw => bytesBefore a.key b.key = true) (fun a b _ _ h1 h2 => by rw [bb_asymm _ _ h1] at h2; cases h2) h h' hp
theorem sorted_ext {M M' : List Rw} (h : Sorted M) (h' : Sorted M') (hm : ∀ x, x ∈ M ↔ x ∈ M') : M = M' :=
  sorted_perm_eq h h' ((List.perm_ext_iff_of_nodup h.nodup h'.nodup).2 hm)

def insR (x : Rw) : List Rw → List Rw
  | [] => [x]
  | y :: r => if bytesBefore x.key y.key then x :: y :: r else y :: insR x r
def delR (M : List Rw) (k : List UInt8) : List Rw := M.filter fun r => !(r.key == k)
def putR (M : List Rw) (x : Rw) : List Rw := insR x (delR M x.key)
def findR (M : List Rw) (k : List UInt8) : Option Rw := M.find? fun r => r.key == k

theorem mem_insR {x y : Rw} : ∀ {M : List Rw}, y ∈ insR x M ↔ y = x ∨ y ∈ M
  | [] => by simp [insR]
  | a :: r => by
    unfold insR
    split
    · simp
    · rw [List.mem_cons, mem_insR (M := r), List.mem_cons]
      constructor
      · rintro (h | h | h) <;> simp [h]
      · rintro (h | h | h) <;> simp [h]
theorem mem_delR {y : Rw} {M : List Rw} {k : List UInt8} : y ∈ delR M k ↔ y ∈ M ∧ y.key ≠ k := by simp [delR]
theorem mem_putR {x y : Rw} {M : List Rw} : y ∈ putR M x ↔ y = x ∨ (y ∈ M ∧ y.key ≠ x.key) := by rw [putR, mem_insR, mem_delR]
theorem sorted_insR {x : Rw} : ∀ {M : List Rw}, Sorted M → (∀ y ∈ M, y.key ≠ x.key) → Sorted (insR x M)
  | [], _, _ => by simp [insR, Sorted]
  | a :: r, h, hn => by
    obtain ⟨h1, h2⟩ := List.pairwise_cons.1 h
    unfold insR
    split
    · rename_i hx
      refine List.pairwise_cons.2 ⟨fun y hy => ?_, h⟩
      rcases List.mem_cons.1 hy with rfl | hy
      · exact hx
      · exact bb_trans _ _ _ hx (h1 y hy)
    · rename_i hx
      refine List.pairwise_cons.2 ⟨fun y hy => ?_, sorted_insR h2 (fun y hy => hn y (by simp [hy]))⟩
      rcases mem_insR.1 hy with rfl | hy
      · rcases bb_total _ _ (hn a (by simp)) with h3 | h3
        · exact h3
        · exact absurd h3 hx
      · exact h1 y hy
theorem sorted_delR {M : List Rw} (h : Sorted M) (k : List UInt8) : Sorted (delR M k) := h.filter _
theorem sorted_putR {M : List Rw} (h : Sorted M) (x : Rw) : Sorted (putR M x) := sorted_insR (sorted_delR h _) fun _ hy => (mem_delR.1 hy).2
theorem findR_mem {M : List Rw} {k : List UInt8} {r : Rw} (h : findR M k = some r) : r ∈ M ∧ r.key = k := by
  unfold findR at h
  exact ⟨List.mem_of_find?_eq_some h, by simpa using List.find?_some h⟩
theorem findR_none {M : List Rw} {k : List UInt8} : findR M k = none ↔ ∀ r ∈ M, r.key ≠ k := by
  unfold findR
  rw [List.find?_eq_none]
  simp
theorem findR_of {M : List Rw} (hs : Sorted M) {r : Rw} (h : r ∈ M) : findR M r.key = some r := by
  cases hf : findR M r.key with
  | none => exact absurd rfl (findR_none.1 hf r h)
  | some x =>
    obtain ⟨h1, h2⟩ := findR_mem hf
    rw [hs.inj h1 h h2]
theorem findR_iff {M : List Rw} (hs : Sorted M) {k : List UInt8} {r : Rw} : findR M k = some r ↔ r ∈ M ∧ r.key = k :=
  ⟨findR_mem, fun ⟨h1, h2⟩ => by rw [← h2]; exact findR_of hs h1⟩
theorem insR_length (x : Rw) : ∀ M : List Rw, (insR x M).length = M.length + 1
  | [] => rfl
  | a :: r => by
    unfold insR
    split
    · rfl
    · rw [List.length_cons, insR_length x r, List.length_cons]
theorem delR_none {M : List Rw} {k : List UInt8} (h : ∀ r ∈ M, r.key ≠ k) : delR M k = M := by
  unfold delR
  rw [List.filter_eq_self]
  intro r hr
  simp [h r hr]
theorem delR_length {M : List Rw} (hs : Sorted M) {k : List UInt8} {r : Rw} (h : findR M k = some r) : (delR M k).length + 1 = M.length := by
  induction M with
  | nil => simp [findR] at h
  | cons a l ih =>
    obtain ⟨h1, h2⟩ := List.pairwise_cons.1 hs
    by_cases ha : a.key = k
    · have hn : ∀ r ∈ l, r.key ≠ k := fun r hr e => bb_ne (h1 r hr) (by rw [ha, e])
      have : delR (a :: l) k = l := by
        have e := delR_none hn
        unfold delR at e ⊢
        rw [List.filter_cons_of_neg (by simp [ha]), e]
      rw [this, List.length_cons]
    · have hf : findR l k = some r := by
        unfold findR at h ⊢
        rwa [List.find?_cons_of_neg (by simp [ha])] at h
      have e : delR (a :: l) k = a :: delR l k := by
        unfold delR
        rw [List.filter_cons_of_pos (by simp [ha])]
      rw [e, List.length_cons, ih h2 hf, List.length_cons]
theorem putR_new {M : List Rw} {x : Rw} (h : findR M x.key = none) : (putR M x).length = M.length + 1 := by
  rw [putR, insR_length, delR_none (findR_none.1 h)]
theorem putR_old {M : List Rw} (hs : Sorted M) {x r : Rw} (h : findR M x.key = some r) : (putR M x).length = M.length := by
  rw [putR, insR_length, delR_length hs h]

/-! A map that reads as rows. -/
def ent (r : Rw) : Lit × DataW Unit := (.string r.key, .agg [.lit (.int .i64 (r.at_ : Int)), .lit (.string r.val)])
def mapD (M : List Rw) : DataW Unit := .map (M.map ent)
theorem filter_ent (M : List Rw) (k : List UInt8) : (M.map ent).filter (fun p => !p.1.sameKey (.string k)) = (delR M k).map ent := by
  unfold delR
  rw [List.filter_map]
  rfl
theorem insert_ent (x : Rw) : ∀ M : List Rw, DataW.insert (ent x) (M.map ent) = (insR x M).map ent
  | [] => rfl
  | a :: r => by
    rw [List.map_cons, DataW.insert, insR]
    show (if bytesBefore x.key a.key then _ else _) = _
    split
    · rfl
    · rw [List.map_cons, insert_ent x r]
theorem mapD_put (M : List Rw) (x : Rw) : (mapD M).put (.string x.key) (.agg [.lit (.int .i64 (x.at_ : Int)), .lit (.string x.val)]) = mapD (putR M x) := by
  show DataW.map (DataW.insert (ent x) ((M.map ent).filter (fun p => !p.1.sameKey (.string x.key)))) = _
  rw [filter_ent, insert_ent]
  rfl
theorem mapD_del (M : List Rw) (k : List UInt8) : (mapD M).del (.string k) = mapD (delR M k) := by
  show DataW.map ((M.map ent).filter (fun p => !p.1.sameKey (.string k))) = _
  rw [filter_ent]
  rfl
theorem mapD_find (M : List Rw) (k : List UInt8) : (M.map ent).find? (fun p => p.1.sameKey (.string k)) = (findR M k).map ent := by
  unfold findR
  rw [List.find?_map]
  rfl
theorem mapD_atKey (M : List Rw) (k : List UInt8) (z : DataW Unit) : (mapD M).atKey (.string k) z = match findR M k with | some r => (ent r).2 | none => z := by
  unfold mapD DataW.atKey
  simp only [mapD_find]
  cases findR M k <;> rfl
theorem mapD_has (M : List Rw) (k : List UInt8) : Maps.has (mapD M) (.string k) = (findR M k).isSome := by
  show (M.map ent).any (fun p => p.1.sameKey (.string k)) = _
  rw [Bool.eq_iff_iff, List.any_eq_true]
  constructor
  · rintro ⟨p, hp, hk⟩
    obtain ⟨r, hr, rfl⟩ := List.mem_map.1 hp
    cases hf : findR M k with
    | some _ => rfl
    | none => exact absurd (show r.key = k by simpa [ent, Lit.sameKey] using hk) (findR_none.1 hf r hr)
  · intro h
    obtain ⟨r, hf⟩ := Option.isSome_iff_exists.1 h
    obtain ⟨h1, h2⟩ := findR_mem hf
    exact ⟨ent r, List.mem_map.2 ⟨r, h1, rfl⟩, by simp [ent, Lit.sameKey, h2]⟩
theorem mapD_size (M : List Rw) : Maps.size (mapD M) = M.length := by
  show (M.map ent).length = _
  simp

/-- How a row's element reads. -/
def rowElem (v : Value) : Option (DataW Unit × List MemPlace) :=
  match v with
  | .agg cs => match cs.toList with
    | [.int .i64 a, .string s] => some (.agg [.lit (.int .i64 a), .lit (.string s.data.toList)], [])
    | _ => none
  | _ => none
theorem rowElem_mk (a : Int) (s : ByteArray) : rowElem (.agg #[.int .i64 a, .string s]) = some (.agg [.lit (.int .i64 a), .lit (.string s.data.toList)], []) := rfl
theorem rowElem_inv {v : Value} {z : DataW Unit × List MemPlace} (h : rowElem v = some z) : ∃ a s, v = .agg #[.int .i64 a, .string s] ∧ z = (.agg [.lit (.int .i64 a), .lit (.string s.data.toList)], []) := by
  unfold rowElem at h
  split at h
  · rename_i cs
    split at h
    · rename_i a s hcs
      injection h with h
      refine ⟨a, s, ?_, h.symm⟩
      have : cs = #[.int .i64 a, .string s] := by rw [← Array.toArray_toList (xs := cs), hcs]
      rw [this]
    · cases h
  · cases h
end Go.Proofs.YthpjkhmkjhgbkaaGreatDoor

/-! === Blks === -/
/- Lists of blocks that are to be changed: opened to what lies in memory; whether they may be. -/
namespace Go.Proofs.YthpjkhmkjhgbkaaGreatDoor
open Go.RowKit Go.WideShapes Go.ChangeShapes Go.Deep

section
variable {H : Type} {enc : TypeId × Value → H} {P : Program} {w : World} {base : Nat} {spare : Nat → Bool} {held : Bool}

theorem addr_plain {a : Addr} {v : Value} (h : w.cell? a = some v) : a = ⟨a.block, a.off, none⟩ := by
  obtain ⟨b, o, s⟩ := a
  cases s with
  | none => rfl
  | some x =>
    unfold World.cell? at h
    split at h
    · simp at h
    · cases h

/-- A slice of structs of one-cell fields: nil, or each element's cells, and each cell's reading. -/
theorem open_structs {t e : TypeId} {fs : Array Field} {fuel : Nat} {cs : List Value} {x : DataW H × List MemPlace} (ht : P.underlying t = some (.slice e)) (he : P.underlying e = some (.struct fs))
    (hone : oneCellFields P fs = true) (hC : P.cellsOf e = fs.size) (hpos : 0 < fs.size) (h : DataW.trod enc P w base spare held fuel t cs = some x) :
    cs = [.slice none 0 0] ∨ ∃ (A : Option Addr) (len cap : Nat), cs = [.slice A len cap] ∧ (len ≤ maxLen ∧ len ≤ cap) ∧
      (len = 0 ∨ ∃ g o, A = some ⟨g, o, none⟩ ∧ g < w.heap.size ∧ ∀ i, i < len → ∀ (j : Nat) (f : Field), fs[j]? = some f →
        ∃ (n : Nat) (v : Value) (y : DataW H × List MemPlace), w.cell? ⟨g, o + i * fs.size + j, none⟩ = some v ∧ DataW.trod enc P w base spare held n f.type [v] = some y) := by
  rcases open_slice ht h with h0 | ⟨a, len, cap, m, n, D, Pl, hcs, hb, hl, hm, hmm, _, hi⟩
  · exact .inl h0.1
  right
  refine ⟨some a, len, cap, hcs, ⟨by omega, hl⟩, ?_⟩
  by_cases hz : len = 0
  · exact .inl hz
  right
  have hlm : ∀ i, i < len → i < m := fun i hi' => by rw [hmm]; split <;> omega
  have cell0 : ∃ v, w.cell? a = some v := by
    obtain ⟨cs', hc, _⟩ := hi 0 (hlm 0 (by omega))
    obtain ⟨_, hcl, hat⟩ := World.cells?_some hc
    have := hat 0 (by omega)
    rw [Nat.zero_mul] at this
    have hadd : (a.add 0).add 0 = a := by simp [Addr.add]
    rw [hadd] at this
    exact ⟨_, this.trans (List.getElem?_eq_getElem (by omega))⟩
  obtain ⟨v0, hv0⟩ := cell0
  have hap := addr_plain hv0
  refine ⟨a.block, a.off, by rw [← hap], World.block_lt_of_cell? w a hv0, fun i hil j f hj => ?_⟩
  obtain ⟨cs', hc, ht'⟩ := hi i (hlm i hil)
  obtain ⟨ys, n', _, _, hlen', hyl, hf⟩ := DataW.trod_struct he ht'
  obtain ⟨_, hcl, hat⟩ := World.cells?_some hc
  obtain ⟨ho, hk⟩ := hone_of hone j f hj
  have hjl : j < fs.size := (Array.getElem?_eq_some_iff.1 hj).1
  have hcell := hat j (by omega)
  have hcj : j < cs'.length := by omega
  have h1 := hf j f hj
  rw [ho, hk, List.drop_eq_getElem_cons hcj] at h1
  refine ⟨n', cs'[j], ys[j]'(by omega), ?_, ?_⟩
  · rw [hap, addr_add, hC, addr_add, List.getElem?_eq_getElem hcj] at hcell
    exact hcell
  · rw [List.getElem?_eq_getElem (by omega)] at h1
    exact h1

end

/-- A block that is to be changed: which, and what it is to have. -/
structure Bk where
  at_ : Int
  data : List UInt8
def Bk.okay (x : Bk) : Prop := (-9223372036854775808 ≤ x.at_ ∧ x.at_ ≤ 9223372036854775807) ∧ x.data.length ≤ 9223372036854775807

def BlksAt (w : World) (g o : Nat) (l : List Bk) : Prop := ∀ i (h : i < l.length), w.cell? ⟨g, o + i * 2, none⟩ = some (.int .i64 l[i].at_) ∧ w.cell? ⟨g, o + i * 2 + 1, none⟩ = some (.string (strOf l[i].data))
/-- The blocks that a slice of address A holds. -/
def Blks (w : World) (A : Option Addr) (l : List Bk) : Prop := (l = [] ∨ ∃ g o, A = some ⟨g, o, none⟩ ∧ g < w.heap.size ∧ BlksAt w g o l) ∧ ∀ x ∈ l, x.okay

theorem Blks.kept {S : List Nat} {w w' : World} {A : Option Addr} {l : List Bk} (h : Blks w A l) (k : Only S w w') (hA : ∀ a, A = some a → a.block ∉ S) : Blks w' A l := by
  refine ⟨h.1.imp id ?_, h.2⟩
  rintro ⟨g, o, rfl, hg, hc⟩
  have hS := hA _ rfl
  exact ⟨g, o, rfl, Nat.lt_of_lt_of_le hg k.size, fun i hi => ⟨k.cell (hc i hi).1 hS, k.cell (hc i hi).2 hS⟩⟩
theorem Blks.get {w : World} {A : Option Addr} {l : List Bk} (h : Blks w A l) {i : Nat} (hi : i < l.length) : ∃ g o, A = some ⟨g, o, none⟩ ∧ g < w.heap.size ∧ BlksAt w g o l := by
  rcases h.1 with rfl | h
  · simp at hi
  · exact h

section
variable {H : Type} {enc : TypeId × Value → H} {w : World}
set_option maxRecDepth 100000 in
theorem open_blks' {v : Value} {fuel : Nat} {x : DataW H × List MemPlace} (h : DataW.trod enc Tryz.prog w 0 (fun _ => true) true fuel 102 [v] = some x) : ∃ (A : Option Addr) (c : Nat) (l : List Bk), v = .slice A (List.length l) c ∧ Blks w A l ∧ l.length ≤ 9223372036854775807 ∧ l.length ≤ c := by
  rcases open_structs Tryz.underlying102 Tryz.underlying159 (by kernel_rfl) (by kernel_rfl) (by decide) h with h0 | ⟨A, len, cap, hcs, ⟨hm, hcap⟩, hz⟩
  · injection h0 with h0 _
    exact ⟨none, 0, [], h0, ⟨.inl rfl, by simp⟩, by simp, by simp⟩
  · injection hcs with hcs _
    subst hcs
    have hm' : len ≤ 9223372036854775807 := by simp only [maxLen] at hm; omega
    rcases hz with rfl | ⟨g, o, rfl, hg, hall⟩
    · exact ⟨A, cap, [], rfl, ⟨.inl rfl, by simp⟩, by simp, by simp⟩
    have each : ∀ i, i < len → ∃ x : Bk, (w.cell? ⟨g, o + i * 2, none⟩ = some (.int .i64 x.at_) ∧ w.cell? ⟨g, o + i * 2 + 1, none⟩ = some (.string (strOf x.data))) ∧ x.okay := by
      intro i hi
      obtain ⟨n0, v0, y0, k0, t0⟩ := hall i hi 0 _ rfl
      obtain ⟨n1, v1, y1, k1, t1⟩ := hall i hi 1 _ rfl
      obtain ⟨a0, e0, _, w0⟩ := DataW.trod_int Tryz.underlying3 t0
      obtain ⟨s, e1, _, hs⟩ := DataW.trod_string Tryz.underlying9 t1
      injection e0 with e0 _; injection e1 with e1 _
      subst e0; subst e1
      have r0 := i64_range w0
      refine ⟨⟨a0, s.data.toList⟩, ⟨by simpa using k0, ?_⟩, r0, ?_⟩
      · simp only [strOf_toList]
        simpa using k1
      · simp only [maxLen] at hs
        have : s.data.toList.length = s.size := by rw [Array.length_toList]; rfl
        simp only [this]
        omega
    haveI : Inhabited Bk := ⟨⟨0, []⟩⟩
    obtain ⟨f, hf'⟩ := choose_lt each
    refine ⟨_, cap, (List.range len).map f, by simp, ⟨.inr ⟨g, o, rfl, hg, fun j hj => ?_⟩, ?_⟩, by rw [List.length_map, List.length_range]; exact hm', by rw [List.length_map, List.length_range]; exact hcap⟩
    · have e : ((List.range len).map f)[j] = f j := by simp
      rw [e]
      exact (hf' j (by simpa using hj)).1
    · intro x hx
      simp only [List.mem_map, List.mem_range] at hx
      obtain ⟨i, hi, rfl⟩ := hx
      exact (hf' i hi).2
set_option maxRecDepth 100000 in
/-- A list of blocks that comes in. -/
theorem open_blks {v : Value} {d : DataW H} {ps : List MemPlace} {r : Reach} {b0 : Nat} (hv : Value.okWide Tryz.prog w r b0 102 v) (h : DataW.Trod enc Tryz.prog w 0 (fun _ => true) true 102 v d ps) :
    ∃ A c l, v = .slice A (List.length l) c ∧ Blks w A l ∧ l.length ≤ 9223372036854775807 ∧ l.length ≤ c := by
  obtain ⟨A, len, cap, rfl⟩ := okWide_slice Tryz.underlying102 hv
  obtain ⟨fuel, hf⟩ := h
  exact open_blks' (by simpa [Value.cells] using hf)
end

/-! Which blocks may be changed together. -/
def goodAt (l : List Bk) (size : Int) (i : Nat) : Prop := ∀ x, l[i]? = some x → 0 ≤ x.at_ ∧ x.at_ < size ∧ x.data.length ≤ 248 ∧ ∀ k y, k < i → l[k]? = some y → y.at_ ≠ x.at_
def RightL (l : List Bk) (size : Int) : Prop := 1 ≤ l.length ∧ l.length ≤ 40 ∧ ∀ i, i < l.length → goodAt l size i

/-- The answer is whether P. -/
def Says (P : Prop) (e : Ending) : Prop := ∃ r : Bool, e = .returned (.bool r) ∧ (r = true ↔ P)
theorem Says.no {P : Prop} (h : ¬ P) : Says P (.returned (.bool false)) := ⟨false, rfl, by simp [h]⟩
theorem Says.yes {P : Prop} (h : P) : Says P (.returned (.bool true)) := ⟨true, rfl, by simp [h]⟩

set_option maxRecDepth 100000 in
set_option maxHeartbeats 2000000 in
theorem right_any (w : World) (A : Option Addr) (c : Nat) (l : List Bk) (size : Int) (h : Blks w A l) (hl : l.length ≤ 9223372036854775807) :
    Calls Tryz.prog 94 #[.slice A l.length c, .int .i64 size] w fun e w' => Says (RightL l size) e ∧ Only [] w w' := by
  by_cases h1 : l.length < 1
  · have hno : Hid (¬ RightL l size) := fun h => by have := h.1; omega
    have h1' : (l.length : Int) < 1 := by omega
    go_enter Tryz.func94, Tryz.ntmps94
    go_wp2
    go_ret
    exact ⟨Says.no (show ¬ RightL l size from hno), Only.refl _ _⟩
  by_cases h2 : 40 < l.length
  · have hno : Hid (¬ RightL l size) := fun h => by have := h.2.1; omega
    have h1' : ¬ (l.length : Int) < 1 := by omega
    have h2' : (40 : Int) < (l.length : Int) := by omega
    go_enter Tryz.func94, Tryz.ntmps94
    go_wp2
    go_ret
    exact ⟨Says.no (show ¬ RightL l size from hno), Only.refl _ _⟩
  have h1' : ¬ (l.length : Int) < 1 := by omega
  have h2' : ¬ (40 : Int) < (l.length : Int) := by omega
  go_enter Tryz.func94, Tryz.ntmps94
  go_wp2_with fail
  go_loopw [5] (fun i wr => ∃ n : Nat, n ≤ l.length ∧ i = .int .i64 n ∧ (∀ j, j < n → goodAt l size j) ∧ Only [] w wr) (fun i _ => l.length - (intOf i).toNat)
  case atStart => exact ⟨0, Nat.zero_le _, rfl, by omega, Only.refl _ _⟩
  case round =>
    obtain ⟨n, hn, rfl, hgood, hk⟩ := hrel
    by_cases hlt : n < l.length
    · obtain ⟨g, o, rfl, hg, hat⟩ := h.get hlt
      have hx : l[n]? = some l[n] := List.getElem?_eq_getElem hlt
      have c0 := hk.cell (hat n hlt).1 (by simp)
      have c1 := hk.cell (hat n hlt).2 (by simp)
      have hsz : (strOf l[n].data).size = l[n].data.length := strOf_size _
      have hgx := hgood
      obtain ⟨x, hxx⟩ : ∃ x, x = l[n] := ⟨_, rfl⟩
      rw [← hxx] at hx c0 c1 hsz
      replace hxx := Lib.hid hxx
      obtain ⟨at_, data⟩ := x
      simp only at c0 c1 hsz
      generalize strOf data = s at *
      by_cases a1 : at_ < 0
      · have hno : Hid (¬ RightL l size) := fun h => by
          have := (h.2.2 n hlt _ hx).1
          simp only at this
          omega
        clear hgx hgood
        go_wp2
        go_ret
        exact ⟨Says.no (show ¬ RightL l size from hno), hk⟩
      by_cases a2 : size ≤ at_
      · have hno : Hid (¬ RightL l size) := fun h => by
          have := (h.2.2 n hlt _ hx).2.1
          simp only at this
          omega
        clear hgx hgood
        go_wp2
        go_ret
        exact ⟨Says.no (show ¬ RightL l size from hno), hk⟩
      by_cases a3 : 248 < data.length
      · have hno : Hid (¬ RightL l size) := fun h => by
          have := (h.2.2 n hlt _ hx).2.2.1
          simp only at this
          omega
        have a3' : (248 : Int) < (s.size : Int) := by omega
        clear hgx hgood
        go_wp2
        go_ret
        exact ⟨Says.no (show ¬ RightL l size from hno), hk⟩
      have a3' : ¬ (248 : Int) < (s.size : Int) := by omega
      replace hsz := Lib.hid hsz
      replace hgood := Lib.hid hgood
      clear hgx
      go_wp2_with fail
      go_loopw [6] (fun i wr => ∃ m : Nat, m ≤ n ∧ i = .int .i64 m ∧ (∀ k y, k < m → l[k]? = some y → y.at_ ≠ at_) ∧ Only [] w wr) (fun i _ => n - (intOf i).toNat)
      case atStart => exact ⟨0, Nat.zero_le _, rfl, by omega, hk⟩
      case round =>
        clear hk c0 c1
        obtain ⟨m, hm, rfl, hdiff, hk⟩ := hrel
        by_cases hlt2 : m < n
        · have hml : m < l.length := by omega
          have hy : l[m]? = some l[m] := List.getElem?_eq_getElem hml
          have c0 := hk.cell (hat m hml).1 (by simp)
          have d0 := hk.cell (hat n hlt).1 (by simp)
          rw [← hxx.out] at d0
          simp only at d0
          generalize l[m] = y at *
          obtain ⟨aty, dy⟩ := y
          simp only at c0
          by_cases e : aty = at_
          · have hno : Hid (¬ RightL l size) := fun h => (h.2.2 n hlt _ hx).2.2.2 m _ hlt2 hy e
            subst e
            clear hdiff
            go_wp2
            go_quiet (fail)
            go_wp2
            go_ret
            exact ⟨Says.no (show ¬ RightL l size from hno), hk.drewN _⟩
          · have hdiff2 : Hid (∀ k y, k < m + 1 → l[k]? = some y → y.at_ ≠ at_) := fun k y hkm hky => by
              by_cases hkk : k = m
              · subst hkk
                rw [hy] at hky
                injection hky with hky
                subst hky
                exact e
              · exact hdiff k y (by omega) hky
            clear hdiff
            go_wp2
            go_quiet (fail)
            go_wp2
            go_roundw
            case rel => exact ⟨m + 1, by omega, by go_num, hdiff2, hk.drewN _⟩
            case measure => simp [intOf]; omega
        · have hmn : m = n := by omega
          subst hmn
          have hgood2 : Hid (∀ j, j < m + 1 → goodAt l size j) := fun j hj => by
            by_cases hjm : j = m
            · subst hjm
              intro z hz
              rw [hx] at hz
              injection hz with hz
              subst hz
              exact ⟨by simp only; omega, by simp only; omega, by simp only; omega, hdiff⟩
            · exact hgood.out j (by omega)
          clear hdiff
          go_wp2
          go_roundw
          case rel => exact ⟨m + 1, by omega, by go_num, hgood2, hk⟩
          case measure => simp [intOf]; omega
    · have hyes : Hid (RightL l size) := ⟨by omega, by omega, fun i hi => hgood i (by omega)⟩
      have hge : (l.length : Int) ≤ n := by omega
      go_wp2
      go_ret
      exact ⟨Says.yes (show RightL l size from hyes), hk⟩

end Go.Proofs.YthpjkhmkjhgbkaaGreatDoor

/-! === Data === -/
/- A row's data: zero, isKey, dataOf, rowOf; and what they say of bytes. -/
namespace Go.Proofs.YthpjkhmkjhgbkaaGreatDoor
open Go.RowKit

def isKeyL (k : List UInt8) : Bool := decide (1 ≤ k.length ∧ k.length ≤ 16)
def isZeroL (l : List UInt8) : Bool := l.all (· == 0)
theorem dropWhile_nil : ∀ l : List UInt8, (l.dropWhile (· == 0) = []) ↔ isZeroL l = true
  | [] => by simp [isZeroL]
  | a :: r => by
    by_cases h : a = 0
    · subst h
      simpa [isZeroL] using dropWhile_nil r
    · simp [isZeroL, h]
theorem dropWhile_suffix_zero : ∀ l : List UInt8, isZeroL (l.dropWhile (· == 0)) = isZeroL l
  | [] => rfl
  | a :: r => by
    by_cases h : a = 0
    · subst h
      simpa [isZeroL] using dropWhile_suffix_zero r
    · simp [h]
theorem isZeroL_reverse (l : List UInt8) : isZeroL l.reverse = isZeroL l := by simp [isZeroL]
theorem trimB_nil (l : List UInt8) : (Lib.trimB l 0 = []) ↔ isZeroL l = true := by
  unfold Lib.trimB Lib.trimLeftB Lib.trimRightB
  rw [dropWhile_nil, isZeroL_reverse, dropWhile_suffix_zero, isZeroL_reverse]

theorem zero5_any (w : World) (l : List UInt8) (hl : l.length ≤ 1048576) :
    Calls Tryz.prog 72 #[.string (strOf l)] w fun e w' => e = .returned (.bool (isZeroL l)) ∧ Only [] w w' := by
  have ht := fun W => Tryz.strings_Trim_one (strOf l) 0 (by decide) W (by rw [strOf_size]; omega)
  rw [strOf_list] at ht
  have hz : (⟨(Lib.trimB l 0).toArray⟩ : ByteArray).toList.isEmpty = isZeroL l := by
    rw [ByteArray.toList_mk, Bool.eq_iff_iff, List.isEmpty_iff]
    exact trimB_nil l
  generalize isZeroL l = b at *
  generalize (⟨(Lib.trimB l 0).toArray⟩ : ByteArray) = T at *
  replace hz := Lib.hid hz
  generalize strOf l = s at *
  replace ht := Lib.hid ht
  go_enter Tryz.func72, Tryz.ntmps72
  go_wp2_with fail
  refine (ht.out _).mono ?_
  rintro e w1 ⟨rfl, k⟩
  have k1 : Only [] w w1 := by
    rcases k with rfl | rfl
    · exact Only.refl _ _
    · exact (Only.refl [] w).drew
  clear k
  go_wp2
  go_ret
  exact ⟨by rw [← hz.out]; rfl, k1⟩

theorem isKey_any (w : World) (k : List UInt8) (hl : k.length ≤ 9223372036854775807) :
    Calls Tryz.prog 75 #[.string (strOf k)] w fun e w' => e = .returned (.bool (isKeyL k)) ∧ w' = w := by
  have hs := strOf_size k
  unfold isKeyL
  generalize k.length = n at *
  generalize strOf k = s at *
  subst hs
  by_cases h1 : 1 ≤ s.size
  · have e : decide (1 ≤ s.size ∧ s.size ≤ 16) = decide ((s.size : Int) ≤ 16) := by
      rw [Bool.eq_iff_iff]; simp [h1]; omega
    rw [e]
    go_enter Tryz.func75, Tryz.ntmps75
    go_wp2
    go_ret
    exact ⟨by simp, rfl⟩
  · have e : decide (1 ≤ s.size ∧ s.size ≤ 16) = false := by simp [h1]
    rw [e]
    have h0 : s.size = 0 := by omega
    go_enter Tryz.func75, Tryz.ntmps75
    go_wp2
    go_ret
    exact ⟨by simp, rfl⟩

/-- The bytes of a changed row. -/
def rowL (k v : List UInt8) : List UInt8 := be4 1 ++ encT k ++ encT v
def dataL (c : Ch) : List UInt8 := if c.gone then [] else rowL c.key c.val
theorem rowL_length (k v : List UInt8) : (rowL k v).length = 12 + k.length + padN k.length + v.length + padN v.length := by
  simp [rowL, be4_length, encT_length]
  omega

set_option maxRecDepth 100000 in
theorem dataOf_any (w : World) (c : Ch) (hk : c.key.length ≤ 16) (hv : c.val.length ≤ 200) :
    Calls Tryz.prog 86 #[.agg #[.string (strOf c.key), .string (strOf c.val), .bool c.gone]] w fun e w' => e = .returned (.string (strOf (dataL c))) ∧ Only [] w w' := by
  obtain ⟨key, val, gone⟩ := c
  simp only at hk hv ⊢
  have k0 : ∀ g, Only [] w (w.alloc (.cells #[.string (strOf key), .string (strOf val), .bool g] 59)) := fun g => (Only.refl [] w).alloc _
  cases gone with
  | true =>
    have e : dataL ⟨key, val, true⟩ = [] := rfl
    rw [e]
    have kk := k0 true
    generalize strOf key = ks at *
    generalize strOf val = vs at *
    clear k0
    go_enter Tryz.func86, Tryz.ntmps86
    go_wp2
    go_ret
    exact ⟨rfl, kk⟩
  | false =>
    have e : dataL ⟨key, val, false⟩ = rowL key val := rfl
    rw [e]
    have kk := k0 false
    have bk := Blk.new w 59 #[.string (strOf key), .string (strOf val), .bool false]
    have sk := strOf_list key
    have sv := strOf_list val
    have zk := strOf_size key
    have zv := strOf_size val
    have pk := padN_lt key.length
    have pv := padN_lt val.length
    have le := encT_length key
    have hfin : be4 1 ++ encT key ++ encT val = rowL key val := rfl
    generalize rowL key val = R at *
    generalize strOf key = ks at *
    generalize strOf val = vs at *
    have c0 := bk.cell 0
    have c1 := bk.cell 1
    have c2 := bk.cell 2
    simp only [List.getElem?_toArray, List.getElem?_cons_zero, List.getElem?_cons_succ] at c0 c1 c2
    replace hfin := Lib.hid hfin
    replace sk := Lib.hid sk
    replace sv := Lib.hid sv
    replace zk := Lib.hid zk
    replace zv := Lib.hid zv
    replace le := Lib.hid le
    clear k0 bk
    go_enter Tryz.func86, Tryz.ntmps86
    go_wp2_with fail
    generalize hw1 : w.alloc (.cells #[.string ks, .string vs, .bool false] 59) = w1 at *
    have hs1 : w1.heap.size = w.heap.size + 1 := by rw [← hw1]; simp
    obtain ⟨q, hq⟩ : ∃ q, q = w.heap.size := ⟨_, rfl⟩
    rw [← hq] at c0 c1 c2 hs1 ⊢
    replace hw1 := Lib.hid hw1
    replace hq := Lib.hid hq
    have k2 : Only [] w1 (w1.alloc (.cells #[.slice none 0 0] 177)) := (Only.refl [] w1).alloc _
    have b2 : Blk (w1.alloc (.cells #[.slice none 0 0] 177)) w1.heap.size 177 #[.slice none 0 0] := Blk.new _ _ _
    have hwr : Wr (w1.alloc (.cells #[.slice none 0 0] 177)) w1.heap.size [] [] := ⟨.slice none 0 0, b2, ⟨by simp [byteVs], .inl ⟨rfl, rfl⟩⟩, by simp [Value.ownBlock], by simp [Value.ownBlock]⟩
    have d0 := k2.cell c0 (by simp)
    have d1 := k2.cell c1 (by simp)
    obtain ⟨p, hp⟩ : ∃ p, p = q + 1 := ⟨_, rfl⟩
    rw [hs1, ← hp] at hwr
    rw [← hp]
    have hqp : q ≠ p := by omega
    have hpw : w.heap.size ≤ p := by have := hq.out; omega
    generalize hw2 : w1.alloc (.cells #[.slice none 0 0] 177) = w2 at *
    replace hw2 := Lib.hid hw2
    replace hp := Lib.hid hp
    replace hs1 := Lib.hid hs1
    have k02 := kk.trans k2
    clear b2 c0 c1 c2 k2 kk
    refine (wnumber_any _ p [] [] 1 1 rfl (by decide) hwr (by simp)).mono ?_
    rintro e w3 ⟨rfl, F3, h3, k3, hF3⟩
    have hp2 : p < w2.heap.size := hwr.lt
    have hq2 : q < w2.heap.size := by have := hp.out; omega
    have hqF3 : q ∉ p :: F3 := by
      intro hm
      rcases List.mem_cons.1 hm with h | h
      · exact hqp h
      · rcases hF3 q h with h | h
        · cases h
        · omega
    have e0 := k3.cell d0 (by simpa using hqp)
    have e1 := k3.cell d1 (by simpa using hqp)
    have hq3 := Nat.lt_of_lt_of_le hq2 k3.size
    have k03 : Only [] w w3 := k02.then k3 (by simp; exact hpw)
    replace hF3 := Lib.hid hF3
    clear hwr d0 d1 k3 k02
    go_wp2_with fail
    refine (wtext_any _ p F3 _ ks h3 (by rw [zk.out]; simp [be4_length]; omega)).mono ?_
    rintro e w4 ⟨rfl, F4, h4, k4, hF4⟩
    rw [sk.out] at h4
    have f1 := k4.cell e1 (by simpa using hqF3)
    have hF3w : ∀ i ∈ p :: F3, w.heap.size ≤ i := fun i hi => by
      rcases List.mem_cons.1 hi with rfl | hi
      · exact hpw
      · rcases hF3.out i hi with h | h
        · cases h
        · have := hp2; have := hp.out; have := hq.out; omega
    have k04 : Only [] w w4 := k03.then k4 (fun i hi => .inr (hF3w i hi))
    clear h3 e0 e1 k4 k03
    go_wp2_with fail
    refine (wtext_any _ p F4 _ vs h4 (by rw [zv.out]; simp [be4_length, le.out]; omega)).mono ?_
    rintro e w5 ⟨rfl, F5, h5, k5, hF5⟩
    rw [sv.out] at h5
    have hF4w : ∀ i ∈ p :: F4, w.heap.size ≤ i := fun i hi => by
      rcases List.mem_cons.1 hi with rfl | hi
      · exact hpw
      · rcases hF4 i hi with h | h
        · exact hF3w i (by simp [h])
        · have := hq3; have := hq.out; omega
    have k05 : Only [] w w5 := k04.then k5 (fun i hi => .inr (hF4w i hi))
    rw [List.nil_append, hfin.out] at h5
    clear h4 f1 k5 k04
    go_wp2_with fail
    refine (bytes_any _ p F5 _ h5).mono ?_
    rintro e w6 ⟨rfl, rfl⟩
    clear h5
    go_wp2
    go_ret
    exact ⟨rfl, k05⟩

/-- What data say. -/
def scanR (d : List UInt8) : Nat × List UInt8 × Nat := rNumber d 0
def scanK (d : List UInt8) : List UInt8 × List UInt8 × Nat := rText 16 (scanR d).2.1 (scanR d).2.2
def scanV (d : List UInt8) : List UInt8 × List UInt8 × Nat := rText 200 (scanK d).2.1 (scanK d).2.2
def goodD (d : List UInt8) : Bool := ((scanV d).2.2 == 0 && (scanR d).1 == 1) && (isKeyL (scanK d).1 && isZeroL (scanV d).2.1)
def rowOfL (d : List UInt8) : Option (List UInt8 × List UInt8) := if goodD d then some ((scanK d).1, (scanV d).1) else none
def rowOfV (d : List UInt8) : Value := match rowOfL d with
  | some x => .tuple #[.string (strOf x.1), .string (strOf x.2), .bool true]
  | none => .tuple #[.string ⟨#[]⟩, .string ⟨#[]⟩, .bool false]
theorem rNumber_suffix (d : List UInt8) (e : Nat) : (rNumber d e).2.1 <:+ d := by
  unfold rNumber
  split
  · exact List.suffix_refl _
  · split
    · exact List.suffix_refl _
    · exact List.drop_suffix _ _
theorem rText_suffix (m : Int) (d : List UInt8) (e : Nat) : (rText m d e).2.1 <:+ d := by
  unfold rText
  repeat (first | exact List.suffix_refl _ | exact List.drop_suffix _ _ | split)
theorem scan_suffix (d : List UInt8) : (scanV d).2.1 <:+ d := (rText_suffix _ _ _).trans ((rText_suffix _ _ _).trans (rNumber_suffix _ _))
end Go.Proofs.YthpjkhmkjhgbkaaGreatDoor

/-! === Data2 === -/
/- rowOf: what a row's data say. -/
namespace Go.Proofs.YthpjkhmkjhgbkaaGreatDoor
open Go.RowKit

set_option maxRecDepth 100000 in
set_option maxHeartbeats 1000000 in
theorem rowOf_any (w : World) (d : List UInt8) (hl : d.length ≤ 1048576) :
    Calls Tryz.prog 73 #[.string (strOf d)] w fun e w' => e = .returned (rowOfV d) ∧ Only [] w w' := by
  have hnew : ∀ W, Calls Tryz.prog 96 #[.string (strOf d)] W (NewRd2 W d) := fun W => by
    have := newReader_two W (strOf d) (by rw [strOf_size]; omega)
    rwa [strOf_list] at this
  have hn := fun W p g h => rnum_any W p g d 0 h
  have ht := fun W p g h => rtext_any W p g (scanR d).2.1 (scanR d).2.2 16 (by decide) h
  have hu := fun W p g h => rtext_any W p g (scanK d).2.1 (scanK d).2.2 200 (by decide) h
  have hkl : (scanK d).1.length ≤ 9223372036854775807 := by
    have := rText_len 16 (scanR d).2.1 (scanR d).2.2
    unfold scanK
    unfold rText
    split
    · simp
    · repeat (first | (split; simp) | (simp; have := hd4_lt (scanR d).2.1; omega))
  have hik := fun W => isKey_any W (scanK d).1 hkl
  have hsuf := scan_suffix d
  have hzl : (scanV d).2.1.length ≤ d.length := hsuf.length_le
  have hdrop : d.drop (d.length - (scanV d).2.1.length) = (scanV d).2.1 := (List.suffix_iff_eq_drop.1 hsuf).symm
  have hex : (strOf d).extract (d.length - (scanV d).2.1.length) d.length = strOf (scanV d).2.1 := by
    show (ByteArray.mk d.toArray).extract _ _ = _
    rw [ByteArray.extract_mk, List.take_of_length_le (by simp), hdrop]
    rfl
  have hze := fun W => zero5_any W (scanV d).2.1 (by omega)
  have hgood : goodD d = (((scanV d).2.2 == 0 && (scanR d).1 == 1) && (isKeyL (scanK d).1 && isZeroL (scanV d).2.1)) := rfl
  have hval : rowOfV d = if goodD d then .tuple #[.string (strOf (scanK d).1), .string (strOf (scanV d).1), .bool true] else .tuple #[.string ⟨#[]⟩, .string ⟨#[]⟩, .bool false] := by
    unfold rowOfV rowOfL
    cases goodD d <;> rfl
  rw [hval, hgood]
  change ∀ W p g, Rd W p g d 0 → Calls _ _ _ W (Took W p g (.int .u32 ((scanR d).1 : Int)) (scanR d).2.1 (scanR d).2.2) at hn
  change ∀ W p g, Rd W p g (scanR d).2.1 (scanR d).2.2 → Calls _ _ _ W (Took W p g (.string (strOf (scanK d).1)) (scanK d).2.1 (scanK d).2.2) at ht
  change ∀ W p g, Rd W p g (scanK d).2.1 (scanK d).2.2 → Calls _ _ _ W (Took W p g (.string (strOf (scanV d).1)) (scanV d).2.1 (scanV d).2.2) at hu
  have hR : (scanR d).1 < 4294967296 := by
    unfold scanR rNumber
    split
    · simp
    · split
      · simp
      · exact hd4_lt _
  have hsz : (strOf d).size = d.length := strOf_size d
  have hlI : (d.length : Int) ≤ 1048576 := by omega
  have hzI : ((scanV d).2.1.length : Int) ≤ (d.length : Int) := by omega
  clear hgood hval hsuf hdrop hl hzl hkl
  generalize scanR d = R at *
  generalize scanK d = K at *
  generalize scanV d = V at *
  obtain ⟨n, r1, e1⟩ := R
  obtain ⟨k, r2, e2⟩ := K
  obtain ⟨v, r3, e3⟩ := V
  simp only at *
  generalize isKeyL k = bk at *
  generalize isZeroL r3 = bz at *
  generalize strOf k = ks at *
  generalize strOf v = vs at *
  generalize strOf r3 = rs at *
  generalize hds : strOf d = ds at *
  replace hex := Lib.hid hex
  replace hnew := Lib.hid hnew
  replace hn := Lib.hid hn
  replace ht := Lib.hid ht
  replace hu := Lib.hid hu
  replace hik := Lib.hid hik
  replace hze := Lib.hid hze
  replace hds := Lib.hid hds
  have hRI : ((n : Nat) : Int) < 4294967296 := by omega
  clear hR
  by_cases hcase : e3 = 0 ∧ n = 1
  · obtain ⟨rfl, rfl⟩ := hcase
    cases bk with
    | false =>
      go_enter Tryz.func73, Tryz.ntmps73
      go_wp2_with fail
      refine (hnew.out _).mono ?_
      rintro e w2 ⟨p, g, rfl, hrd, hp, hg, k2, hg2⟩
      go_wp2_with fail
      refine (hn.out _ p g hrd).mono ?_
      rintro e w3 ⟨rfl, hrd3, k3⟩
      go_wp2_with fail
      refine (ht.out _ p g hrd3).mono ?_
      rintro e w4 ⟨rfl, hrd4, k4⟩
      go_wp2_with fail
      refine (hu.out _ p g hrd4).mono ?_
      rintro e w5 ⟨rfl, ⟨o5, c5, hrd5⟩, k5⟩
      have kend : Only [] w w5 := ((k2.then k3 (by simp; omega)).then k4 (by simp; omega)).then k5 (by simp; omega)
      go_wp2_with fail
      refine (err_any _ p g o5 c5 _ _ hrd5).mono ?_
      rintro e w6 ⟨rfl, rfl⟩
      clear hrd hrd3 hrd4 k2 k3 k4 k5
      go_wp2_with fail
      refine (hik.out _).mono ?_
      rintro e w7 ⟨rfl, rfl⟩
      clear hrd5
      go_wp2
      go_ret3
      exact ⟨rfl, kend⟩
    | true =>
      go_enter Tryz.func73, Tryz.ntmps73
      go_wp2_with fail
      refine (hnew.out _).mono ?_
      rintro e w2 ⟨p, g, rfl, hrd, hp, hg, k2, hg2⟩
      go_wp2_with fail
      refine (hn.out _ p g hrd).mono ?_
      rintro e w3 ⟨rfl, hrd3, k3⟩
      go_wp2_with fail
      refine (ht.out _ p g hrd3).mono ?_
      rintro e w4 ⟨rfl, hrd4, k4⟩
      go_wp2_with fail
      refine (hu.out _ p g hrd4).mono ?_
      rintro e w5 ⟨rfl, ⟨o5, c5, hrd5⟩, k5⟩
      have kend : Only [] w w5 := ((k2.then k3 (by simp; omega)).then k4 (by simp; omega)).then k5 (by simp; omega)
      clear hrd hrd3 hrd4 k2 k3 k4 k5
      go_wp2_with fail
      refine (err_any _ p g o5 c5 _ _ hrd5).mono ?_
      rintro e w6 ⟨rfl, rfl⟩
      go_wp2_with fail
      refine (hik.out _).mono ?_
      rintro e w7 ⟨rfl, rfl⟩
      go_wp2_with fail
      refine (left_any _ p g o5 c5 _ _ hrd5).mono ?_
      rintro e w8 ⟨rfl, rfl⟩
      clear hrd5
      go_wp2_with fail
      rw [hex.out]
      refine (hze.out _).mono ?_
      rintro e w9 ⟨rfl, k9⟩
      have kend9 := kend.trans k9
      clear kend k9
      cases bz
      · go_wp2
        go_ret3
        exact ⟨rfl, kend9⟩
      · go_wp2
        go_ret3
        exact ⟨rfl, kend9⟩
  · have hno : (((e3 == 0) && (n == 1)) && (bk && bz)) = false := by
      by_cases h3 : e3 = 0
      · have h1 : ¬ n = 1 := fun h => hcase ⟨h3, h⟩
        simp [h1]
      · simp [h3]
    rw [hno]
    by_cases h3 : e3 = 0
    · have h1 : ((n : Int) == 1) = false := by
        have h1 : ¬ n = 1 := fun h => hcase ⟨h3, h⟩
        simp
        omega
      have h1' : ((n : Int) != 1) = true := by rw [bne, h1]; rfl
      subst h3
      clear hcase hno
      generalize (n : Int) = y at *
      go_enter Tryz.func73, Tryz.ntmps73
      go_wp2_with fail
      refine (hnew.out _).mono ?_
      rintro e w2 ⟨p, g, rfl, hrd, hp, hg, k2, hg2⟩
      go_wp2_with fail
      refine (hn.out _ p g hrd).mono ?_
      rintro e w3 ⟨rfl, hrd3, k3⟩
      go_wp2_with fail
      refine (ht.out _ p g hrd3).mono ?_
      rintro e w4 ⟨rfl, hrd4, k4⟩
      go_wp2_with fail
      refine (hu.out _ p g hrd4).mono ?_
      rintro e w5 ⟨rfl, ⟨o5, c5, hrd5⟩, k5⟩
      have kend : Only [] w w5 := ((k2.then k3 (by simp; omega)).then k4 (by simp; omega)).then k5 (by simp; omega)
      clear hrd hrd3 hrd4 k2 k3 k4 k5
      go_wp2_with fail
      refine (err_any _ p g o5 c5 _ _ hrd5).mono ?_
      rintro e w6 ⟨rfl, rfl⟩
      clear hrd5
      go_wp2
      go_ret3
      exact ⟨rfl, kend⟩
    · have h1 : ((e3 : Int) != 0) = true := by simp; omega
      have hn0 : (0 : Int) ≤ (n : Int) := by omega
      clear hcase hno
      generalize (n : Int) = y at *
      go_enter Tryz.func73, Tryz.ntmps73
      go_wp2_with fail
      refine (hnew.out _).mono ?_
      rintro e w2 ⟨p, g, rfl, hrd, hp, hg, k2, hg2⟩
      go_wp2_with fail
      refine (hn.out _ p g hrd).mono ?_
      rintro e w3 ⟨rfl, hrd3, k3⟩
      go_wp2_with fail
      refine (ht.out _ p g hrd3).mono ?_
      rintro e w4 ⟨rfl, hrd4, k4⟩
      go_wp2_with fail
      refine (hu.out _ p g hrd4).mono ?_
      rintro e w5 ⟨rfl, ⟨o5, c5, hrd5⟩, k5⟩
      have kend : Only [] w w5 := ((k2.then k3 (by simp; omega)).then k4 (by simp; omega)).then k5 (by simp; omega)
      clear hrd hrd3 hrd4 k2 k3 k4 k5
      go_wp2_with fail
      refine (err_any _ p g o5 c5 _ _ hrd5).mono ?_
      rintro e w6 ⟨rfl, rfl⟩
      clear hrd5
      generalize (e3 : Int) = y3 at *
      go_wp2
      go_ret3
      exact ⟨rfl, kend⟩
end Go.Proofs.YthpjkhmkjhgbkaaGreatDoor

/-! === Shelf === -/
/- The contracts of strings.HasPrefix and strings.Repeat at this dump: the library's, laid by number. -/
namespace Go.Proofs
open Go.Shelf
def Tryz.lays99_ren : Go.Shelf.Ren := ⟨fun | 99 => 50 | 206 => 87 | n => n, fun | 9 => 9 | 4 => 4 | 3 => 3 | n => n, fun | n => n⟩
theorem Tryz.lays99 : Go.Proofs.Lays.n99 Tryz.prog Tryz.lays99_ren := {
  mixed := by kernel_rfl
  f99 := Tryz.func50.trans (congrArg some (by kernel_rfl))
  f206 := Tryz.func87.trans (congrArg some (by kernel_rfl))
  t3 := Tryz.underlying3
  a3 := Tryz.isAgg3
  z3 := Tryz.sizeOf3
  v3 := Tryz.zeroValue3
  t4 := Tryz.underlying4
  a4 := Tryz.isAgg4
  z4 := Tryz.sizeOf4
  v4 := Tryz.zeroValue4
  t9 := Tryz.underlying9
  a9 := Tryz.isAgg9
  z9 := Tryz.sizeOf9
  v9 := Tryz.zeroValue9 }
open Go.RowKit Go.Lib in
/-- strings.HasPrefix: "HasPrefix reports whether the string s begins with prefix.": IT RETURNS 'Lib.hasPrefix s prefix'; the world is as it was. (LAID: no walk: one application.) -/
theorem Tryz.strings_HasPrefix (s p : ByteArray) (w : World) :
    Calls Tryz.prog 50 #[.string s, .string p] w fun e w' => e = .returned (.bool (Lib.hasPrefix s.data.toList p.data.toList)) ∧ w' = w := Any.strings_HasPrefix Tryz.lays99 s p w
def Tryz.lays105_ren : Go.Shelf.Ren := ⟨fun | 105 => 153 | 212 => 167 | 99 => 50 | 165 => 168 | 166 => 169 | 170 => 170 | 169 => 171 | 263 => 177 | 264 => 178 | 206 => 87 | 240 => 179 | 241 => 180 | 276 => 185 | 277 => 186 | n => n, fun | 9 => 9 | 3 => 3 | 4 => 4 | 20 => 20 | 0 => 0 | 46 => 24 | 109 => 231 | 5 => 5 | 72 => 235 | 76 => 238 | 51 => 112 | 146 => 245 | 53 => 36 | 148 => 247 | 70 => 233 | 37 => 91 | 75 => 237 | 127 => 249 | 164 => 256 | 80 => 72 | n => n, fun | n => n⟩
theorem Tryz.lays105 : Go.Proofs.Lays.n105 Tryz.prog Tryz.lays105_ren := {
  mixed := by kernel_rfl
  f99 := Tryz.func50.trans (congrArg some (by kernel_rfl))
  f105 := Tryz.func153.trans (congrArg some (by kernel_rfl))
  f165 := Tryz.func168.trans (congrArg some (by kernel_rfl))
  f166 := Tryz.func169.trans (congrArg some (by kernel_rfl))
  f169 := Tryz.func171.trans (congrArg some (by kernel_rfl))
  f170 := Tryz.func170.trans (congrArg some (by kernel_rfl))
  f206 := Tryz.func87.trans (congrArg some (by kernel_rfl))
  f212 := Tryz.func167.trans (congrArg some (by kernel_rfl))
  f240 := Tryz.func179.trans (congrArg some (by kernel_rfl))
  f241 := Tryz.func180.trans (congrArg some (by kernel_rfl))
  f263 := Tryz.func177.trans (congrArg some (by kernel_rfl))
  f264 := Tryz.func178.trans (congrArg some (by kernel_rfl))
  f276 := Tryz.func185.trans (congrArg some (by kernel_rfl))
  f277 := Tryz.func186.trans (congrArg some (by kernel_rfl))
  t0 := Tryz.underlying0
  a0 := Tryz.isAgg0
  z0 := Tryz.sizeOf0
  v0 := Tryz.zeroValue0
  t3 := Tryz.underlying3
  a3 := Tryz.isAgg3
  z3 := Tryz.sizeOf3
  v3 := Tryz.zeroValue3
  t4 := Tryz.underlying4
  a4 := Tryz.isAgg4
  z4 := Tryz.sizeOf4
  v4 := Tryz.zeroValue4
  t5 := Tryz.underlying5
  a5 := Tryz.isAgg5
  z5 := Tryz.sizeOf5
  v5 := Tryz.zeroValue5
  t9 := Tryz.underlying9
  a9 := Tryz.isAgg9
  z9 := Tryz.sizeOf9
  v9 := Tryz.zeroValue9
  t20 := Tryz.underlying20
  a20 := Tryz.isAgg20
  z20 := Tryz.sizeOf20
  v20 := Tryz.zeroValue20
  t37 := Tryz.underlying91
  a37 := Tryz.isAgg91
  z37 := Tryz.sizeOf91
  v37 := Tryz.zeroValue91
  t46 := Tryz.underlying24
  a46 := Tryz.isAgg24
  z46 := Tryz.sizeOf24
  v46 := Tryz.zeroValue24
  t51 := Tryz.underlying112
  a51 := Tryz.isAgg112
  z51 := Tryz.sizeOf112
  v51 := Tryz.zeroValue112
  t53 := Tryz.underlying36
  a53 := Tryz.isAgg36
  z53 := Tryz.sizeOf36
  v53 := Tryz.zeroValue36
  t70 := Tryz.underlying233
  a70 := Tryz.isAgg233
  z70 := Tryz.sizeOf233
  v70 := Tryz.zeroValue233
  t72 := Tryz.underlying235
  a72 := Tryz.isAgg235
  z72 := Tryz.sizeOf235
  v72 := Tryz.zeroValue235
  t75 := Tryz.underlying237
  a75 := Tryz.isAgg237
  z75 := Tryz.sizeOf237
  v75 := Tryz.zeroValue237
  t76 := Tryz.underlying238
  a76 := Tryz.isAgg238
  z76 := Tryz.sizeOf238
  v76 := Tryz.zeroValue238
  t109 := Tryz.underlying231
  a109 := Tryz.isAgg231
  z109 := Tryz.sizeOf231
  v109 := Tryz.zeroValue231
  t127 := Tryz.underlying249
  a127 := Tryz.isAgg249
  z127 := Tryz.sizeOf249
  v127 := Tryz.zeroValue249
  t146 := Tryz.underlying245
  a146 := Tryz.isAgg245
  z146 := Tryz.sizeOf245
  v146 := Tryz.zeroValue245
  t148 := Tryz.underlying247
  a148 := Tryz.isAgg247
  z148 := Tryz.sizeOf247
  v148 := Tryz.zeroValue247
  t164 := Tryz.underlying256
  a164 := Tryz.isAgg256
  z164 := Tryz.sizeOf256
  v164 := Tryz.zeroValue256 }
theorem Tryz.Builder_Extra_105 : Builder.Extra Tryz.prog Tryz.lays105_ren := {
  sizeBuilder := by kernel_rfl
  liesBuilder := by kernel_rfl
  t5 := Tryz.underlying5
  a5 := Tryz.isAgg5
  z5 := Tryz.sizeOf5
  v5 := Tryz.zeroValue5
  infoByte := by kernel_rfl
  cellsByte := by kernel_rfl
  sizeByte := by kernel_rfl
  neB5 := by decide }
open Go.RowKit Go.Lib in
/-- **strings.Repeat: count ≥ 0, the result within one allocation: count copies of s.** (LAID: no walk: one application.) -/
theorem Tryz.strings_Repeat (s : ByteArray) (c : Nat) (w : World) (hc : c ≤ 9223372036854775807) (hlen : s.size * c ≤ 140737488355328) :
    Calls Tryz.prog 153 #[.string s, .int .i64 c] w fun e w' => e = .returned (.string ⟨(Lib.repeatL s.data.toList c).toArray⟩) ∧ Below w.heap.size w w' := Any.strings_Repeat Tryz.lays105 Tryz.Builder_Extra_105 s c w hc hlen
end Go.Proofs
