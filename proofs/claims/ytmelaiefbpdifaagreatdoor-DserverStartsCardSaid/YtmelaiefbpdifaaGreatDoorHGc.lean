/- Joined: Shelf2, Ord, Blks, Data, Data2, Shelf. -/
import Derived.Test.YtmelaiefbpdifaaGreatDoorHGb
import Derived.Shelf.SlGeneric
import Derived.Shelf.Strings.Trim
import Derived.Shelf.Small.Strs
import Derived.Shelf.Small.Wraps
import Derived.Shelf.Slices.Turned
import Derived.Shelf.SlLaysF0
import Derived.Ground.SlsfProg
import Derived.Test.YtmelaiefbpdifaaGreatDoorChecked
import Derived.Maps.RangeWalk
import Derived.Lib.Bytealg
import Derived.Deep.Slices
import Derived.Deep.Fields
import Derived.ProofKit
import Derived.Shelf.Strings.Prefix
import Derived.Shelf.Strings.Repeat
/-
 DERIVED: THE SHELF's CONTRACTS AT THIS DUMP, IN PLAIN WORDS (tools/lay-plain.mjs out of 'TryShelf.lean', which tools/lay-shelf.mjs wrote): THE SAME DECLARATIONS UNDER THE SAME NAMES: 'import', 'namespace', 'open', 'def', 'theorem' AND NOTHING ELSE: no command of the shelf's: FOR A HAND-IN. Each laying: the table of numbers ('.._ren') and one theorem, a field a fact of the dump's own or the kernel's comparison; each contract: ONE APPLICATION.
-/
namespace Go.Proofs
open Go.Shelf
def Tryz.LJ:Go.Shelf.Ren:=⟨fun | 160=>134 | 232=>177 | 231=>176 | 227=>178 | 234=>180 | 233=>179 | 236=>182 | 235=>181 | 228=>215 | 271=>218 | 151=>217 | 197=>216 | 120=>236 | 152=>235 | 260=>234 | 137=>243 | 119=>244 | 224=>245 | 225=>246 | 217=>249 | 266=>250 | n=>n,fun | 9=>9 | 4=>4 | 3=>3 | 5=>5 | 117=>281 | 116=>280 | 0=>0 | 124=>284 | 21=>21 | 105=>310 | 46=>233 | 119=>104 | 139=>345 | 138=>344 | n=>n,fun | 3=>1 | 4=>2 | n=>n⟩
theorem Tryz.lays160:Go.Proofs.Lays.n160 Tryz.prog Tryz.LJ:={
 mixed:=by kernel_rfl
 f119:=Tryz.func244.trans (congrArg some (by kernel_rfl))
 f120:=Tryz.func236.trans (congrArg some (by kernel_rfl))
 f137:=Tryz.func243.trans (congrArg some (by kernel_rfl))
 f151:=Tryz.func217.trans (congrArg some (by kernel_rfl))
 f152:=Tryz.func235.trans (congrArg some (by kernel_rfl))
 f160:=Tryz.func134.trans (congrArg some (by kernel_rfl))
 f197:=Tryz.func216.trans (congrArg some (by kernel_rfl))
 f217:=Tryz.func249.trans (congrArg some (by kernel_rfl))
 f224:=Tryz.func245.trans (congrArg some (by kernel_rfl))
 f225:=Tryz.func246.trans (congrArg some (by kernel_rfl))
 f227:=Tryz.func178.trans (congrArg some (by kernel_rfl))
 f228:=Tryz.func215.trans (congrArg some (by kernel_rfl))
 f231:=Tryz.func176.trans (congrArg some (by kernel_rfl))
 f232:=Tryz.func177.trans (congrArg some (by kernel_rfl))
 f233:=Tryz.func179.trans (congrArg some (by kernel_rfl))
 f234:=Tryz.func180.trans (congrArg some (by kernel_rfl))
 f235:=Tryz.func181.trans (congrArg some (by kernel_rfl))
 f236:=Tryz.func182.trans (congrArg some (by kernel_rfl))
 f260:=Tryz.func234.trans (congrArg some (by kernel_rfl))
 f266:=Tryz.func250.trans (congrArg some (by kernel_rfl))
 f271:=Tryz.func218.trans (congrArg some (by kernel_rfl))
 t0:=Tryz.underlying0
 a0:=Tryz.isAgg0
 z0:=Tryz.sizeOf0
 v0:=Tryz.zeroValue0
 t3:=Tryz.underlying3
 a3:=Tryz.isAgg3
 z3:=Tryz.sizeOf3
 v3:=Tryz.zeroValue3
 t4:=Tryz.underlying4
 a4:=Tryz.isAgg4
 z4:=Tryz.sizeOf4
 v4:=Tryz.zeroValue4
 t5:=Tryz.underlying5
 a5:=Tryz.isAgg5
 z5:=Tryz.sizeOf5
 v5:=Tryz.zeroValue5
 t9:=Tryz.underlying9
 a9:=Tryz.isAgg9
 z9:=Tryz.sizeOf9
 v9:=Tryz.zeroValue9
 t21:=Tryz.underlying21
 a21:=Tryz.isAgg21
 z21:=Tryz.sizeOf21
 v21:=Tryz.zeroValue21
 t46:=Tryz.underlying233
 a46:=Tryz.isAgg233
 z46:=Tryz.sizeOf233
 v46:=Tryz.zeroValue233
 t105:=Tryz.underlying310
 a105:=Tryz.isAgg310
 z105:=Tryz.sizeOf310
 v105:=Tryz.zeroValue310
 t116:=Tryz.underlying280
 a116:=Tryz.isAgg280
 z116:=Tryz.sizeOf280
 t117:=Tryz.underlying281
 a117:=Tryz.isAgg281
 z117:=Tryz.sizeOf281
 v117:=Tryz.zeroValue281
 t119:=Tryz.underlying104
 a119:=Tryz.isAgg104
 z119:=Tryz.sizeOf104
 t124:=Tryz.underlying284
 a124:=Tryz.isAgg284
 z124:=Tryz.sizeOf284
 v124:=Tryz.zeroValue284
 t138:=Tryz.underlying344
 a138:=Tryz.isAgg344
 z138:=Tryz.sizeOf344
 v138:=Tryz.zeroValue344
 t139:=Tryz.underlying345
 a139:=Tryz.isAgg345
 z139:=Tryz.sizeOf345
 v139:=Tryz.zeroValue345
 g3:=by kernel_rfl
 g4:=by kernel_rfl }
open Go.RowKit in
theorem Tryz.strings_Trim_one(s:ByteArray)(c:UInt8)(hc:c.toNat<128)(w:World)(hs:s.size≤9223372036854775807):
  Calls Tryz.prog 134 #[.string s,.string ⟨#[c]⟩] w fun e w'=>e = .returned (.string ⟨(Lib.trimB s.data.toList c).toArray⟩)∧(w'=w∨w'=w.drew):=Any.strings_Trim_one Tryz.lays160 s c hc w hs
def Tryz.LM:Go.Shelf.Ren:=⟨fun | 106=>129 | 213=>174 | 265=>214 | n=>n,fun | 9=>9 | 3=>3 | n=>n,fun | n=>n⟩
theorem Tryz.Y2:Go.Proofs.Lays.n106 Tryz.prog Tryz.LM:={
 mixed:=by kernel_rfl
 f106:=Tryz.func129.trans (congrArg some (by kernel_rfl))
 f213:=Tryz.func174.trans (congrArg some (by kernel_rfl))
 f265:=Tryz.func214.trans (congrArg some (by kernel_rfl))
 t3:=Tryz.underlying3
 a3:=Tryz.isAgg3
 z3:=Tryz.sizeOf3
 v3:=Tryz.zeroValue3
 t9:=Tryz.underlying9
 a9:=Tryz.isAgg9
 z9:=Tryz.sizeOf9
 v9:=Tryz.zeroValue9 }
open Go.RowKit in
theorem Tryz.strings_Compare(a b:ByteArray)(w:World):
  Calls Tryz.prog 129 #[.string a,.string b] w fun e w'=>e = .returned (.int .i64 (Lib.compareBytes a.data.toList b.data.toList))∧w'=w:=Any.strings_Compare Tryz.Y2 a b w
def Tryz.LK:Go.Shelf.Ren:=⟨fun | 122=>86 | 215=>141 | n=>n,fun | 3=>3 | 4=>4 | n=>n,fun | n=>n⟩
theorem Tryz.Y1:Go.Proofs.Lays.n122 Tryz.prog Tryz.LK:={
 mixed:=by kernel_rfl
 f122:=Tryz.func86.trans (congrArg some (by kernel_rfl))
 f215:=Tryz.func141.trans (congrArg some (by kernel_rfl))
 t3:=Tryz.underlying3
 a3:=Tryz.isAgg3
 z3:=Tryz.sizeOf3
 v3:=Tryz.zeroValue3
 t4:=Tryz.underlying4
 a4:=Tryz.isAgg4
 z4:=Tryz.sizeOf4
 v4:=Tryz.zeroValue4 }
open Go.RowKit in
theorem Tryz.cmp_Compare_int(x y:Int)(w:World):
  Calls Tryz.prog 86 #[.int .i64 x,.int .i64 y] w fun e w'=>e = .returned (.int .i64 (Lib.compareInt x y))∧w'=w:=Any.cmp_Compare_int Tryz.Y1 x y w
def Tryz.lays107_ren:Go.Shelf.Ren:=⟨fun | 107=>83 | 108=>138 | n=>n,fun | 28=>81 | 3=>3 | 4=>4 | 0=>0 | n=>n,fun | n=>n⟩
theorem Tryz.lays107:Go.Proofs.Lays.n107 Tryz.prog Tryz.lays107_ren:={
 mixed:=by kernel_rfl
 f107:=Tryz.func83.trans (congrArg some (by kernel_rfl))
 f108:=Tryz.func138.trans (congrArg some (by kernel_rfl))
 t0:=Tryz.underlying0
 a0:=Tryz.isAgg0
 z0:=Tryz.sizeOf0
 v0:=Tryz.zeroValue0
 t3:=Tryz.underlying3
 a3:=Tryz.isAgg3
 z3:=Tryz.sizeOf3
 v3:=Tryz.zeroValue3
 t4:=Tryz.underlying4
 a4:=Tryz.isAgg4
 z4:=Tryz.sizeOf4
 v4:=Tryz.zeroValue4
 t28:=Tryz.underlying81
 a28:=Tryz.isAgg81
 z28:=Tryz.sizeOf81
 v28:=Tryz.zeroValue81 }
open Go.Lib in
theorem Tryz.slices_Contains_int(b off n c:Nat)(zs:List Int)(x:Int)(w:World)(hz:n≤zs.length)(hbig:n≤9223372036854775807)(hc:∀ j,j<zs.length→w.cell? ⟨b,off+j,none⟩=some (.int .i64 (zs.getD j 0))):
  Calls Tryz.prog 83 #[.slice (some ⟨b,off,none⟩) n c,.int .i64 x] w fun e w'=>e = .returned (.bool ((zs.take n).contains x))∧w'=w:=Any.slices_Contains_int Tryz.lays107 b off n c zs x w hz hbig hc
open Go.Lib in
theorem Tryz.slices_Contains_int_empty(a:Option Addr)(c:Nat)(x:Int)(w:World):
  Calls Tryz.prog 83 #[.slice a 0 c,.int .i64 x] w fun e w'=>e = .returned (.bool false)∧w'=w:=Any.slices_Contains_int_empty Tryz.lays107 a c x w
def Tryz.OT:Go.Shelf.Ren:=⟨fun | 6=>127 | 15=>140 | 14=>173 | 28=>191 | 29=>192 | 20=>206 | 21=>207 | 22=>208 | 23=>209 | 24=>210 | 25=>211 | 26=>212 | 27=>213 | 46=>231 | 47=>220 | 48=>221 | 49=>232 | 50=>233 | 57=>242 | n=>n,fun | 22=>22 | 24=>133 | 25=>238 | 3=>3 | 39=>233 | 0=>0 | 53=>49 | 55=>48 | 4=>4 | 46=>287 | 45=>286 | 50=>190 | 5=>5 | 9=>9 | 66=>313 | 70=>317 | 76=>334 | 77=>335 | n=>n,fun | n=>n⟩
theorem Tryz.Yb:Go.Proofs.SlLaysF0.n6 Tryz.prog Tryz.OT:={
 mixed:=by kernel_rfl
 f6:=⟨Tryz.f127.name,by decide,Tryz.func127.trans (congrArg some (by kernel_rfl))⟩
 f14:=⟨Tryz.f173.name,by decide,Tryz.func173.trans (congrArg some (by kernel_rfl))⟩
 f15:=Tryz.func140.trans (congrArg some (by kernel_rfl))
 f20:=⟨Tryz.f206.name,by decide,Tryz.func206.trans (congrArg some (by kernel_rfl))⟩
 f21:=⟨Tryz.f207.name,by decide,Tryz.func207.trans (congrArg some (by kernel_rfl))⟩
 f22:=⟨Tryz.f208.name,by decide,Tryz.func208.trans (congrArg some (by kernel_rfl))⟩
 f23:=⟨Tryz.f209.name,by decide,Tryz.func209.trans (congrArg some (by kernel_rfl))⟩
 f24:=⟨Tryz.f210.name,by decide,Tryz.func210.trans (congrArg some (by kernel_rfl))⟩
 f25:=⟨Tryz.f211.name,by decide,Tryz.func211.trans (congrArg some (by kernel_rfl))⟩
 f26:=⟨Tryz.f212.name,by decide,Tryz.func212.trans (congrArg some (by kernel_rfl))⟩
 f27:=⟨Tryz.f213.name,by decide,Tryz.func213.trans (congrArg some (by kernel_rfl))⟩
 f28:=Tryz.func191.trans (congrArg some (by kernel_rfl))
 f29:=Tryz.func192.trans (congrArg some (by kernel_rfl))
 f46:=⟨Tryz.f231.name,by decide,Tryz.func231.trans (congrArg some (by kernel_rfl))⟩
 f47:=Tryz.func220.trans (congrArg some (by kernel_rfl))
 f48:=Tryz.func221.trans (congrArg some (by kernel_rfl))
 f49:=⟨Tryz.f232.name,by decide,Tryz.func232.trans (congrArg some (by kernel_rfl))⟩
 f50:=⟨Tryz.f233.name,by decide,Tryz.func233.trans (congrArg some (by kernel_rfl))⟩
 f57:=⟨Tryz.f242.name,by decide,Tryz.func242.trans (congrArg some (by kernel_rfl))⟩
 t0:=Tryz.underlying0
 a0:=Tryz.isAgg0
 z0:=Tryz.sizeOf0
 v0:=Tryz.zeroValue0
 t3:=Tryz.underlying3
 a3:=Tryz.isAgg3
 z3:=Tryz.sizeOf3
 v3:=Tryz.zeroValue3
 t4:=Tryz.underlying4
 a4:=Tryz.isAgg4
 z4:=Tryz.sizeOf4
 v4:=Tryz.zeroValue4
 t5:=Tryz.underlying5
 a5:=Tryz.isAgg5
 z5:=Tryz.sizeOf5
 v5:=Tryz.zeroValue5
 t9:=Tryz.underlying9
 a9:=Tryz.isAgg9
 z9:=Tryz.sizeOf9
 v9:=Tryz.zeroValue9
 t22:=Tryz.underlying22
 a22:=Tryz.isAgg22
 z22:=Tryz.sizeOf22
 v22:=Tryz.zeroValue22
 t25:=Tryz.underlying238
 a25:=Tryz.isAgg238
 z25:=Tryz.sizeOf238
 v25:=Tryz.zeroValue238
 t39:=Tryz.underlying233
 a39:=Tryz.isAgg233
 z39:=Tryz.sizeOf233
 v39:=Tryz.zeroValue233
 t45:=Tryz.underlying286
 a45:=Tryz.isAgg286
 z45:=Tryz.sizeOf286
 v45:=Tryz.zeroValue286
 t46:=Tryz.underlying287
 a46:=Tryz.isAgg287
 z46:=Tryz.sizeOf287
 v46:=Tryz.zeroValue287
 t50:=Tryz.underlying190
 a50:=Tryz.isAgg190
 z50:=Tryz.sizeOf190
 v50:=Tryz.zeroValue190
 t53:=Tryz.underlying49
 a53:=Tryz.isAgg49
 z53:=Tryz.sizeOf49
 v53:=Tryz.zeroValue49
 t55:=Tryz.underlying48
 a55:=Tryz.isAgg48
 z55:=Tryz.sizeOf48
 v55:=Tryz.zeroValue48
 t66:=Tryz.underlying313
 a66:=Tryz.isAgg313
 z66:=Tryz.sizeOf313
 v66:=Tryz.zeroValue313
 t70:=Tryz.underlying317
 a70:=Tryz.isAgg317
 z70:=Tryz.sizeOf317
 v70:=Tryz.zeroValue317
 t76:=Tryz.underlying334
 a76:=Tryz.isAgg334
 z76:=Tryz.sizeOf334
 v76:=Tryz.zeroValue334
 t77:=Tryz.underlying335
 a77:=Tryz.isAgg335
 z77:=Tryz.sizeOf335
 v77:=Tryz.zeroValue335 }
def Tryz.II:Go.Shelf.Ren:=⟨fun | 6=>84 | 15=>140 | 14=>139 | 28=>191 | 29=>192 | 20=>183 | 21=>184 | 22=>185 | 23=>186 | 24=>187 | 25=>188 | 26=>189 | 27=>190 | 46=>219 | 47=>220 | 48=>221 | 49=>222 | 50=>223 | 57=>237 | n=>n,fun | 22=>96 | 24=>173 | 25=>177 | 3=>3 | 39=>233 | 0=>0 | 53=>49 | 55=>48 | 4=>4 | 46=>287 | 45=>286 | 50=>190 | 5=>5 | 9=>9 | 66=>313 | 70=>317 | 76=>334 | 77=>335 | n=>n,fun | n=>n⟩
theorem Tryz.Nz:Go.Proofs.SlLaysF0.n6 Tryz.prog Tryz.II:={
 mixed:=by kernel_rfl
 f6:=⟨Tryz.f84.name,by decide,Tryz.func84.trans (congrArg some (by kernel_rfl))⟩
 f14:=⟨Tryz.f139.name,by decide,Tryz.func139.trans (congrArg some (by kernel_rfl))⟩
 f15:=Tryz.func140.trans (congrArg some (by kernel_rfl))
 f20:=⟨Tryz.f183.name,by decide,Tryz.func183.trans (congrArg some (by kernel_rfl))⟩
 f21:=⟨Tryz.f184.name,by decide,Tryz.func184.trans (congrArg some (by kernel_rfl))⟩
 f22:=⟨Tryz.f185.name,by decide,Tryz.func185.trans (congrArg some (by kernel_rfl))⟩
 f23:=⟨Tryz.f186.name,by decide,Tryz.func186.trans (congrArg some (by kernel_rfl))⟩
 f24:=⟨Tryz.f187.name,by decide,Tryz.func187.trans (congrArg some (by kernel_rfl))⟩
 f25:=⟨Tryz.f188.name,by decide,Tryz.func188.trans (congrArg some (by kernel_rfl))⟩
 f26:=⟨Tryz.f189.name,by decide,Tryz.func189.trans (congrArg some (by kernel_rfl))⟩
 f27:=⟨Tryz.f190.name,by decide,Tryz.func190.trans (congrArg some (by kernel_rfl))⟩
 f28:=Tryz.func191.trans (congrArg some (by kernel_rfl))
 f29:=Tryz.func192.trans (congrArg some (by kernel_rfl))
 f46:=⟨Tryz.f219.name,by decide,Tryz.func219.trans (congrArg some (by kernel_rfl))⟩
 f47:=Tryz.func220.trans (congrArg some (by kernel_rfl))
 f48:=Tryz.func221.trans (congrArg some (by kernel_rfl))
 f49:=⟨Tryz.f222.name,by decide,Tryz.func222.trans (congrArg some (by kernel_rfl))⟩
 f50:=⟨Tryz.f223.name,by decide,Tryz.func223.trans (congrArg some (by kernel_rfl))⟩
 f57:=⟨Tryz.f237.name,by decide,Tryz.func237.trans (congrArg some (by kernel_rfl))⟩
 t0:=Tryz.underlying0
 a0:=Tryz.isAgg0
 z0:=Tryz.sizeOf0
 v0:=Tryz.zeroValue0
 t3:=Tryz.underlying3
 a3:=Tryz.isAgg3
 z3:=Tryz.sizeOf3
 v3:=Tryz.zeroValue3
 t4:=Tryz.underlying4
 a4:=Tryz.isAgg4
 z4:=Tryz.sizeOf4
 v4:=Tryz.zeroValue4
 t5:=Tryz.underlying5
 a5:=Tryz.isAgg5
 z5:=Tryz.sizeOf5
 v5:=Tryz.zeroValue5
 t9:=Tryz.underlying9
 a9:=Tryz.isAgg9
 z9:=Tryz.sizeOf9
 v9:=Tryz.zeroValue9
 t22:=Tryz.underlying96
 a22:=Tryz.isAgg96
 z22:=Tryz.sizeOf96
 v22:=Tryz.zeroValue96
 t25:=Tryz.underlying177
 a25:=Tryz.isAgg177
 z25:=Tryz.sizeOf177
 v25:=Tryz.zeroValue177
 t39:=Tryz.underlying233
 a39:=Tryz.isAgg233
 z39:=Tryz.sizeOf233
 v39:=Tryz.zeroValue233
 t45:=Tryz.underlying286
 a45:=Tryz.isAgg286
 z45:=Tryz.sizeOf286
 v45:=Tryz.zeroValue286
 t46:=Tryz.underlying287
 a46:=Tryz.isAgg287
 z46:=Tryz.sizeOf287
 v46:=Tryz.zeroValue287
 t50:=Tryz.underlying190
 a50:=Tryz.isAgg190
 z50:=Tryz.sizeOf190
 v50:=Tryz.zeroValue190
 t53:=Tryz.underlying49
 a53:=Tryz.isAgg49
 z53:=Tryz.sizeOf49
 v53:=Tryz.zeroValue49
 t55:=Tryz.underlying48
 a55:=Tryz.isAgg48
 z55:=Tryz.sizeOf48
 v55:=Tryz.zeroValue48
 t66:=Tryz.underlying313
 a66:=Tryz.isAgg313
 z66:=Tryz.sizeOf313
 v66:=Tryz.zeroValue313
 t70:=Tryz.underlying317
 a70:=Tryz.isAgg317
 z70:=Tryz.sizeOf317
 v70:=Tryz.zeroValue317
 t76:=Tryz.underlying334
 a76:=Tryz.isAgg334
 z76:=Tryz.sizeOf334
 v76:=Tryz.zeroValue334
 t77:=Tryz.underlying335
 a77:=Tryz.isAgg335
 z77:=Tryz.sizeOf335
 v77:=Tryz.zeroValue335 }
end Go.Proofs
/- Rows and changes as plain data: the order of keys, what is put, what goes, what is found. Of no program. -/
namespace Go.Proofs.YtmelaiefbpdifaaGreatDoor
open Go.RowKit
structure Ch where
 key:List UInt8
 val:List UInt8
 gone:Bool
structure Rw where
 key:List UInt8
 val:List UInt8
 at_:Nat
instance : Inhabited Ch := ⟨⟨[], [], false⟩⟩
instance : Inhabited Rw := ⟨⟨[], [], 0⟩⟩
theorem Ah(a b:UInt8):(a<b)↔a.toNat<b.toNat:=UInt8.lt_iff_toNat_lt
theorem xC:∀ a:List UInt8,bytesBefore a a=false
 | []=>rfl
 | x :: r=>by
  have h:¬x<x:=UInt8.lt_irrefl x
  simp [bytesBefore,h,xC r]
theorem xA:∀ a b c:List UInt8,bytesBefore a b=true→bytesBefore b c=true→bytesBefore a c=true
 | [],[],_,h,_=>by simp [bytesBefore] at h
 | [],_ :: _,[],_,h=>by simp [bytesBefore] at h
 | [],_ :: _,_ :: _,_,_=>rfl
 | _ :: _,[],_,h,_=>by simp [bytesBefore] at h
 | _ :: _,_ :: _,[],_,h=>by simp [bytesBefore] at h
 | x :: a,y :: b,z :: c,h1,h2=>by
  simp only [bytesBefore,Bool.or_eq_true,decide_eq_true_eq,Bool.and_eq_true,beq_iff_eq,Ah] at *
  rcases h1 with h1 | ⟨rfl,h1⟩
  ·rcases h2 with h2 | ⟨rfl,h2⟩
   ·left;omega
   ·left;exact h1
  ·rcases h2 with h2 | ⟨rfl,h2⟩
   ·left;exact h2
   ·right;exact⟨rfl,xA a b c h1 h2⟩
theorem xB:∀ a b:List UInt8,a≠b→bytesBefore a b=true∨bytesBefore b a=true
 | [],[],h=>absurd rfl h
 | [],_ :: _,_=>.inl rfl
 | _ :: _,[],_=>.inr rfl
 | x :: a,y :: b,h=>by
  simp only [bytesBefore,Bool.or_eq_true,decide_eq_true_eq,Bool.and_eq_true,beq_iff_eq,Ah]
  by_cases hxy:x=y
  ·subst hxy
   rcases xB a b (fun e=>h (by rw [e])) with h1 | h1
   ·exact .inl (.inr ⟨rfl,h1⟩)
   ·exact .inr (.inr ⟨rfl,h1⟩)
  ·have:x.toNat≠y.toNat:=fun e=>hxy (UInt8.toNat_inj.1 e)
   omega
theorem Hu(a b:List UInt8)(h:bytesBefore a b=true):bytesBefore b a=false:=by
 cases h2:bytesBefore b a
 ·rfl
 ·have:=xA a b a h h2
  rw [xC] at this
  cases this
theorem U7{a b:List UInt8}(h:bytesBefore a b=true):a≠b:=fun e=>by
 rw [e,xC] at h
 cases h
theorem YC:∀ a b:List UInt8,decide (Lib.compareBytes a b<0)=bytesBefore a b
 | [],[]=>by simp [Lib.compareBytes,bytesBefore]
 | [],_ :: _=>by simp [Lib.compareBytes,bytesBefore]
 | _ :: _,[]=>by simp [Lib.compareBytes,bytesBefore]
 | x :: a,y :: b=>by
  have ih:=YC a b
  simp only [Lib.compareBytes,bytesBefore]
  by_cases h1:x<y
  ·simp [h1]
  ·by_cases h2:y<x
   ·have h3:¬x=y:=fun e=>by subst e;exact UInt8.lt_irrefl x h2
    simp [h1,h2,h3]
   ·have h3:x=y:=by
     rw [Ah] at h1 h2
     exact UInt8.toNat_inj.1 (by omega)
    simp [h3,ih]
def Sorted(M:List Rw):Prop:=M.Pairwise fun a b=>bytesBefore a.key b.key=true
theorem Sorted.nil:Sorted []:=List.Pairwise.nil
theorem Sorted.keys{M:List Rw}(h:Sorted M):M.Pairwise fun a b=>a.key≠b.key:=h.imp fun h=>U7 h
theorem Sorted.inj{M:List Rw}(h:Sorted M){x y:Rw}(hx:x∈M)(hy:y∈M)(e:x.key=y.key):x=y:=by
 induction M with
 | nil=>cases hx
 | cons a r ih=>
  obtain⟨h1,h2⟩:=List.pairwise_cons.1 h
  rcases List.mem_cons.1 hx with hx' | hx'
  ·rcases List.mem_cons.1 hy with hy' | hy'
   ·rw [hx',hy']
   ·exact absurd e (by rw [hx'];exact U7 (h1 y hy'))
  ·rcases List.mem_cons.1 hy with hy' | hy'
   ·exact absurd e.symm (by rw [hy'];exact U7 (h1 x hx'))
   ·exact ih h2 hx' hy'
theorem Sorted.nodup{M:List Rw}(h:Sorted M):M.Nodup:=h.keys.imp fun h e=>h (by rw [e])
theorem Sorted.filter{M:List Rw}(h:Sorted M)(p:Rw→Bool):Sorted (M.filter p):=List.Pairwise.filter p h
theorem Di{M M':List Rw}(h:Sorted M)(h':Sorted M')(hp:M.Perm M'):M=M':=by
 unfold Sorted at h h'
 exact List.Perm.eq_of_pairwise (le:=fun a b:Rw=>bytesBefore a.key b.key=true) (fun a b _ _ h1 h2=>by rw [Hu _ _ h1] at h2;cases h2) h h' hp
theorem OO{M M':List Rw}(h:Sorted M)(h':Sorted M')(hm:∀ x,x∈M↔x∈M'):M=M':=
 Di h h' ((List.perm_ext_iff_of_nodup h.nodup h'.nodup).2 hm)
def xI(x:Rw):List Rw→List Rw
 | []=>[x]
 | y :: r=>if bytesBefore x.key y.key then x :: y :: r else y :: xI x r
def vN(M:List Rw)(k:List UInt8):List Rw:=M.filter fun r=>!(r.key==k)
def wG(M:List Rw)(x:Rw):List Rw:=xI x (vN M x.key)
def aK(M:List Rw)(k:List UInt8):Option Rw:=M.find? fun r=>r.key==k
theorem nG{x y:Rw}:∀ {M:List Rw},y∈xI x M↔y=x∨y∈M
 | []=>by simp [xI]
 | a :: r=>by
  unfold xI
  split
  ·simp
  ·rw [List.mem_cons,nG (M:=r),List.mem_cons]
   constructor
   ·rintro (h | h | h)<;>simp [h]
   ·rintro (h | h | h)<;>simp [h]
theorem zT{y:Rw}{M:List Rw}{k:List UInt8}:y∈vN M k↔y∈M∧y.key≠k:=by simp [vN]
theorem zS{x y:Rw}{M:List Rw}:y∈wG M x↔y=x∨(y∈M∧y.key≠x.key):=by rw [wG,nG,zT]
theorem pJ{x:Rw}:∀ {M:List Rw},Sorted M→(∀ y∈M,y.key≠x.key)→Sorted (xI x M)
 | [],_,_=>by simp [xI,Sorted]
 | a :: r,h,hn=>by
  obtain⟨h1,h2⟩:=List.pairwise_cons.1 h
  unfold xI
  split
  ·rename_i hx
   refine List.pairwise_cons.2 ⟨fun y hy=> ?_,h⟩
   rcases List.mem_cons.1 hy with rfl | hy
   ·exact hx
   ·exact xA _ _ _ hx (h1 y hy)
  ·rename_i hx
   refine List.pairwise_cons.2 ⟨fun y hy=> ?_,pJ h2 (fun y hy=>hn y (by simp [hy]))⟩
   rcases nG.1 hy with rfl | hy
   ·rcases xB _ _ (hn a (by simp)) with h3 | h3
    ·exact h3
    ·exact absurd h3 hx
   ·exact h1 y hy
theorem uK{M:List Rw}(h:Sorted M)(k:List UInt8):Sorted (vN M k):=h.filter _
theorem Ar{M:List Rw}(h:Sorted M)(x:Rw):Sorted (wG M x):=pJ (uK h _) fun _ hy=>(zT.1 hy).2
theorem bC{M:List Rw}{k:List UInt8}{r:Rw}(h:aK M k=some r):r∈M∧r.key=k:=by
 unfold aK at h
 exact⟨List.mem_of_find?_eq_some h,by simpa using List.find?_some h⟩
theorem dJ{M:List Rw}{k:List UInt8}:aK M k=none↔∀ r∈M,r.key≠k:=by
 unfold aK
 rw [List.find?_eq_none]
 simp
theorem nM{M:List Rw}(hs:Sorted M){r:Rw}(h:r∈M):aK M r.key=some r:=by
 cases hf:aK M r.key with
 | none=>exact absurd rfl (dJ.1 hf r h)
 | some x=>
  obtain⟨h1,h2⟩:=bC hf
  rw [hs.inj h1 h h2]
theorem wW{M:List Rw}(hs:Sorted M){k:List UInt8}{r:Rw}:aK M k=some r↔r∈M∧r.key=k:=
 ⟨bC,fun ⟨h1,h2⟩=>by rw [←h2];exact nM hs h1⟩
theorem jR(x:Rw):∀ M:List Rw,(xI x M).length=M.length+1
 | []=>rfl
 | a :: r=>by
  unfold xI
  split
  ·rfl
  ·rw [List.length_cons,jR x r,List.length_cons]
theorem Cj{M:List Rw}{k:List UInt8}(h:∀ r∈M,r.key≠k):vN M k=M:=by
 unfold vN
 rw [List.filter_eq_self]
 intro r hr
 simp [h r hr]
theorem MJ{M:List Rw}(hs:Sorted M){k:List UInt8}{r:Rw}(h:aK M k=some r):(vN M k).length+1=M.length:=by
 induction M with
 | nil=>simp [aK] at h
 | cons a l ih=>
  obtain⟨h1,h2⟩:=List.pairwise_cons.1 hs
  by_cases ha:a.key=k
  ·have hn:∀ r∈l,r.key≠k:=fun r hr e=>U7 (h1 r hr) (by rw [ha,e])
   have:vN (a :: l) k=l:=by
    have e:=Cj hn
    unfold vN at e ⊢
    rw [List.filter_cons_of_neg (by simp [ha]),e]
   rw [this,List.length_cons]
  ·have hf:aK l k=some r:=by
    unfold aK at h ⊢
    rwa [List.find?_cons_of_neg (by simp [ha])] at h
   have e:vN (a :: l) k=a :: vN l k:=by
    unfold vN
    rw [List.filter_cons_of_pos (by simp [ha])]
   rw [e,List.length_cons,ih h2 hf,List.length_cons]
theorem V3{M:List Rw}{x:Rw}(h:aK M x.key=none):(wG M x).length=M.length+1:=by
 rw [wG,jR,Cj (dJ.1 h)]
theorem VZ{M:List Rw}(hs:Sorted M){x r:Rw}(h:aK M x.key=some r):(wG M x).length=M.length:=by
 rw [wG,jR,MJ hs h]
def ent(r:Rw):Lit × DataW Unit:=(.string r.key,.agg [.lit (.int .i64 (r.at_:Int)),.lit (.string r.val)])
def mapD(M:List Rw):DataW Unit:=.map (M.map ent)
theorem EW(M:List Rw)(k:List UInt8):(M.map ent).filter (fun p=>!p.1.sameKey (.string k))=(vN M k).map ent:=by
 unfold vN
 rw [List.filter_map]
 rfl
theorem EC(x:Rw):∀ M:List Rw,DataW.insert (ent x) (M.map ent)=(xI x M).map ent
 | []=>rfl
 | a :: r=>by
  rw [List.map_cons,DataW.insert,xI]
  show (if bytesBefore x.key a.key then _ else _)=_
  split
  ·rfl
  ·rw [List.map_cons,EC x r]
theorem NQ(M:List Rw)(x:Rw):(mapD M).put (.string x.key) (.agg [.lit (.int .i64 (x.at_:Int)),.lit (.string x.val)])=mapD (wG M x):=by
 show DataW.map (DataW.insert (ent x) ((M.map ent).filter (fun p=>!p.1.sameKey (.string x.key))))=_
 rw [EW,EC]
 rfl
theorem WG(M:List Rw)(k:List UInt8):(mapD M).del (.string k)=mapD (vN M k):=by
 show DataW.map ((M.map ent).filter (fun p=>!p.1.sameKey (.string k)))=_
 rw [EW]
 rfl
theorem Ti(M:List Rw)(k:List UInt8):(M.map ent).find? (fun p=>p.1.sameKey (.string k))=(aK M k).map ent:=by
 unfold aK
 rw [List.find?_map]
 rfl
theorem Es(M:List Rw)(k:List UInt8)(z:DataW Unit):(mapD M).atKey (.string k) z=match aK M k with | some r=>(ent r).2 | none=>z:=by
 unfold mapD DataW.atKey
 simp only [Ti]
 cases aK M k<;>rfl
theorem Gh(M:List Rw)(k:List UInt8):Maps.has (mapD M) (.string k)=(aK M k).isSome:=by
 show (M.map ent).any (fun p=>p.1.sameKey (.string k))=_
 rw [Bool.eq_iff_iff,List.any_eq_true]
 constructor
 ·rintro⟨p,hp,hk⟩
  obtain⟨r,hr,rfl⟩:=List.mem_map.1 hp
  cases hf:aK M k with
  | some _=>rfl
  | none=>exact absurd (show r.key=k by simpa [ent,Lit.sameKey] using hk) (dJ.1 hf r hr)
 ·intro h
  obtain⟨r,hf⟩:=Option.isSome_iff_exists.1 h
  obtain⟨h1,h2⟩:=bC hf
  exact⟨ent r,List.mem_map.2 ⟨r,h1,rfl⟩,by simp [ent,Lit.sameKey,h2]⟩
theorem Bv(M:List Rw):Maps.size (mapD M)=M.length:=by
 show (M.map ent).length=_
 simp
def rowElem(v:Value):Option (DataW Unit × List MemPlace):=
 match v with
 | .agg cs=>match cs.toList with
  | [.int .i64 a,.string s]=>some (.agg [.lit (.int .i64 a),.lit (.string s.data.toList)],[])
  | _=>none
 | _=>none
theorem rowElem_mk(a:Int)(s:ByteArray):rowElem (.agg #[.int .i64 a,.string s])=some (.agg [.lit (.int .i64 a),.lit (.string s.data.toList)],[]):=rfl
theorem rowElem_inv{v:Value}{z:DataW Unit × List MemPlace}(h:rowElem v=some z):∃ a s,v = .agg #[.int .i64 a,.string s]∧z=(.agg [.lit (.int .i64 a),.lit (.string s.data.toList)],[]):=by
 unfold rowElem at h
 split at h
 ·rename_i cs
  split at h
  ·rename_i a s hcs
   injection h with h
   refine⟨a,s,?_,h.symm⟩
   have:cs = #[.int .i64 a,.string s]:=by rw [←Array.toArray_toList (xs:=cs),hcs]
   rw [this]
  ·cases h
 ·cases h
end Go.Proofs.YtmelaiefbpdifaaGreatDoor
/- Lists of blocks that are to be changed: opened to what lies in memory; whether they may be. -/
namespace Go.Proofs.YtmelaiefbpdifaaGreatDoor
open Go.RowKit Go.WideShapes Go.ChangeShapes Go.Deep
section
variable {H:Type}{enc:TypeId × Value→H}{P:Program}{w:World}{base:Nat}{spare:Nat→Bool}{held:Bool}
theorem QA{a:Addr}{v:Value}(h:w.cell? a=some v):a=⟨a.block,a.off,none⟩:=by
 obtain⟨b,o,s⟩:=a
 cases s with
 | none=>rfl
 | some x=>
  unfold World.cell? at h
  split at h
  ·simp at h
  ·cases h
theorem Ja{t e:TypeId}{fs:Array Field}{fuel:Nat}{cs:List Value}{x:DataW H × List MemPlace}(ht:P.underlying t=some (.slice e))(he:P.underlying e=some (.struct fs))
  (hone:oneCellFields P fs=true) (hC:P.cellsOf e=fs.size) (hpos:0<fs.size) (h:DataW.trod enc P w base spare held fuel t cs=some x):
  cs = [.slice none 0 0]∨∃ (A:Option Addr) (len cap:Nat),cs = [.slice A len cap]∧(len≤maxLen∧len≤cap) ∧
   (len=0∨∃ g o,A=some ⟨g,o,none⟩∧g<w.heap.size∧∀ i,i<len→∀ (j:Nat) (f:Field),fs[j]?=some f →
    ∃ (n:Nat) (v:Value) (y:DataW H × List MemPlace),w.cell? ⟨g,o+i*fs.size+j,none⟩=some v∧DataW.trod enc P w base spare held n f.type [v]=some y):=by
 rcases open_slice ht h with h0 | ⟨a,len,cap,m,n,D,Pl,hcs,hb,hl,hm,hmm,_,hi⟩
 ·exact .inl h0.1
 right
 refine⟨some a,len,cap,hcs,⟨by omega,hl⟩,?_⟩
 by_cases hz:len=0
 ·exact .inl hz
 right
 have hlm:∀ i,i<len→i<m:=fun i hi'=>by rw [hmm];split<;>omega
 have cell0:∃ v,w.cell? a=some v:=by
  obtain⟨cs',hc,_⟩:=hi 0 (hlm 0 (by omega))
  obtain⟨_,hcl,hat⟩:=World.cells?_some hc
  have:=hat 0 (by omega)
  rw [Nat.zero_mul] at this
  have hadd:(a.add 0).add 0=a:=by simp [Addr.add]
  rw [hadd] at this
  exact⟨_,this.trans (List.getElem?_eq_getElem (by omega))⟩
 obtain⟨v0,hv0⟩:=cell0
 have hap:=QA hv0
 refine⟨a.block,a.off,by rw [←hap],World.block_lt_of_cell? w a hv0,fun i hil j f hj=> ?_⟩
 obtain⟨cs',hc,ht'⟩:=hi i (hlm i hil)
 obtain⟨ys,n',_,_,hlen',hyl,hf⟩:=DataW.trod_struct he ht'
 obtain⟨_,hcl,hat⟩:=World.cells?_some hc
 obtain⟨ho,hk⟩:=hone_of hone j f hj
 have hjl:j<fs.size:=(Array.getElem?_eq_some_iff.1 hj).1
 have hcell:=hat j (by omega)
 have hcj:j<cs'.length:=by omega
 have h1:=hf j f hj
 rw [ho,hk,List.drop_eq_getElem_cons hcj] at h1
 refine⟨n',cs'[j],ys[j]'(by omega),?_,?_⟩
 ·rw [hap,addr_add,hC,addr_add,List.getElem?_eq_getElem hcj] at hcell
  exact hcell
 ·rw [List.getElem?_eq_getElem (by omega)] at h1
  exact h1
end
structure Bk where
 at_:Int
 data:List UInt8
def Bk.okay(x:Bk):Prop:=(-9223372036854775808≤x.at_∧x.at_≤9223372036854775807)∧x.data.length≤9223372036854775807
def OA(w:World)(g o:Nat)(l:List Bk):Prop:=∀ i (h:i<l.length),w.cell? ⟨g,o+i*2,none⟩=some (.int .i64 l[i].at_)∧w.cell? ⟨g,o+i*2+1,none⟩=some (.string (strOf l[i].data))
def Fq(w:World)(A:Option Addr)(l:List Bk):Prop:=(l = []∨∃ g o,A=some ⟨g,o,none⟩∧g<w.heap.size∧OA w g o l)∧∀ x∈l,x.okay
theorem Fq.kept{S:List Nat}{w w':World}{A:Option Addr}{l:List Bk}(h:Fq w A l)(k:Only S w w')(hA:∀ a,A=some a→a.block∉S):Fq w' A l:=by
 refine⟨h.1.imp id ?_,h.2⟩
 rintro⟨g,o,rfl,hg,hc⟩
 have hS:=hA _ rfl
 exact⟨g,o,rfl,Nat.lt_of_lt_of_le hg k.size,fun i hi=>⟨k.cell (hc i hi).1 hS,k.cell (hc i hi).2 hS⟩⟩
theorem Fq.get{w:World}{A:Option Addr}{l:List Bk}(h:Fq w A l){i:Nat}(hi:i<l.length):∃ g o,A=some ⟨g,o,none⟩∧g<w.heap.size∧OA w g o l:=by
 rcases h.1 with rfl | h
 ·simp at hi
 ·exact h
section
variable {H:Type}{enc:TypeId × Value→H}{w:World}
end
def lV(l:List Bk)(size:Int)(i:Nat):Prop:=∀ x,l[i]?=some x→0≤x.at_∧x.at_<size∧x.data.length≤248∧∀ k y,k<i→l[k]?=some y→y.at_≠x.at_
def dn(l:List Bk)(size:Int):Prop:=1≤l.length∧l.length≤40∧∀ i,i<l.length→lV l size i
def Says(P:Prop)(e:Ending):Prop:=∃ r:Bool,e = .returned (.bool r)∧(r=true↔P)
theorem Says.no{P:Prop}(h:¬P):Says P (.returned (.bool false)):=⟨false,rfl,by simp [h]⟩
theorem Says.yes{P:Prop}(h:P):Says P (.returned (.bool true)):=⟨true,rfl,by simp [h]⟩
set_option maxRecDepth 100000 in
set_option maxHeartbeats 2000000 in
theorem fQ(w:World)(A:Option Addr)(c:Nat)(l:List Bk)(size:Int)(h:Fq w A l)(hl:l.length≤9223372036854775807):
  Calls Tryz.prog 153 #[.slice A l.length c,.int .i64 size] w fun e w'=>Says (dn l size) e∧Only [] w w':=by
 by_cases h1:l.length<1
 ·have hno:Hid (¬dn l size):=fun h=>by have:=h.1;omega
  have h1':(l.length:Int)<1:=by omega
  go_enter Tryz.func153,Tryz.ntmps153
  go_wp2
  go_ret
  exact⟨Says.no (show ¬dn l size from hno),Only.refl _ _⟩
 by_cases h2:40<l.length
 ·have hno:Hid (¬dn l size):=fun h=>by have:=h.2.1;omega
  have h1':¬(l.length:Int)<1:=by omega
  have h2':(40:Int)<(l.length:Int):=by omega
  go_enter Tryz.func153,Tryz.ntmps153
  go_wp2
  go_ret
  exact⟨Says.no (show ¬dn l size from hno),Only.refl _ _⟩
 have h1':¬(l.length:Int)<1:=by omega
 have h2':¬(40:Int)<(l.length:Int):=by omega
 go_enter Tryz.func153,Tryz.ntmps153
 go_wp2_with fail
 go_loopw [5] (fun i wr=>∃ n:Nat,n≤l.length∧i = .int .i64 n∧(∀ j,j<n→lV l size j)∧Only [] w wr) (fun i _=>l.length-(intOf i).toNat)
 case atStart=>exact⟨0,Nat.zero_le _,rfl,by omega,Only.refl _ _⟩
 case round=>
  obtain⟨n,hn,rfl,hgood,hk⟩:=hrel
  by_cases hlt:n<l.length
  ·obtain⟨g,o,rfl,hg,hat⟩:=h.get hlt
   have hx:l[n]?=some l[n]:=List.getElem?_eq_getElem hlt
   have c0:=hk.cell (hat n hlt).1 (by simp)
   have c1:=hk.cell (hat n hlt).2 (by simp)
   have hsz:(strOf l[n].data).size=l[n].data.length:=aj _
   have hgx:=hgood
   obtain⟨x,hxx⟩:∃ x,x=l[n]:=⟨_,rfl⟩
   rw [←hxx] at hx c0 c1 hsz
   replace hxx:=Lib.hid hxx
   obtain⟨at_,data⟩:=x
   simp only at c0 c1 hsz
   generalize strOf data=s at *
   by_cases a1:at_<0
   ·have hno:Hid (¬dn l size):=fun h=>by
     have:=(h.2.2 n hlt _ hx).1
     simp only at this
     omega
    clear hgx hgood
    go_wp2
    go_ret
    exact⟨Says.no (show ¬dn l size from hno),hk⟩
   by_cases a2:size≤at_
   ·have hno:Hid (¬dn l size):=fun h=>by
     have:=(h.2.2 n hlt _ hx).2.1
     simp only at this
     omega
    clear hgx hgood
    go_wp2
    go_ret
    exact⟨Says.no (show ¬dn l size from hno),hk⟩
   by_cases a3:248<data.length
   ·have hno:Hid (¬dn l size):=fun h=>by
     have:=(h.2.2 n hlt _ hx).2.2.1
     simp only at this
     omega
    have a3':(248:Int)<(s.size:Int):=by omega
    clear hgx hgood
    go_wp2
    go_ret
    exact⟨Says.no (show ¬dn l size from hno),hk⟩
   have a3':¬(248:Int)<(s.size:Int):=by omega
   replace hsz:=Lib.hid hsz
   replace hgood:=Lib.hid hgood
   clear hgx
   go_wp2_with fail
   go_loopw [6] (fun i wr=>∃ m:Nat,m≤n∧i = .int .i64 m∧(∀ k y,k<m→l[k]?=some y→y.at_≠at_)∧Only [] w wr) (fun i _=>n-(intOf i).toNat)
   case atStart=>exact⟨0,Nat.zero_le _,rfl,by omega,hk⟩
   case round=>
    clear hk c0 c1
    obtain⟨m,hm,rfl,hdiff,hk⟩:=hrel
    by_cases hlt2:m<n
    ·have hml:m<l.length:=by omega
     have hy:l[m]?=some l[m]:=List.getElem?_eq_getElem hml
     have c0:=hk.cell (hat m hml).1 (by simp)
     have d0:=hk.cell (hat n hlt).1 (by simp)
     rw [←hxx.out] at d0
     simp only at d0
     generalize l[m]=y at *
     obtain⟨aty,dy⟩:=y
     simp only at c0
     by_cases e:aty=at_
     ·have hno:Hid (¬dn l size):=fun h=>(h.2.2 n hlt _ hx).2.2.2 m _ hlt2 hy e
      subst e
      clear hdiff
      go_wp2
      go_quiet (fail)
      go_wp2
      go_ret
      exact⟨Says.no (show ¬dn l size from hno),hk.drewN _⟩
     ·have aaW:Hid (∀ k y,k<m+1→l[k]?=some y→y.at_≠at_):=fun k y hkm hky=>by
       by_cases hkk:k=m
       ·subst hkk
        rw [hy] at hky
        injection hky with hky
        subst hky
        exact e
       ·exact hdiff k y (by omega) hky
      clear hdiff
      go_wp2
      go_quiet (fail)
      go_wp2
      go_roundw
      case rel=>exact⟨m+1,by omega,by go_num,aaW,hk.drewN _⟩
      case measure=>simp [intOf];omega
    ·have hmn:m=n:=by omega
     subst hmn
     have Ue:Hid (∀ j,j<m+1→lV l size j):=fun j hj=>by
      by_cases hjm:j=m
      ·subst hjm
       intro z hz
       rw [hx] at hz
       injection hz with hz
       subst hz
       exact⟨by simp only;omega,by simp only;omega,by simp only;omega,hdiff⟩
      ·exact hgood.out j (by omega)
     clear hdiff
     go_wp2
     go_roundw
     case rel=>exact⟨m+1,by omega,by go_num,Ue,hk⟩
     case measure=>simp [intOf];omega
  ·have hyes:Hid (dn l size):=⟨by omega,by omega,fun i hi=>hgood i (by omega)⟩
   have hge:(l.length:Int)≤n:=by omega
   go_wp2
   go_ret
   exact⟨Says.yes (show dn l size from hyes),hk⟩
end Go.Proofs.YtmelaiefbpdifaaGreatDoor
/- A row's data: zero, isKey, dataOf, rowOf; and what they say of bytes. -/
namespace Go.Proofs.YtmelaiefbpdifaaGreatDoor
open Go.RowKit
def oM(k:List UInt8):Bool:=decide (1≤k.length∧k.length≤16)
def bM(l:List UInt8):Bool:=l.all (· == 0)
theorem dropWhile_nil:∀ l:List UInt8,(l.dropWhile (· == 0) = [])↔bM l=true
 | []=>by simp [bM]
 | a :: r=>by
  by_cases h:a=0
  ·subst h
   simpa [bM] using dropWhile_nil r
  ·simp [bM,h]
theorem kD:∀ l:List UInt8,bM (l.dropWhile (· == 0))=bM l
 | []=>rfl
 | a :: r=>by
  by_cases h:a=0
  ·subst h
   simpa [bM] using kD r
  ·simp [h]
theorem rC(l:List UInt8):bM l.reverse=bM l:=by simp [bM]
theorem QS(l:List UInt8):(Lib.trimB l 0 = [])↔bM l=true:=by
 unfold Lib.trimB Lib.trimLeftB Lib.trimRightB
 rw [dropWhile_nil,rC,kD,rC]
theorem Ib(w:World)(l:List UInt8)(hl:l.length≤1048576):
  Calls Tryz.prog 76 #[.string (strOf l)] w fun e w'=>e = .returned (.bool (bM l))∧Only [] w w':=by
 have ht:=fun W=>Tryz.strings_Trim_one (strOf l) 0 (by decide) W (by rw [aj];omega)
 rw [dh] at ht
 have hz:(⟨(Lib.trimB l 0).toArray⟩:ByteArray).toList.isEmpty=bM l:=by
  rw [ByteArray.toList_mk,Bool.eq_iff_iff,List.isEmpty_iff]
  exact QS l
 generalize bM l=b at *
 generalize (⟨(Lib.trimB l 0).toArray⟩:ByteArray)=T at *
 replace hz:=Lib.hid hz
 generalize strOf l=s at *
 replace ht:=Lib.hid ht
 go_enter Tryz.func76,Tryz.ntmps76
 go_wp2_with fail
 refine (ht.out _).mono ?_
 rintro e w1 ⟨rfl,k⟩
 have k1:Only [] w w1:=by
  rcases k with rfl | rfl
  ·exact Only.refl _ _
  ·exact (Only.refl [] w).drew
 clear k
 go_wp2
 go_ret
 exact⟨by rw [←hz.out];rfl,k1⟩
theorem Ju(w:World)(k:List UInt8)(hl:k.length≤9223372036854775807):
  Calls Tryz.prog 79 #[.string (strOf k)] w fun e w'=>e = .returned (.bool (oM k))∧w'=w:=by
 have hs:=aj k
 unfold oM
 generalize k.length=n at *
 generalize strOf k=s at *
 subst hs
 by_cases h1:1≤s.size
 ·have e:decide (1≤s.size∧s.size≤16)=decide ((s.size:Int)≤16):=by
   rw [Bool.eq_iff_iff];simp [h1];omega
  rw [e]
  go_enter Tryz.func79,Tryz.ntmps79
  go_wp2
  go_ret
  exact⟨by simp,rfl⟩
 ·have e:decide (1≤s.size∧s.size≤16)=false:=by simp [h1]
  rw [e]
  have h0:s.size=0:=by omega
  go_enter Tryz.func79,Tryz.ntmps79
  go_wp2
  go_ret
  exact⟨by simp,rfl⟩
def Dk(k v:List UInt8):List UInt8:=be4 1++zM k++zM v
def G6(c:Ch):List UInt8:=if c.gone then [] else Dk c.key c.val
theorem AO(k v:List UInt8):(Dk k v).length=12+k.length+jf k.length+v.length+jf v.length:=by
 simp [Dk,aU,mD]
 omega
set_option maxRecDepth 100000 in
theorem Qm(w:World)(c:Ch)(hk:c.key.length≤16)(hv:c.val.length≤200):
  Calls Tryz.prog 91 #[.agg #[.string (strOf c.key),.string (strOf c.val),.bool c.gone]] w fun e w'=>e = .returned (.string (strOf (G6 c)))∧Only [] w w':=by
 obtain⟨key,val,gone⟩:=c
 simp only at hk hv ⊢
 have k0:∀ g,Only [] w (w.alloc (.cells #[.string (strOf key),.string (strOf val),.bool g] 133)):=fun g=>(Only.refl [] w).alloc _
 cases gone with
 | true=>
  have e:G6 ⟨key,val,true⟩ = []:=rfl
  rw [e]
  have kk:=k0 true
  generalize strOf key=ks at *
  generalize strOf val=vs at *
  clear k0
  go_enter Tryz.func91,Tryz.ntmps91
  go_wp2
  go_ret
  exact⟨rfl,kk⟩
 | false=>
  have e:G6 ⟨key,val,false⟩=Dk key val:=rfl
  rw [e]
  have kk:=k0 false
  have bk:=Blk.new w 133 #[.string (strOf key),.string (strOf val),.bool false]
  have sk:=dh key
  have sv:=dh val
  have zk:=aj key
  have zv:=aj val
  have pk:=nT key.length
  have pv:=nT val.length
  have le:=mD key
  have hfin:be4 1++zM key++zM val=Dk key val:=rfl
  generalize Dk key val=R at *
  generalize strOf key=ks at *
  generalize strOf val=vs at *
  have c0:=bk.cell 0
  have c1:=bk.cell 1
  have c2:=bk.cell 2
  simp only [List.getElem?_toArray,List.getElem?_cons_zero,List.getElem?_cons_succ] at c0 c1 c2
  replace hfin:=Lib.hid hfin
  replace sk:=Lib.hid sk
  replace sv:=Lib.hid sv
  replace zk:=Lib.hid zk
  replace zv:=Lib.hid zv
  replace le:=Lib.hid le
  clear k0 bk
  go_enter Tryz.func91,Tryz.ntmps91
  go_wp2_with fail
  generalize hw1:w.alloc (.cells #[.string ks,.string vs,.bool false] 133)=w1 at *
  have hs1:w1.heap.size=w.heap.size+1:=by rw [←hw1];simp
  obtain⟨q,hq⟩:∃ q,q=w.heap.size:=⟨_,rfl⟩
  rw [←hq] at c0 c1 c2 hs1 ⊢
  replace hw1:=Lib.hid hw1
  replace hq:=Lib.hid hq
  have k2:Only [] w1 (w1.alloc (.cells #[.slice none 0 0] 249)):=(Only.refl [] w1).alloc _
  have b2:Blk (w1.alloc (.cells #[.slice none 0 0] 249)) w1.heap.size 249 #[.slice none 0 0]:=Blk.new _ _ _
  have hwr:Wr (w1.alloc (.cells #[.slice none 0 0] 249)) w1.heap.size [] []:=⟨.slice none 0 0,b2,⟨by simp [ak],.inl ⟨rfl,rfl⟩⟩,by simp [Value.ownBlock],by simp [Value.ownBlock]⟩
  have d0:=k2.cell c0 (by simp)
  have d1:=k2.cell c1 (by simp)
  obtain⟨p,hp⟩:∃ p,p=q+1:=⟨_,rfl⟩
  rw [hs1,←hp] at hwr
  rw [←hp]
  have hqp:q≠p:=by omega
  have hpw:w.heap.size≤p:=by have:=hq.out;omega
  generalize hw2:w1.alloc (.cells #[.slice none 0 0] 249)=w2 at *
  replace hw2:=Lib.hid hw2
  replace hp:=Lib.hid hp
  replace hs1:=Lib.hid hs1
  have k02:=kk.trans k2
  clear b2 c0 c1 c2 k2 kk
  refine (gB _ p [] [] 1 1 rfl (by decide) hwr (by simp)).mono ?_
  rintro e w3 ⟨rfl,F3,h3,k3,hF3⟩
  have hp2:p<w2.heap.size:=hwr.lt
  have hq2:q<w2.heap.size:=by have:=hp.out;omega
  have aer:q∉p :: F3:=by
   intro hm
   rcases List.mem_cons.1 hm with h | h
   ·exact hqp h
   ·rcases hF3 q h with h | h
    ·cases h
    ·omega
  have e0:=k3.cell d0 (by simpa using hqp)
  have e1:=k3.cell d1 (by simpa using hqp)
  have hq3:=Nat.lt_of_lt_of_le hq2 k3.size
  have k03:Only [] w w3:=k02.then k3 (by simp;exact hpw)
  replace hF3:=Lib.hid hF3
  clear hwr d0 d1 k3 k02
  go_wp2_with fail
  refine (Ad _ p F3 _ ks h3 (by rw [zk.out];simp [aU];omega)).mono ?_
  rintro e w4 ⟨rfl,F4,h4,k4,hF4⟩
  rw [sk.out] at h4
  have f1:=k4.cell e1 (by simpa using aer)
  have ad1:∀ i∈p :: F3,w.heap.size≤i:=fun i hi=>by
   rcases List.mem_cons.1 hi with rfl | hi
   ·exact hpw
   ·rcases hF3.out i hi with h | h
    ·cases h
    ·have:=hp2;have:=hp.out;have:=hq.out;omega
  have k04:Only [] w w4:=k03.then k4 (fun i hi=>.inr (ad1 i hi))
  clear h3 e0 e1 k4 k03
  go_wp2_with fail
  refine (Ad _ p F4 _ vs h4 (by rw [zv.out];simp [aU,le.out];omega)).mono ?_
  rintro e w5 ⟨rfl,F5,h5,k5,hF5⟩
  rw [sv.out] at h5
  have ae1:∀ i∈p :: F4,w.heap.size≤i:=fun i hi=>by
   rcases List.mem_cons.1 hi with rfl | hi
   ·exact hpw
   ·rcases hF4 i hi with h | h
    ·exact ad1 i (by simp [h])
    ·have:=hq3;have:=hq.out;omega
  have k05:Only [] w w5:=k04.then k5 (fun i hi=>.inr (ae1 i hi))
  rw [List.nil_append,hfin.out] at h5
  clear h4 f1 k5 k04
  go_wp2_with fail
  refine (mJ _ p F5 _ h5).mono ?_
  rintro e w6 ⟨rfl,rfl⟩
  clear h5
  go_wp2
  go_ret
  exact⟨rfl,k05⟩
def gu(d:List UInt8):Nat × List UInt8 × Nat:=bP d 0
def dB(d:List UInt8):List UInt8 × List UInt8 × Nat:=ig 16 (gu d).2.1 (gu d).2.2
def dO(d:List UInt8):List UInt8 × List UInt8 × Nat:=ig 200 (dB d).2.1 (dB d).2.2
def goodD(d:List UInt8):Bool:=((dO d).2.2==0 && (gu d).1==1) && (oM (dB d).1 && bM (dO d).2.1)
def qE(d:List UInt8):Option (List UInt8 × List UInt8):=if goodD d then some ((dB d).1,(dO d).1) else none
def AL(d:List UInt8):Value:=match qE d with
 | some x=>.tuple #[.string (strOf x.1),.string (strOf x.2),.bool true]
 | none=>.tuple #[.string ⟨#[]⟩,.string ⟨#[]⟩,.bool false]
theorem Dn(d:List UInt8)(e:Nat):(bP d e).2.1 <:+ d:=by
 unfold bP
 split
 ·exact List.suffix_refl _
 ·split
  ·exact List.suffix_refl _
  ·exact List.drop_suffix _ _
theorem yT(m:Int)(d:List UInt8)(e:Nat):(ig m d e).2.1 <:+ d:=by
 unfold ig
 repeat (first | exact List.suffix_refl _ | exact List.drop_suffix _ _ | split)
theorem KX(d:List UInt8):(dO d).2.1 <:+ d:=(yT _ _ _).trans ((yT _ _ _).trans (Dn _ _))
end Go.Proofs.YtmelaiefbpdifaaGreatDoor
/- rowOf: what a row's data say. -/
namespace Go.Proofs.YtmelaiefbpdifaaGreatDoor
open Go.RowKit
set_option maxRecDepth 100000 in
set_option maxHeartbeats 1000000 in
theorem RJ(w:World)(d:List UInt8)(hl:d.length≤1048576):
  Calls Tryz.prog 77 #[.string (strOf d)] w fun e w'=>e = .returned (AL d)∧Only [] w w':=by
 have hnew:∀ W,Calls Tryz.prog 116 #[.string (strOf d)] W (Oz W d):=fun W=>by
  have:=jr W (strOf d) (by rw [aj];omega)
  rwa [dh] at this
 have hn:=fun W p g h=>pO W p g d 0 h
 have ht:=fun W p g h=>AA W p g (gu d).2.1 (gu d).2.2 16 (by decide) h
 have hu:=fun W p g h=>AA W p g (dB d).2.1 (dB d).2.2 200 (by decide) h
 have hkl:(dB d).1.length≤9223372036854775807:=by
  have:=IY 16 (gu d).2.1 (gu d).2.2
  unfold dB
  unfold ig
  split
  ·simp
  ·repeat (first | (split;simp) | (simp;have:=uq (gu d).2.1;omega))
 have hik:=fun W=>Ju W (dB d).1 hkl
 have abZ:=KX d
 have hzl:(dO d).2.1.length≤d.length:=abZ.length_le
 have hdrop:d.drop (d.length-(dO d).2.1.length)=(dO d).2.1:=(List.suffix_iff_eq_drop.1 abZ).symm
 have hex:(strOf d).extract (d.length-(dO d).2.1.length) d.length=strOf (dO d).2.1:=by
  show (ByteArray.mk d.toArray).extract _ _=_
  rw [ByteArray.extract_mk,List.take_of_length_le (by simp),hdrop]
  rfl
 have hze:=fun W=>Ib W (dO d).2.1 (by omega)
 have hgood:goodD d=(((dO d).2.2==0 && (gu d).1==1) && (oM (dB d).1 && bM (dO d).2.1)):=rfl
 have hval:AL d=if goodD d then .tuple #[.string (strOf (dB d).1),.string (strOf (dO d).1),.bool true] else .tuple #[.string ⟨#[]⟩,.string ⟨#[]⟩,.bool false]:=by
  unfold AL qE
  cases goodD d<;>rfl
 rw [hval,hgood]
 change ∀ W p g,Rd W p g d 0→Calls _ _ _ W (KC W p g (.int .u32 ((gu d).1:Int)) (gu d).2.1 (gu d).2.2) at hn
 change ∀ W p g,Rd W p g (gu d).2.1 (gu d).2.2→Calls _ _ _ W (KC W p g (.string (strOf (dB d).1)) (dB d).2.1 (dB d).2.2) at ht
 change ∀ W p g,Rd W p g (dB d).2.1 (dB d).2.2→Calls _ _ _ W (KC W p g (.string (strOf (dO d).1)) (dO d).2.1 (dO d).2.2) at hu
 have hR:(gu d).1<4294967296:=by
  unfold gu bP
  split
  ·simp
  ·split
   ·simp
   ·exact uq _
 have hsz:(strOf d).size=d.length:=aj d
 have hlI:(d.length:Int)≤1048576:=by omega
 have hzI:((dO d).2.1.length:Int)≤(d.length:Int):=by omega
 clear hgood hval abZ hdrop hl hzl hkl
 generalize gu d=R at *
 generalize dB d=K at *
 generalize dO d=V at *
 obtain⟨n,r1,e1⟩:=R
 obtain⟨k,r2,e2⟩:=K
 obtain⟨v,r3,e3⟩:=V
 simp only at *
 generalize oM k=bk at *
 generalize bM r3=bz at *
 generalize strOf k=ks at *
 generalize strOf v=vs at *
 generalize strOf r3=rs at *
 generalize hds:strOf d=ds at *
 replace hex:=Lib.hid hex
 replace hnew:=Lib.hid hnew
 replace hn:=Lib.hid hn
 replace ht:=Lib.hid ht
 replace hu:=Lib.hid hu
 replace hik:=Lib.hid hik
 replace hze:=Lib.hid hze
 replace hds:=Lib.hid hds
 have hRI:((n:Nat):Int)<4294967296:=by omega
 clear hR
 by_cases hcase:e3=0∧n=1
 ·obtain⟨rfl,rfl⟩:=hcase
  cases bk with
  | false=>
   go_enter Tryz.func77,Tryz.ntmps77
   go_wp2_with fail
   refine (hnew.out _).mono ?_
   rintro e w2 ⟨p,g,rfl,hrd,hp,hg,k2,hg2⟩
   go_wp2_with fail
   refine (hn.out _ p g hrd).mono ?_
   rintro e w3 ⟨rfl,Dv,k3⟩
   go_wp2_with fail
   refine (ht.out _ p g Dv).mono ?_
   rintro e w4 ⟨rfl,LZ,k4⟩
   go_wp2_with fail
   refine (hu.out _ p g LZ).mono ?_
   rintro e w5 ⟨rfl,⟨o5,c5,QG⟩,k5⟩
   have dw:Only [] w w5:=((k2.then k3 (by simp;omega)).then k4 (by simp;omega)).then k5 (by simp;omega)
   go_wp2_with fail
   refine (og _ p g o5 c5 _ _ QG).mono ?_
   rintro e w6 ⟨rfl,rfl⟩
   clear hrd Dv LZ k2 k3 k4 k5
   go_wp2_with fail
   refine (hik.out _).mono ?_
   rintro e w7 ⟨rfl,rfl⟩
   clear QG
   go_wp2
   go_ret3
   exact⟨rfl,dw⟩
  | true=>
   go_enter Tryz.func77,Tryz.ntmps77
   go_wp2_with fail
   refine (hnew.out _).mono ?_
   rintro e w2 ⟨p,g,rfl,hrd,hp,hg,k2,hg2⟩
   go_wp2_with fail
   refine (hn.out _ p g hrd).mono ?_
   rintro e w3 ⟨rfl,Dv,k3⟩
   go_wp2_with fail
   refine (ht.out _ p g Dv).mono ?_
   rintro e w4 ⟨rfl,LZ,k4⟩
   go_wp2_with fail
   refine (hu.out _ p g LZ).mono ?_
   rintro e w5 ⟨rfl,⟨o5,c5,QG⟩,k5⟩
   have dw:Only [] w w5:=((k2.then k3 (by simp;omega)).then k4 (by simp;omega)).then k5 (by simp;omega)
   clear hrd Dv LZ k2 k3 k4 k5
   go_wp2_with fail
   refine (og _ p g o5 c5 _ _ QG).mono ?_
   rintro e w6 ⟨rfl,rfl⟩
   go_wp2_with fail
   refine (hik.out _).mono ?_
   rintro e w7 ⟨rfl,rfl⟩
   go_wp2_with fail
   refine (Gl _ p g o5 c5 _ _ QG).mono ?_
   rintro e w8 ⟨rfl,rfl⟩
   clear QG
   go_wp2_with fail
   rw [hex.out]
   refine (hze.out _).mono ?_
   rintro e w9 ⟨rfl,k9⟩
   have aay:=dw.trans k9
   clear dw k9
   cases bz
   ·go_wp2
    go_ret3
    exact⟨rfl,aay⟩
   ·go_wp2
    go_ret3
    exact⟨rfl,aay⟩
 ·have hno:(((e3==0) && (n==1)) && (bk && bz))=false:=by
   by_cases h3:e3=0
   ·have h1:¬n=1:=fun h=>hcase ⟨h3,h⟩
    simp [h1]
   ·simp [h3]
  rw [hno]
  by_cases h3:e3=0
  ·have h1:((n:Int)==1)=false:=by
    have h1:¬n=1:=fun h=>hcase ⟨h3,h⟩
    simp
    omega
   have h1':((n:Int) != 1)=true:=by rw [bne,h1];rfl
   subst h3
   clear hcase hno
   generalize (n:Int)=y at *
   go_enter Tryz.func77,Tryz.ntmps77
   go_wp2_with fail
   refine (hnew.out _).mono ?_
   rintro e w2 ⟨p,g,rfl,hrd,hp,hg,k2,hg2⟩
   go_wp2_with fail
   refine (hn.out _ p g hrd).mono ?_
   rintro e w3 ⟨rfl,Dv,k3⟩
   go_wp2_with fail
   refine (ht.out _ p g Dv).mono ?_
   rintro e w4 ⟨rfl,LZ,k4⟩
   go_wp2_with fail
   refine (hu.out _ p g LZ).mono ?_
   rintro e w5 ⟨rfl,⟨o5,c5,QG⟩,k5⟩
   have dw:Only [] w w5:=((k2.then k3 (by simp;omega)).then k4 (by simp;omega)).then k5 (by simp;omega)
   clear hrd Dv LZ k2 k3 k4 k5
   go_wp2_with fail
   refine (og _ p g o5 c5 _ _ QG).mono ?_
   rintro e w6 ⟨rfl,rfl⟩
   clear QG
   go_wp2
   go_ret3
   exact⟨rfl,dw⟩
  ·have h1:((e3:Int) != 0)=true:=by simp;omega
   have hn0:(0:Int)≤(n:Int):=by omega
   clear hcase hno
   generalize (n:Int)=y at *
   go_enter Tryz.func77,Tryz.ntmps77
   go_wp2_with fail
   refine (hnew.out _).mono ?_
   rintro e w2 ⟨p,g,rfl,hrd,hp,hg,k2,hg2⟩
   go_wp2_with fail
   refine (hn.out _ p g hrd).mono ?_
   rintro e w3 ⟨rfl,Dv,k3⟩
   go_wp2_with fail
   refine (ht.out _ p g Dv).mono ?_
   rintro e w4 ⟨rfl,LZ,k4⟩
   go_wp2_with fail
   refine (hu.out _ p g LZ).mono ?_
   rintro e w5 ⟨rfl,⟨o5,c5,QG⟩,k5⟩
   have dw:Only [] w w5:=((k2.then k3 (by simp;omega)).then k4 (by simp;omega)).then k5 (by simp;omega)
   clear hrd Dv LZ k2 k3 k4 k5
   go_wp2_with fail
   refine (og _ p g o5 c5 _ _ QG).mono ?_
   rintro e w6 ⟨rfl,rfl⟩
   clear QG
   generalize (e3:Int)=y3 at *
   go_wp2
   go_ret3
   exact⟨rfl,dw⟩
end Go.Proofs.YtmelaiefbpdifaaGreatDoor
/- The contracts of strings.HasPrefix and strings.Repeat at this dump: the library's, laid by number. -/
namespace Go.Proofs
open Go.Shelf
def Tryz.lays99_ren:Go.Shelf.Ren:=⟨fun | 99=>126 | 206=>172 | n=>n,fun | 9=>9 | 4=>4 | 3=>3 | n=>n,fun | n=>n⟩
theorem Tryz.lays99:Go.Proofs.Lays.n99 Tryz.prog Tryz.lays99_ren:={
 mixed:=by kernel_rfl
 f99:=Tryz.func126.trans (congrArg some (by kernel_rfl))
 f206:=Tryz.func172.trans (congrArg some (by kernel_rfl))
 t3:=Tryz.underlying3
 a3:=Tryz.isAgg3
 z3:=Tryz.sizeOf3
 v3:=Tryz.zeroValue3
 t4:=Tryz.underlying4
 a4:=Tryz.isAgg4
 z4:=Tryz.sizeOf4
 v4:=Tryz.zeroValue4
 t9:=Tryz.underlying9
 a9:=Tryz.isAgg9
 z9:=Tryz.sizeOf9
 v9:=Tryz.zeroValue9 }
open Go.RowKit Go.Lib in
theorem Tryz.strings_HasPrefix(s p:ByteArray)(w:World):
  Calls Tryz.prog 126 #[.string s,.string p] w fun e w'=>e = .returned (.bool (Lib.hasPrefix s.data.toList p.data.toList))∧w'=w:=Any.strings_HasPrefix Tryz.lays99 s p w
def Tryz.lays105_ren:Go.Shelf.Ren:=⟨fun | 105=>196 | 212=>225 | 99=>126 | 165=>226 | 166=>227 | 170=>228 | 169=>229 | 263=>238 | 264=>239 | 206=>172 | 240=>240 | 241=>241 | 276=>247 | 277=>248 | n=>n,fun | 9=>9 | 3=>3 | 4=>4 | 20=>20 | 0=>0 | 46=>233 | 109=>320 | 5=>5 | 72=>324 | 76=>327 | 51=>49 | 146=>337 | 53=>48 | 148=>339 | 70=>322 | 37=>103 | 75=>326 | 127=>341 | 164=>349 | 80=>85 | n=>n,fun | n=>n⟩
theorem Tryz.lays105:Go.Proofs.Lays.n105 Tryz.prog Tryz.lays105_ren:={
 mixed:=by kernel_rfl
 f99:=Tryz.func126.trans (congrArg some (by kernel_rfl))
 f105:=Tryz.func196.trans (congrArg some (by kernel_rfl))
 f165:=Tryz.func226.trans (congrArg some (by kernel_rfl))
 f166:=Tryz.func227.trans (congrArg some (by kernel_rfl))
 f169:=Tryz.func229.trans (congrArg some (by kernel_rfl))
 f170:=Tryz.func228.trans (congrArg some (by kernel_rfl))
 f206:=Tryz.func172.trans (congrArg some (by kernel_rfl))
 f212:=Tryz.func225.trans (congrArg some (by kernel_rfl))
 f240:=Tryz.func240.trans (congrArg some (by kernel_rfl))
 f241:=Tryz.func241.trans (congrArg some (by kernel_rfl))
 f263:=Tryz.func238.trans (congrArg some (by kernel_rfl))
 f264:=Tryz.func239.trans (congrArg some (by kernel_rfl))
 f276:=Tryz.func247.trans (congrArg some (by kernel_rfl))
 f277:=Tryz.func248.trans (congrArg some (by kernel_rfl))
 t0:=Tryz.underlying0
 a0:=Tryz.isAgg0
 z0:=Tryz.sizeOf0
 v0:=Tryz.zeroValue0
 t3:=Tryz.underlying3
 a3:=Tryz.isAgg3
 z3:=Tryz.sizeOf3
 v3:=Tryz.zeroValue3
 t4:=Tryz.underlying4
 a4:=Tryz.isAgg4
 z4:=Tryz.sizeOf4
 v4:=Tryz.zeroValue4
 t5:=Tryz.underlying5
 a5:=Tryz.isAgg5
 z5:=Tryz.sizeOf5
 v5:=Tryz.zeroValue5
 t9:=Tryz.underlying9
 a9:=Tryz.isAgg9
 z9:=Tryz.sizeOf9
 v9:=Tryz.zeroValue9
 t20:=Tryz.underlying20
 a20:=Tryz.isAgg20
 z20:=Tryz.sizeOf20
 v20:=Tryz.zeroValue20
 t37:=Tryz.underlying103
 a37:=Tryz.isAgg103
 z37:=Tryz.sizeOf103
 v37:=Tryz.zeroValue103
 t46:=Tryz.underlying233
 a46:=Tryz.isAgg233
 z46:=Tryz.sizeOf233
 v46:=Tryz.zeroValue233
 t51:=Tryz.underlying49
 a51:=Tryz.isAgg49
 z51:=Tryz.sizeOf49
 v51:=Tryz.zeroValue49
 t53:=Tryz.underlying48
 a53:=Tryz.isAgg48
 z53:=Tryz.sizeOf48
 v53:=Tryz.zeroValue48
 t70:=Tryz.underlying322
 a70:=Tryz.isAgg322
 z70:=Tryz.sizeOf322
 v70:=Tryz.zeroValue322
 t72:=Tryz.underlying324
 a72:=Tryz.isAgg324
 z72:=Tryz.sizeOf324
 v72:=Tryz.zeroValue324
 t75:=Tryz.underlying326
 a75:=Tryz.isAgg326
 z75:=Tryz.sizeOf326
 v75:=Tryz.zeroValue326
 t76:=Tryz.underlying327
 a76:=Tryz.isAgg327
 z76:=Tryz.sizeOf327
 v76:=Tryz.zeroValue327
 t109:=Tryz.underlying320
 a109:=Tryz.isAgg320
 z109:=Tryz.sizeOf320
 v109:=Tryz.zeroValue320
 t127:=Tryz.underlying341
 a127:=Tryz.isAgg341
 z127:=Tryz.sizeOf341
 v127:=Tryz.zeroValue341
 t146:=Tryz.underlying337
 a146:=Tryz.isAgg337
 z146:=Tryz.sizeOf337
 v146:=Tryz.zeroValue337
 t148:=Tryz.underlying339
 a148:=Tryz.isAgg339
 z148:=Tryz.sizeOf339
 v148:=Tryz.zeroValue339
 t164:=Tryz.underlying349
 a164:=Tryz.isAgg349
 z164:=Tryz.sizeOf349
 v164:=Tryz.zeroValue349 }
theorem Tryz.Builder_Extra_105:Builder.Extra Tryz.prog Tryz.lays105_ren:={
 sizeBuilder:=by kernel_rfl
 liesBuilder:=by kernel_rfl
 t5:=Tryz.underlying5
 a5:=Tryz.isAgg5
 z5:=Tryz.sizeOf5
 v5:=Tryz.zeroValue5
 infoByte:=by kernel_rfl
 cellsByte:=by kernel_rfl
 sizeByte:=by kernel_rfl
 neB5:=by decide }
open Go.RowKit Go.Lib in
theorem Tryz.strings_Repeat(s:ByteArray)(c:Nat)(w:World)(hc:c≤9223372036854775807)(hlen:s.size*c≤140737488355328):
  Calls Tryz.prog 196 #[.string s,.int .i64 c] w fun e w'=>e = .returned (.string ⟨(Lib.repeatL s.data.toList c).toArray⟩)∧Below w.heap.size w w':=Any.strings_Repeat Tryz.lays105 Tryz.Builder_Extra_105 s c w hc hlen
end Go.Proofs
