/- Joined: Fun7, Fun8, Same7, Yes7, Key7, Chg7, Alive7, Tot7, Open7, Ld7, Load7. -/
import Derived.Test.YtmelaiefbpdifaaGreatDoorHJa
import Derived.Laws.Concat
/- within, Bytes, Put, Cut, Length. -/
namespace Go.Proofs.YtmelaiefbpdifaaGreatDoor.Pgs
open Go.RowKit
def inB(off len:Int):Bool:=decide (0≤off∧0≤len∧off≤1024-len)
theorem LW{off len:Int}(h:inB off len=true):0≤off∧0≤len∧off≤1024-len:=of_decide_eq_true h
theorem Jw{off len:Int}(h0:0≤off)(h1:0≤len)(h2:off≤1024-len):inB off len=true:=decide_eq_true ⟨h0,h1,h2⟩
theorem TR{off len:Int}(h:¬(0≤off∧0≤len∧off≤1024-len)):inB off len=false:=decide_eq_false h
theorem jI(w:World)(off len:Int)(l9:len≤9223372036854775807):
  Calls Tryz.prog 66 #[.int .i64 off,.int .i64 len] w fun e w'=>e = .returned (.bool (inB off len))∧w'=w:=by
 by_cases h0:0≤off
 ·by_cases h1:0≤len
  ·by_cases h2:off≤1024-len
   ·rw [Jw h0 h1 h2]
    go_enter Tryz.func66,Tryz.ntmps66
    go_wp2
    go_ret
    exact⟨rfl,rfl⟩
   ·rw [TR (fun h=>h2 h.2.2)]
    have d2:decide (off≤1024-len)=false:=by simpa using h2
    go_enter Tryz.func66,Tryz.ntmps66
    go_wp2
    go_ret
    exact⟨rfl,rfl⟩
  ·rw [TR (fun h=>h1 h.2.1)]
   have d1:decide (0≤len)=false:=by simpa using h1
   go_enter Tryz.func66,Tryz.ntmps66
   go_wp2
   go_ret
   exact⟨rfl,rfl⟩
 ·rw [TR (fun h=>h0 h.1)]
  have d1:decide (0≤off)=false:=by simpa using h0
  go_enter Tryz.func66,Tryz.ntmps66
  go_wp2
  go_ret
  exact⟨rfl,rfl⟩
theorem U0(q k h:Nat)(x y:Int)(hx:x=k)(hy:y=h)(hk:k≤h)(hh:h≤1024):
  ∃ off:Nat,(k<1024→off=k)∧∀ W:World,(Instr.sliceAt 146 (.pointer (some ⟨q,0,none⟩)) (some (.int .i64 x)) (some (.int .i64 y)) none).run Tryz.prog W = .ok (.slice (some ⟨q,off,none⟩) (h-k) (1024-k)) W:=by
 subst hx
 subst hy
 have ht:Tryz.prog.underlying 146=some (.array (Tryz.prog.arrayLen 146) (Tryz.prog.elem 146)):=by kernel_rfl
 have hl:Tryz.prog.arrayLen 146=1024:=by kernel_rfl
 have he:Tryz.prog.elem 146=5:=by kernel_rfl
 refine⟨if 1024=k then 0 else k,fun h=>by rw [if_neg (by omega)],fun W=> ?_⟩
 rw [run_sliceAt_array_lh W _ _ ht .i64 .i64 (k:Int) (h:Int) (by omega) (by omega) (by rw [hl];omega),hl,he,Tryz.sizeOf5]
 by_cases h:1024=k
 ·simp [Result.andThen,slicedAt,←h]
 ·simp [Result.andThen,slicedAt,h,addr_add]
theorem Pz{w:World}{g off:Nat}{t:TypeId}{b:List UInt8}{k m c:Nat}(hb:Blk w g t (ak b).toArray)(h:k+m≤b.length)(ho:0<m→off=k):yL w (.slice (some ⟨g,off,none⟩) m c) m (ak ((b.drop k).take m)):=by
 have hl:((b.drop k).take m).length=m:=by rw [List.length_take,List.length_drop];omega
 by_cases h0:m=0
 ·subst h0
  exact⟨_,_,rfl,by simp [ak],.inl rfl⟩
 ·have ho':=ho (by omega)
  subst ho'
  have h1:BytesAt w g (0+off) (b.drop off):=(nO hb).drop off
  rw [Nat.zero_add] at h1
  have h2:=yL.sW c (h1.take m)
  rw [hl] at h2
  exact h2
section
variable (w:World)(A:Option Addr)(c n:Nat)(o:List Pg)(hn:n=o.length)(hA:Els pgE 2 w A o)(hl:n≤9223372036854775807)
include hn hA hl
theorem XZ(off len:Int)(l9:len≤9223372036854775807)(h:¬(right o=true∧inB off len=true)):
  Calls Tryz.prog 25 #[.slice A n c,.int .i64 off,.int .i64 len] w fun e w'=>e = .returned (.tuple #[.string ⟨#[]⟩,.int .i64 1])∧Only [] w w':=by
 have h1:=fun W (h:Els pgE 2 W A o)=>fQ W A c n o hn h hl
 have h2:=fun W=>jI W off len l9
 cases hr:right o with
 | false=>
  rw [hr] at h1
  clear h hn
  go_enter Tryz.func25,Tryz.ntmps25
  go_wp2_with fail
  refine (h1 _ hA).mono ?_;rintro e w1 ⟨rfl,k1⟩
  go_wp2
  go_ret2
  exact⟨rfl,k1⟩
 | true=>
  have hi:inB off len=false:=by
   cases hb:inB off len with
   | false=>rfl
   | true=>exact (h ⟨hr,hb⟩).elim
  rw [hr] at h1
  rw [hi] at h2
  clear h hn
  go_enter Tryz.func25,Tryz.ntmps25
  go_wp2_with fail
  refine (h1 _ hA).mono ?_;rintro e w1 ⟨rfl,k1⟩
  go_wp2_with fail
  refine (h2 _).mono ?_;rintro e w2 ⟨rfl,rfl⟩
  go_wp2
  go_ret2
  exact⟨rfl,k1⟩
set_option maxRecDepth 100000 in
theorem XY(p m:Nat)(off len:Int)(ho:off=p)(hm:len=m)(hr:right o=true)(hb:p+m≤1024):
  Calls Tryz.prog 25 #[.slice A n c,.int .i64 off,.int .i64 len] w fun e w'=>e = .returned (.tuple #[.string (strOf (((body o).drop p).take m)),.int .i64 0])∧Only [] w w':=by
 have h1:=fun W (h:Els pgE 2 W A o)=>fQ W A c n o hn h hl
 have h2:=fun W=>jI W off len (by omega)
 have h3:=fun W (h:Els pgE 2 W A o)=>jL W A c n o hn h hr
 have hbl:=fM hr
 rw [hr] at h1
 rw [Jw (by omega) (by omega) (by omega)] at h2
 have hz0:=(zero_of_info jW).1
 obtain⟨Z,hZ⟩:∃ Z,Z=(ak (zs 1024)).toArray:=⟨_,rfl⟩
 rw [←hZ] at hz0
 have hZ3:Z.size=1024:=by rw [hZ];simp [ak,zs]
 clear hZ hn hr
 generalize body o=b at *
 obtain⟨C,hC⟩:∃ C,C=(ak b).toArray:=⟨_,rfl⟩
 have hone:C.all (·.oneCell')=true:=by rw [hC];exact gQ b
 have hC3:C.size=1024:=by rw [hC];simp [ak,hbl]
 rw [←hC] at h3
 have hs1:(Tryz.prog.info? 146).map (·.size)=some C.size:=by rw [hC3];exact iJ
 have hs2:Z.size=C.size:=hZ3.trans hC3.symm
 have hwr:IntKind.i64.wrap (off+len)=off+len:=by rw [IntKind.wrap_i64];omega
 have o0:0≤off:=by omega
 have m0:0≤len:=by omega
 have om:off+len≤1024:=by omega
 replace hs1:=Lib.hid hs1
 replace hs2:=Lib.hid hs2
 replace hone:=Lib.hid hone
 replace hC3:=Lib.hid hC3
 replace hC:=Lib.hid hC
 replace hbl:=Lib.hid hbl
 replace ho:=Lib.hid ho
 replace hm:=Lib.hid hm
 have H3:=Lib.hid h3
 clear h3
 go_enter Tryz.func25,Tryz.ntmps25
 go_wp2_with fail
 refine (h1 _ hA).mono ?_;rintro e w1 ⟨rfl,k1⟩
 go_wp2_with fail
 refine (h2 _).mono ?_;rintro e w2 ⟨rfl,rfl⟩
 go_wp2_with fail
 refine (H3.out _ (hA.kept k1 (by simp))).mono ?_;rintro e w3 ⟨rfl,k3⟩
 have k4:=k1.trans k3
 obtain⟨off',ho1,hsl⟩:=U0 w3.heap.size p (p+m) off (off+len) ho.out (by have:=ho.out;have:=hm.out;omega) (by omega) hb
 rw [show p+m-p=m by omega] at hsl
 replace ho1:=Lib.hid ho1
 clear k1 k3
 go_wp2_with (first
  | (refine aS rfl 146 (.tmp 8) (.tmp 19) rfl w3.heap.size Z C rfl rfl (Blk.new w3 _ _) hs1.out hs2.out hone.out ?_;intro w4 h4 k5)
  | (refine dQ _ rfl 103 9 5 (.tmp 24) rfl Tryz.underlying103 Tryz.underlying5 Tryz.underlying9 (some ⟨w3.heap.size,off',none⟩) m (1024-p) ((b.drop p).take m) rfl (Pz (w:=w4) (t:=146) (by rw [hC.out] at h4;exact h4) (by rw [hbl.out];exact hb) (fun h=>ho1.out (by omega))) ?_))
 have k6:Only [] w w4:=(k4.alloc (.cells Z 146)).then k5 (by
  intro i hi
  simp at hi
  subst hi
  exact .inr k4.size)
 replace k6:=Lib.hid k6
 clear h4 k5
 go_wp2
 go_ret2
 exact⟨rfl,k6.out⟩
end
end Go.Proofs.YtmelaiefbpdifaaGreatDoor.Pgs
/- Put, Cut, Length. -/
namespace Go.Proofs.YtmelaiefbpdifaaGreatDoor.Pgs
open Go.RowKit
section
variable (w:World)(A:Option Addr)(c n:Nat)(o:List Pg)(hn:n=o.length)(hA:Els pgE 2 w A o)(hl:n≤9223372036854775807)
include hn hA hl
theorem aas(off:Int)(d:List UInt8)(hd:d.length≤1048576)(h:¬(right o=true∧inB off d.length=true)):
  Calls Tryz.prog 203 #[.slice A n c,.int .i64 off,.string (strOf d)] w fun e w'=>e = .returned (.tuple #[.slice none 0 0,.int .i64 1])∧Only [] w w':=by
 have h1:=fun W (h:Els pgE 2 W A o)=>fQ W A c n o hn h hl
 have h2:=fun W=>jI W off d.length (by omega)
 cases hr:right o with
 | false=>
  rw [hr] at h1
  clear h hn
  go_enter Tryz.func203,Tryz.ntmps203
  go_wp2_with fail
  refine (h1 _ hA).mono ?_;rintro e w1 ⟨rfl,k1⟩
  go_wp2
  go_ret2
  exact⟨rfl,k1⟩
 | true=>
  have hi:inB off d.length=false:=by
   cases hb:inB off d.length with
   | false=>rfl
   | true=>exact (h ⟨hr,hb⟩).elim
  rw [hi] at h2
  have hsz:=aj d
  have hsz':((strOf d).size:Int)=d.length:=by omega
  generalize strOf d=s at *
  generalize (d.length:Int)=dl at *
  clear hsz
  rw [hr] at h1
  clear h hn
  go_enter Tryz.func203,Tryz.ntmps203
  go_wp2_with fail
  refine (h1 _ hA).mono ?_;rintro e w1 ⟨rfl,k1⟩
  go_wp2_with fail
  refine (h2 _).mono ?_;rintro e w2 ⟨rfl,rfl⟩
  go_wp2
  go_ret2
  exact⟨rfl,k1⟩
theorem abb(size:Int)(h:¬(right o=true∧0≤size)):
  Calls Tryz.prog 205 #[.slice A n c,.int .i64 size] w fun e w'=>e = .returned (.tuple #[.slice none 0 0,.int .i64 1])∧Only [] w w':=by
 have h1:=fun W (h:Els pgE 2 W A o)=>fQ W A c n o hn h hl
 cases hr:right o with
 | false=>
  rw [hr] at h1
  clear h hn
  go_enter Tryz.func205,Tryz.ntmps205
  go_wp2_with fail
  refine (h1 _ hA).mono ?_;rintro e w1 ⟨rfl,k1⟩
  go_wp2
  go_ret2
  exact⟨rfl,k1⟩
 | true=>
  have hi:decide (size<0)=true:=decide_eq_true (by
   have:¬ 0≤size:=fun h0=>h ⟨hr,h0⟩
   omega)
  rw [hr] at h1
  clear h hn
  go_enter Tryz.func205,Tryz.ntmps205
  go_wp2_with fail
  refine (h1 _ hA).mono ?_;rintro e w1 ⟨rfl,k1⟩
  go_wp2
  go_ret2
  exact⟨rfl,k1⟩
set_option maxRecDepth 100000 in
theorem aar(p:Nat)(off:Int)(d:List UInt8)(ho:off=p)(hr:right o=true)(hb:p+d.length≤1024):
  Calls Tryz.prog 203 #[.slice A n c,.int .i64 off,.string (strOf d)] w fun e w'=>∃ v,e = .returned (.tuple #[v,.int .i64 0])∧Mine pgE 2 138 w w' v (pages (lay (body o) p d)):=by
 have h1:=fun W (h:Els pgE 2 W A o)=>fQ W A c n o hn h hl
 have h2:=fun W=>jI W off d.length (by omega)
 have h3:=fun W (h:Els pgE 2 W A o)=>jL W A c n o hn h hr
 have hbl:=fM hr
 rw [hr] at h1
 rw [Jw (by omega) (by omega) (by omega)] at h2
 have hz0:=(zero_of_info jW).1
 obtain⟨Z,hZ⟩:∃ Z,Z=(ak (zs 1024)).toArray:=⟨_,rfl⟩
 rw [←hZ] at hz0
 have hZ3:Z.size=1024:=by rw [hZ];simp [ak,zs]
 clear hZ hn hr
 generalize body o=b at *
 obtain⟨C,hC⟩:∃ C,C=(ak b).toArray:=⟨_,rfl⟩
 have hone:C.all (·.oneCell')=true:=by rw [hC];exact gQ b
 have hC3:C.size=1024:=by rw [hC];simp [ak,hbl]
 rw [←hC] at h3
 have hs1:(Tryz.prog.info? 146).map (·.size)=some C.size:=by rw [hC3];exact iJ
 have hs2:Z.size=C.size:=hZ3.trans hC3.symm
 have hll:(lay b p d).length=1024:=by rw [TA (by omega)];exact hbl
 have hsz:=aj d
 have hsz':((strOf d).size:Int)=d.length:=by omega
 obtain⟨s,hs⟩:∃ s,s=strOf d:=⟨_,rfl⟩
 rw [←hs] at hsz'
 rw [←hs]
 obtain⟨dl,hdl⟩:∃ dl:Int,dl=(d.length:Int):=⟨_,rfl⟩
 rw [←hdl] at hsz' h2
 have o0:0≤off:=by omega
 have o1:off≤1024:=by omega
 clear hsz
 replace hs1:=Lib.hid hs1
 replace hs2:=Lib.hid hs2
 replace hone:=Lib.hid hone
 replace hC3:=Lib.hid hC3
 replace hC:=Lib.hid hC
 replace hbl:=Lib.hid hbl
 replace ho:=Lib.hid ho
 replace hs:=Lib.hid hs
 replace hdl:=Lib.hid hdl
 replace hll:=Lib.hid hll
 have H3:=Lib.hid h3
 clear h3
 go_enter Tryz.func203,Tryz.ntmps203
 go_wp2_with fail
 refine (h1 _ hA).mono ?_;rintro e w1 ⟨rfl,k1⟩
 go_wp2_with fail
 refine (h2 _).mono ?_;rintro e w2 ⟨rfl,rfl⟩
 go_wp2_with fail
 refine (H3.out _ (hA.kept k1 (by simp))).mono ?_;rintro e w3 ⟨rfl,k3⟩
 have k4:=k1.trans k3
 obtain⟨off',ho1,ho2,hsl⟩:=xw w3.heap.size p off ho.out (by omega)
 have ho3:d≠[]→off'=p:=fun h=>ho1 (by have:=List.length_pos_iff.2 h;omega)
 have ho4:off'+d.length≤1024:=by omega
 replace ho3:=Lib.hid ho3
 replace ho4:=Lib.hid ho4
 clear k1 k3 ho1 ho2
 go_wp2_with (first
  | (refine aS rfl 146 (.tmp 8) (.tmp 20) rfl w3.heap.size Z C rfl rfl (Blk.new w3 _ _) hs1.out hs2.out hone.out ?_;intro w4 h4 k5)
  | (refine qB rfl (.tmp 22) (.tmp 23) 103 9 rfl 5 Tryz.underlying103 (by kernel_rfl) w3.heap.size p off' (1024-p) (1024-p) d rfl (by rw [←hs.out];rfl) b 146 (by rw [hC.out] at h4;exact h4) (by omega) ho3.out (by rw [hbl.out];exact hb) (by rw [hbl.out];exact ho4.out) ?_;intro w6 h6 k6))
 have k7:Only [] w w6:=((k4.alloc (.cells Z 146)).then k5 (by
  intro i hi
  simp at hi
  subst hi
  exact .inr k4.size)).then k6 (by
  intro i hi
  simp at hi
  subst hi
  exact .inr k4.size)
 replace k7:=Lib.hid k7
 have hbb:vK w6 w3.heap.size (lay b p d):=⟨h6,hll.out⟩
 replace hbb:=Lib.hid hbb
 clear h4 k5 h6 k6
 go_wp2_with fail
 refine (wI _ _ _ hbb.out).mono ?_;rintro e w7 ⟨v,rfl,hm⟩
 have hm':=Mine.from k7.out hm
 replace hm':=Lib.hid hm'
 clear hm
 go_wp2
 go_ret2
 exact⟨v,rfl,hm'.out⟩
set_option maxRecDepth 100000 in
theorem aa9(m:Nat)(size:Int)(hm:(m:Int)=min size 1024)(h0:0≤size)(hr:right o=true):
  Calls Tryz.prog 205 #[.slice A n c,.int .i64 size] w fun e w'=>∃ v,e = .returned (.tuple #[v,.int .i64 0])∧Mine pgE 2 138 w w' v (pages (UK (body o) m)):=by
 have h1:=fun W (h:Els pgE 2 W A o)=>fQ W A c n o hn h hl
 have h3:=fun W (h:Els pgE 2 W A o)=>jL W A c n o hn h hr
 have hbl:=fM hr
 rw [hr] at h1
 have hz0:=(zero_of_info jW).1
 obtain⟨Z,hZ⟩:∃ Z,Z=(ak (zs 1024)).toArray:=⟨_,rfl⟩
 rw [←hZ] at hz0
 have hZ3:Z.size=1024:=by rw [hZ];simp [ak,zs]
 clear hZ hn hr
 generalize body o=b at *
 obtain⟨C,hC⟩:∃ C,C=(ak b).toArray:=⟨_,rfl⟩
 have hone:C.all (·.oneCell')=true:=by rw [hC];exact gQ b
 have hC3:C.size=1024:=by rw [hC];simp [ak,hbl]
 rw [←hC] at h3
 have hs1:(Tryz.prog.info? 146).map (·.size)=some C.size:=by rw [hC3];exact iJ
 have hs2:Z.size=C.size:=hZ3.trans hC3.symm
 have hm1:m≤1024:=by omega
 have hll:(UK b m).length=1024:=Ot hbl hm1
 have hneg:decide (size<0)=false:=decide_eq_false (by omega)
 replace hs1:=Lib.hid hs1
 replace hs2:=Lib.hid hs2
 replace hone:=Lib.hid hone
 replace hC3:=Lib.hid hC3
 replace hC:=Lib.hid hC
 replace hbl:=Lib.hid hbl
 replace hll:=Lib.hid hll
 have H3:=Lib.hid h3
 clear h3
 have hmz:(size≤1024∧(m:Int)=size)∨(¬size≤1024∧(m:Int)=1024):=by omega
 replace hm:=Lib.hid hm
 rcases hmz with⟨hc,hmz⟩ | ⟨hc,hmz⟩
 all_goals
  have hmn:min size 1024=_:=hm.out.symm.trans hmz
  replace hmz:=Lib.hid hmz
  go_enter Tryz.func205,Tryz.ntmps205
  go_wp2_with fail
  refine (h1 _ hA).mono ?_;rintro e w1 ⟨rfl,k1⟩
  go_wp2_with fail
  refine (H3.out _ (hA.kept k1 (by simp))).mono ?_;rintro e w3 ⟨rfl,k3⟩
  have k4:=k1.trans k3
  obtain⟨off',ho1,ho2,hsl⟩:=xw w3.heap.size m _ hmz.out.symm hm1
  have ho3:1024-m≠0→off'=m:=fun h=>ho1 (by omega)
  replace ho3:=Lib.hid ho3
  clear k1 k3 ho1 ho2
  go_wp2_with (first
   | (refine aS rfl 146 (.tmp 6) (.tmp 15) rfl w3.heap.size Z C rfl rfl (Blk.new w3 _ _) hs1.out hs2.out hone.out ?_;intro w4 h4 k5)
   | (refine Ig rfl (.tmp 18) 103 rfl 5 Tryz.underlying103 Tryz.zeroValue5 w3.heap.size m off' (1024-m) (1024-m) rfl b 146 (by rw [hC.out] at h4;exact h4) hbl.out (by omega) ho3.out ?_;intro w6 h6 k6))
  have k7:Only [] w w6:=((k4.alloc (.cells Z 146)).then k5 (by
   intro i hi
   simp at hi
   subst hi
   exact .inr k4.size)).then k6 (by
   intro i hi
   simp at hi
   subst hi
   exact .inr k4.size)
  replace k7:=Lib.hid k7
  have hbb:vK w6 w3.heap.size (UK b m):=⟨h6,hll.out⟩
  replace hbb:=Lib.hid hbb
  clear h4 k5 h6 k6
  go_wp2_with fail
  refine (wI _ _ _ hbb.out).mono ?_;rintro e w7 ⟨v,rfl,hm⟩
  have hm':=Mine.from k7.out hm
  replace hm':=Lib.hid hm'
  clear hm
  go_wp2
  go_ret2
  exact⟨v,rfl,hm'.out⟩
end
end Go.Proofs.YtmelaiefbpdifaaGreatDoor.Pgs
/- Same: are two lists of pages the same? -/
namespace Go.Proofs.YtmelaiefbpdifaaGreatDoor.Pgs
open Go.RowKit
theorem aau{x y:Pg}(h1:x.n=y.n)(h2:strOf x.d=strOf y.d):x=y:=by
 obtain⟨a,b⟩:=x
 obtain⟨a',b'⟩:=y
 simp only at h1 h2
 rw [h1,Iw h2]
set_option maxRecDepth 100000 in
set_option maxHeartbeats 1000000 in
theorem VJ(w:World)(A B:Option Addr)(c d n m:Nat)(L M:List Pg)(hn:n=L.length)(hm:m=M.length)(hA:Els pgE 2 w A L)(hB:Els pgE 2 w B M)(hl:n≤1048576):
  Calls Tryz.prog 24 #[.slice A n c,.slice B m d] w fun e w'=>Says (L=M) e∧∃ k,w'=w.drewN k:=by
 by_cases hlen:n=m
 ·subst hlen
  have HN:=Lib.hid hn
  have HM:=Lib.hid hm
  clear hn hm
  go_enter Tryz.func24,Tryz.ntmps24
  go_wp2_with fail
  go_loopw [5] (fun i wr=>∃ k q:Nat,k≤n∧i = .int .i64 k∧Hid (∀ j,j<k→L[j]?=M[j]?)∧wr=w.drewN q) (fun i _=>n-(intOf i).toNat)
  case atStart=>exact⟨0,0,Nat.zero_le _,rfl,fun j hj=>by omega,rfl⟩
  case round=>
   obtain⟨k,q,hk,rfl,hsame,rfl⟩:=hrel
   by_cases hlt:k<n
   ·have h1:k<L.length:=by have:=HN.out;omega
    have h2:k<M.length:=by have:=HM.out;omega
    obtain⟨g,o,rfl,hg,hat⟩:=hA.get h1
    obtain⟨g',o',rfl,hg',hat'⟩:=hB.get h2
    obtain⟨a0,a1⟩:=Ba hat h1
    obtain⟨b0,b1⟩:=Ba hat' h2
    have hx:L[k]?=some L[k]:=List.getElem?_eq_getElem h1
    have hy:M[k]?=some M[k]:=List.getElem?_eq_getElem h2
    have hext:L[k].n=M[k].n→strOf L[k].d=strOf M[k].d→L[k]=M[k]:=aau
    generalize L[k]=x at *
    generalize M[k]=y at *
    obtain⟨xn,xd⟩:=x
    obtain⟨yn,yd⟩:=y
    simp only at a0 a1 b0 b1 hext
    clear hat hat'
    by_cases he:xn=yn∧strOf xd=strOf yd
    ·obtain⟨p1,p2⟩:=he
     have hxy:=hext p1 p2
     have TW:Hid (∀ j,j<k+1→L[j]?=M[j]?):=fun j hj=>by
      by_cases hjk:j=k
      ·subst hjk;rw [hx,hy,hxy]
      ·exact hsame.out j (by omega)
     rw [p1] at a0
     rw [p2] at a1
     generalize strOf yd=ys at *
     replace hx:=Lib.hid hx
     replace hy:=Lib.hid hy
     replace hext:=Lib.hid hext
     replace p1:=Lib.hid p1
     replace p2:=Lib.hid p2
     clear hsame hxy
     go_wp2
     go_quiet (fail)
     go_wp2
     go_roundw
     case rel=>exact⟨k+1,_,by omega,by go_num,TW,rfl⟩
     case measure=>simp [intOf];omega
    ·have hno:Hid (¬L=M):=fun h=>by
      rw [h,hy] at hx
      injection hx with hx
      injection hx with q1 q2
      exact he ⟨q1.symm,by rw [q2]⟩
     by_cases p1:xn=yn
     ·have p2:=Q9 (fun h=>he ⟨p1,h⟩)
      rw [p1] at a0
      generalize strOf xd=xs at *
      generalize strOf yd=ys at *
      replace p1:=Lib.hid p1
      replace hx:=Lib.hid hx
      replace hy:=Lib.hid hy
      replace hext:=Lib.hid hext
      replace he:=Lib.hid he
      clear hsame
      go_wp2
      go_quiet (fail)
      go_wp2
      go_ret
      exact⟨Says.no hno.out,_,World.drewN_drewN _ _ _⟩
     ·have p3:(xn==yn)=false:=by simpa using p1
      generalize strOf xd=xs at *
      generalize strOf yd=ys at *
      replace p1:=Lib.hid p1
      replace hx:=Lib.hid hx
      replace hy:=Lib.hid hy
      replace hext:=Lib.hid hext
      replace he:=Lib.hid he
      clear hsame
      go_wp2
      go_quiet (fail)
      go_wp2
      go_ret
      exact⟨Says.no hno.out,_,World.drewN_drewN _ _ _⟩
   ·have hyes:L=M:=List.ext_getElem? fun j=>by
     have e1:=HN.out
     have e2:=HM.out
     by_cases hj:j<k
     ·exact hsame.out j hj
     ·rw [List.getElem?_eq_none (by omega),List.getElem?_eq_none (by omega)]
    replace hyes:=Lib.hid hyes
    clear hsame
    go_wp2
    go_ret
    exact⟨Says.yes hyes.out,_,rfl⟩
 ·have hlen':¬(n:Int)=(m:Int):=by omega
  have hno:Hid (¬L=M):=fun h=>hlen (by rw [hn,hm,h])
  clear hn hm hlen
  go_enter Tryz.func24,Tryz.ntmps24
  go_wp2
  go_ret
  exact⟨Says.no hno.out,0,rfl⟩
end Go.Proofs.YtmelaiefbpdifaaGreatDoor.Pgs
/- Two lists that are the same. -/
namespace Go.Proofs.YtmelaiefbpdifaaGreatDoor.Pgs
open Go.RowKit
end Go.Proofs.YtmelaiefbpdifaaGreatDoor.Pgs
/- Keys. -/
namespace Go.Proofs.YtmelaiefbpdifaaGreatDoor.Pgs
open Go.RowKit
def b4(x:Nat):List UInt8:=[UInt8.ofNat (x / 16777216),UInt8.ofNat (x / 65536 % 256),UInt8.ofNat (x / 256 % 256),UInt8.ofNat (x % 256)]
def headB(x:Nat):List UInt8:=80 :: b4 x
def jm(x k:Nat):List UInt8:=headB x++[0,UInt8.ofNat k]
theorem nK(x:Nat):(headB x).length=5:=rfl
theorem jQ(x k:Nat):(jm x k).length=7:=rfl
theorem oW(m:Nat)(z:Int)(hz:z=m)(h:m<256):kL (UInt8.ofNat m) = .int .u8 z:=by
 subst hz
 simp [kL,Nat.mod_eq_of_lt h]
theorem J9{x:Nat}(hx:x<4294967296):ak (b4 x) = [.int .u8 ((x:Int) / 16777216),.int .u8 ((x:Int) / 65536 % 256),.int .u8 ((x:Int) / 256 % 256),.int .u8 ((x:Int) % 256)]:=by
 unfold b4 ak
 simp only [List.map_cons,List.map_nil]
 rw [oW _ ((x:Int) / 16777216) (by omega) (by omega),oW _ ((x:Int) / 65536 % 256) (by omega) (by omega),oW _ ((x:Int) / 256 % 256) (by omega) (by omega),oW _ ((x:Int) % 256) (by omega) (by omega)]
theorem IG(w:World)(t:TypeId)(l:List UInt8)(cs:Array Value)(n:Nat)(hn:n=l.length)(h:cs=(ak l).toArray):yL (w.alloc (.cells cs t)) (.slice (some ⟨w.heap.size,0,none⟩) n n) n (ak l):=by
 subst hn
 subst h
 exact yL.sW _ (nO (Blk.new w t (ak l).toArray))
set_option maxRecDepth 100000 in
theorem xW(w:World)(x:Nat)(hx:x<4294967296):
  Calls Tryz.prog 124 #[.int .u32 (x:Int)] w fun e w'=>e = .returned (.string (strOf (headB x)))∧Only [] w w':=by
 have hcells:#[Value.int IntKind.u8 80,.int .u8 ((x:Int) / 16777216),.int .u8 ((x:Int) / 65536 % 256),.int .u8 ((x:Int) / 256 % 256),.int .u8 ((x:Int) % 256)]=(ak (headB x)).toArray:=by
  unfold headB
  rw [show ak (80 :: b4 x)=kL 80 :: ak (b4 x) from rfl,J9 hx]
  rfl
 replace hcells:=Lib.hid hcells
 go_enter Tryz.func124,Tryz.ntmps124
 go_wp2_with (refine dQ _ rfl 103 9 5 (.tmp 14) rfl Tryz.underlying103 Tryz.underlying5 Tryz.underlying9 (some ⟨w.heap.size,0,none⟩) 5 5 (headB x) rfl (IG w _ (headB x) _ 5 rfl hcells.out) ?_)
 go_ret
 exact⟨rfl,(Only.refl [] w).alloc _⟩
set_option maxRecDepth 100000 in
theorem VQ(w:World)(x k:Nat)(hx:x<4294967296)(hk:k<32):
  Calls Tryz.prog 151 #[.int .u32 (x:Int),.int .i64 (k:Int)] w fun e w'=>e = .returned (.string (strOf (jm x k)))∧Only [] w w':=by
 have hcells:#[Value.int IntKind.u8 80,.int .u8 ((x:Int) / 16777216),.int .u8 ((x:Int) / 65536 % 256),.int .u8 ((x:Int) / 256 % 256),.int .u8 ((x:Int) % 256),.int .u8 0,.int .u8 (k:Int)]=(ak (jm x k)).toArray:=by
  unfold jm headB
  rw [show ak (80 :: b4 x++[0,UInt8.ofNat k])=kL 80 :: (ak (b4 x)++[kL 0,kL (UInt8.ofNat k)]) by simp [ak],J9 hx,oW k (k:Int) rfl (by omega)]
  rfl
 replace hcells:=Lib.hid hcells
 go_enter Tryz.func151,Tryz.ntmps151
 go_wp2_with (refine dQ _ rfl 103 9 5 (.tmp 21) rfl Tryz.underlying103 Tryz.underlying5 Tryz.underlying9 (some ⟨w.heap.size,0,none⟩) 7 7 (jm x k) rfl (IG w _ (jm x k) _ 7 rfl hcells.out) ?_)
 go_ret
 exact⟨rfl,(Only.refl [] w).alloc _⟩
theorem nP{P:Program}{ops:Array Oper}{o:Oper}{a:Act}{w:World}{K:Act→World→Prop}{Q:Exit→Act→World→Prop}{E:Prop}(hgd:o.guard=none)(src dst e:TypeId)(x:Operand)(ho:o.op = .convert src dst x)
  (hs:P.underlying src=some (.slice e)) (he:P.underlying e=some (.int .u8)) (hd:P.underlying dst=some .string) (A:Option Addr) (m c:Nat) (l:List UInt8) (hx:a.eval x = .slice A m c)
  (hsrc:yL w (.slice A m c) m (ak l)) (h:K (a.put o.dst (.string (strOf l))) w):if Region.wanted o (yielded ops a.tmps)=true then Oper.wp P o a w K Q else E:=by
 have hw:Region.wanted o (yielded ops a.tmps)=true:=by simp [Region.wanted,hgd]
 rw [if_pos hw]
 obtain⟨hl,hc⟩:=hsrc.bytes
 have hr:(convert src dst (.slice A m c)).run P w = .ok (.string (strOf l)) w:=by
  cases hA:A with
  | some ad=>
   subst hA
   have hc':∀ j (hj:j<l.length),w.cell? (ad.add j)=some (.int .u8 (l[j].toNat:Int)):=by
    rcases hc with h0 | ⟨ad',he',hc⟩
    ·intro j hj;omega
    ·injection he' with he';subst he';exact hc
   have:=run_convert_bytes_back (P:=P) w src dst e ad c l hs he hd hc'
   rw [hl] at this
   exact this
  | none=>
   have h0:m=0:=by rcases hc with h0 | ⟨ad,he',_⟩;exact h0;rw [hA] at he';cases he'
   obtain rfl:l = []:=List.eq_nil_of_length_eq_zero (by omega)
   rw [run_convert_bytes_string w src dst e none m c hs he hd]
   simp [Conv.bytesToString,strOf]
   rfl
 unfold Oper.wp
 simp [execOp,ho,hx,hr,Result.andThen]
 exact h
theorem LP{w:World}{q:Nat}{t:TypeId}{k:Nat}(hk:k<32)(hb:Blk w q t #[.int .u8 ((k:Int) / 256),.int .u8 (k:Int)]):yL w (.slice (some ⟨q,0,none⟩) 2 2) 2 (ak [0,UInt8.ofNat k]):=by
 have e:#[Value.int IntKind.u8 ((k:Int) / 256),.int .u8 (k:Int)]=(ak [0,UInt8.ofNat k]).toArray:=by
  rw [show ak [0,UInt8.ofNat k] = [kL 0,kL (UInt8.ofNat k)] from rfl,oW k (k:Int) rfl (by omega),show (k:Int) / 256=0 by omega]
  rfl
 rw [e] at hb
 exact yL.sW 2 (nO hb)
set_option maxRecDepth 100000 in
theorem TI(w:World)(x k:Nat)(hx:x<4294967296)(hk:k<32):
  Calls Tryz.prog 130 #[.int .u32 (x:Int),.int .i64 (k:Int)] w fun e w'=>e = .returned (.string (strOf (jm x k)))∧Only [] w w':=by
 have hp:=fun W=>xW W x hx
 have hw1:IntKind.u8.wrap ((k:Int) / 256)=(k:Int) / 256:=by rw [IntKind.wrap_u8];omega
 have hw2:IntKind.u8.wrap (k:Int)=(k:Int):=by rw [IntKind.wrap_u8];omega
 have happ:strOf (headB x)++strOf [0,UInt8.ofNat k]=strOf (jm x k):=mY _ _
 have s1:(strOf (headB x)).size=5:=by rw [aj];rfl
 have s2:(strOf [0,UInt8.ofNat k]).size=2:=by rw [aj];rfl
 have hadd:∀ W,(Op.stringOp .add (strOf (headB x)) (strOf [0,UInt8.ofNat k])).run Tryz.prog W = .ok (.string (strOf (jm x k))) W:=fun W=>by
  rw [run_string_add_sum W _ _ (by omega),happ]
 replace happ:=Lib.hid happ
 clear s1 s2
 generalize strOf (headB x)=S1 at *
 generalize strOf (jm x k)=S3 at *
 go_enter Tryz.func130,Tryz.ntmps130
 go_wp2_with fail
 refine wp_region_held_drew (S:=fun w'=>True) (by kernel_rfl) trivial (fun hHeld=> ?_)
 have kd:Only [] w w.drew:=(Only.refl [] w).drew
 generalize w.drew=wd at *
 refine rwT 0 (.int .u32 (x:Int)) hHeld ?_;simp only [rwA]
 refine rwT 2 (.int .i64 (k:Int)) hHeld ?_;simp only [rwA]
 refine rwT 3 (.int .i64 ((k:Int) / 256)) hHeld ?_;simp only [rwA]
 refine rwT 4 (.int .u8 ((k:Int) / 256)) hHeld ?_;simp only [rwA]
 refine rwT 5 (.int .i64 (k:Int)) hHeld ?_;simp only [rwA]
 refine rwT 6 (.int .u8 (k:Int)) hHeld ?_;simp only [rwA]
 refine tC 1 7 rfl rfl (by kernel_rfl) (fun K hK=> ?_) (fun K hK=> ?_)
 ·go_simp
  refine (hp _).mono ?_;rintro e w1 ⟨rfl,k1⟩
  go_wp2_with fail
  refine hK.out _ _ trivial (fun hHeld=> ?_)
  clear hK K
  refine ah 7 rfl (by kernel_rfl) (fun K hK=> ?_)
  go_simp
  go_wp2_with fail
  refine hK.out _ _ trivial (fun hHeld=> ?_)
  clear hK K
  refine ah 8 rfl (by kernel_rfl) (fun K hK=> ?_)
  refine nP rfl 103 9 5 (.tmp 18) rfl Tryz.underlying103 Tryz.underlying5 Tryz.underlying9 (some ⟨w1.heap.size,0,none⟩) 2 2 [0,UInt8.ofNat k] rfl (LP hk (Blk.new w1 5 _)) ?_
  go_wp2_with fail
  refine hK.out _ _ trivial (fun hHeld=> ?_)
  clear hK K
  refine ah 9 rfl (by kernel_rfl) (fun K hK=> ?_)
  go_simp
  go_wp2_with fail
  refine hK.out _ _ trivial (fun hHeld=> ?_)
  clear hK K
  refine ah 10 rfl (by kernel_rfl) (fun K hK=> ?_)
  go_simp
  go_wp2_with fail
  refine hK.out _ _ trivial (fun hHeld=> ?_)
  clear hK K
  refine wpAnyH_done (by kernel_rfl) ?_ _
  clear hHeld
  have hfin:=Lib.hid ((kd.trans k1).alloc (.cells #[.int .u8 ((k:Int) / 256),.int .u8 (k:Int)] 5))
  go_wp2
  go_ret
  exact⟨rfl,hfin.out⟩
 ·go_simp
  go_wp2_with fail
  refine hK.out _ _ trivial (fun hHeld=> ?_)
  clear hK K
  refine tC 1 8 rfl rfl (by kernel_rfl) (fun K hK=> ?_) (fun K hK=> ?_)
  ·go_simp
   refine (hp _).mono ?_;rintro e w1 ⟨rfl,k1⟩
   have hb:=(Blk.new wd 5 #[.int .u8 ((k:Int) / 256),.int .u8 (k:Int)]).kept k1 (by simp)
   go_wp2_with fail
   refine hK.out _ _ trivial (fun hHeld=> ?_)
   clear hK K
   refine ah 8 rfl (by kernel_rfl) (fun K hK=> ?_)
   refine nP rfl 103 9 5 (.tmp 18) rfl Tryz.underlying103 Tryz.underlying5 Tryz.underlying9 (some ⟨wd.heap.size,0,none⟩) 2 2 [0,UInt8.ofNat k] rfl (LP hk hb) ?_
   go_wp2_with fail
   refine hK.out _ _ trivial (fun hHeld=> ?_)
   clear hK K
   refine ah 9 rfl (by kernel_rfl) (fun K hK=> ?_)
   go_simp
   go_wp2_with fail
   refine hK.out _ _ trivial (fun hHeld=> ?_)
   clear hK K
   refine ah 10 rfl (by kernel_rfl) (fun K hK=> ?_)
   go_simp
   go_wp2_with fail
   refine hK.out _ _ trivial (fun hHeld=> ?_)
   clear hK K
   refine wpAnyH_done (by kernel_rfl) ?_ _
   clear hHeld
   have hfin:=Lib.hid ((kd.alloc (.cells #[.int .u8 ((k:Int) / 256),.int .u8 (k:Int)] 5)).trans k1)
   go_wp2
   go_ret
   exact⟨rfl,hfin.out⟩
  ·refine nP rfl 103 9 5 (.tmp 18) rfl Tryz.underlying103 Tryz.underlying5 Tryz.underlying9 (some ⟨wd.heap.size,0,none⟩) 2 2 [0,UInt8.ofNat k] rfl (LP hk (Blk.new wd 5 _)) ?_
   go_wp2_with fail
   refine hK.out _ _ trivial (fun hHeld=> ?_)
   clear hK K
   refine ah 1 rfl (by kernel_rfl) (fun K hK=> ?_)
   go_simp
   refine (hp _).mono ?_;rintro e w1 ⟨rfl,k1⟩
   go_wp2_with fail
   refine hK.out _ _ trivial (fun hHeld=> ?_)
   clear hK K
   refine ah 9 rfl (by kernel_rfl) (fun K hK=> ?_)
   go_simp
   go_wp2_with fail
   refine hK.out _ _ trivial (fun hHeld=> ?_)
   clear hK K
   refine ah 10 rfl (by kernel_rfl) (fun K hK=> ?_)
   go_simp
   go_wp2_with fail
   refine hK.out _ _ trivial (fun hHeld=> ?_)
   clear hK K
   refine wpAnyH_done (by kernel_rfl) ?_ _
   clear hHeld
   have hfin:=Lib.hid ((kd.alloc (.cells #[.int .u8 ((k:Int) / 256),.int .u8 (k:Int)] 5)).trans k1)
   go_wp2
   go_ret
   exact⟨rfl,hfin.out⟩
end Go.Proofs.YtmelaiefbpdifaaGreatDoor.Pgs
/- Changes, by the program. -/
namespace Go.Proofs.YtmelaiefbpdifaaGreatDoor.Pgs
open Go.RowKit
theorem XV{fl:List UInt8}{f g:Nat→List UInt8}{k:Nat}(h:g k=f k):xq fl f g (k+1)=xq fl f g k:=by rw [xq,if_pos h]
theorem XW{fl:List UInt8}{f g:Nat→List UInt8}{k:Nat}(h:¬g k=f k)(hz:iG (g k)=true):xq fl f g (k+1)=xq fl f g k++[⟨Ey fl k,[],true⟩]:=by rw [xq,if_neg h,if_pos hz]
theorem ZN{fl:List UInt8}{f g:Nat→List UInt8}{k:Nat}(h:¬g k=f k)(hz:iG (g k)=false):xq fl f g (k+1)=xq fl f g k++[⟨Ey fl k,g k,false⟩]:=by rw [xq,if_neg h,if_neg (by simp [hz])]
theorem Gp(x k:Nat):jm x k=Ey (headB x) k:=rfl
theorem lC{S:List Nat}{w w':World}{g:Nat}{cs:List Value}(h:w.rangeAt g 0 cs)(k:Only S w w')(hg:g∉S):w'.rangeAt g 0 cs:=fun j v hj=>k.cell (h j v hj) hg
theorem MX{w:World}{g:Nat}{b:List UInt8}(h:w.rangeAt g 0 (ak b)):BytesAt w g 0 b:=fun j hj=>h j _ (by simp [ak,List.getElem?_eq_getElem hj])
theorem nD{α:Type}{enc:α→List Value}{k:Nat}{e:TypeId}{w w1:World}{v:Value}{l:List α}(h:Mine enc k e w w1 v l):∀ g,v.ownBlock=some g→g<w1.heap.size:=fun g hg=>(h.own.lt g hg).2
set_option maxRecDepth 100000 in
set_option maxHeartbeats 4000000 in
theorem E5(w:World)(A B:Option Addr)(c d n m x:Nat)(hx:x<4294967296)(o p:List Pg)(hn:n=o.length)(hA:Els pgE 2 w A o)(hr:right o=true)(hm:m=p.length)(hB:Els pgE 2 w B p)(hq:right p=true):
  Calls Tryz.prog 230 #[.int .u32 (x:Int),.slice A n c,.slice B m d] w fun e w'=>∃ v,e = .returned (.tuple #[v,.int .i64 0])∧Mine chE 3 133 w w' v (xq (headB x) (chunk (body o)) (chunk (body p)) 32):=by
 have hl:n≤9223372036854775807:=by have:=eU hr;omega
 have hl':m≤9223372036854775807:=by have:=eU hq;omega
 have h1:=fun W (h:Els pgE 2 W A o)=>fQ W A c n o hn h hl
 have h2:=fun W (h:Els pgE 2 W B p)=>fQ W B d m p hm h hl'
 have h3:=fun W (h:Els pgE 2 W A o)=>jL W A c n o hn h hr
 have h4:=fun W (h:Els pgE 2 W B p)=>jL W B d m p hm h hq
 have hbl:=fM hr
 have aaZ:=fM hq
 rw [hr] at h1
 rw [hq] at h2
 have hz0:=(zero_of_info jW).1
 obtain⟨Z,hZ⟩:∃ Z,Z=(ak (zs 1024)).toArray:=⟨_,rfl⟩
 rw [←hZ] at hz0
 have hZ3:Z.size=1024:=by rw [hZ];simp [ak,zs]
 have hy0:=(zero_of_info vP).1
 obtain⟨Y,hY⟩:∃ Y,Y=(ak (zs 32)).toArray:=⟨_,rfl⟩
 rw [←hY] at hy0
 have hY3:Y.size=32:=by rw [hY];simp [ak,zs]
 clear hZ hn hr hm hq hl hl'
 generalize body o=b at *
 generalize body p=b' at *
 obtain⟨C,hC⟩:∃ C,C=(ak b).toArray:=⟨_,rfl⟩
 obtain⟨C',hC'⟩:∃ C,C=(ak b').toArray:=⟨_,rfl⟩
 have hone:C.all (·.oneCell')=true:=by rw [hC];exact gQ b
 have hone':C'.all (·.oneCell')=true:=by rw [hC'];exact gQ b'
 have hC3:C.size=1024:=by rw [hC];simp [ak,hbl]
 have abJ:C'.size=1024:=by rw [hC'];simp [ak,aaZ]
 rw [←hC] at h3
 rw [←hC'] at h4
 have hs1:(Tryz.prog.info? 146).map (·.size)=some C.size:=by rw [hC3];exact iJ
 have hs1':(Tryz.prog.info? 146).map (·.size)=some C'.size:=by rw [abJ];exact iJ
 have hs2:Z.size=C.size:=hZ3.trans hC3.symm
 have hs2':Z.size=C'.size:=hZ3.trans abJ.symm
 replace hs1:=Lib.hid hs1
 replace hs2:=Lib.hid hs2
 replace hs1':=Lib.hid hs1'
 replace hs2':=Lib.hid hs2'
 replace hone:=Lib.hid hone
 replace hone':=Lib.hid hone'
 replace hC3:=Lib.hid hC3
 replace abJ:=Lib.hid abJ
 replace hC:=Lib.hid hC
 replace hC':=Lib.hid hC'
 replace hbl:=Lib.hid hbl
 replace aaZ:=Lib.hid aaZ
 replace hY:=Lib.hid hY
 replace hY3:=Lib.hid hY3
 have H3:=Lib.hid h3
 have H4:=Lib.hid h4
 clear h3 h4
 go_enter Tryz.func230,Tryz.ntmps230
 go_wp2_with fail
 refine (h1 _ hA).mono ?_;rintro e w1 ⟨rfl,k1⟩
 go_wp2_with fail
 refine (h2 _ (hB.kept k1 (by simp))).mono ?_;rintro e w2 ⟨rfl,k2⟩
 have k12:=k1.trans k2
 clear k1 k2 h1 h2
 go_wp2_with fail
 refine (H3.out _ (hA.kept k12 (by simp))).mono ?_;rintro e w3 ⟨rfl,k3⟩
 have k13:=k12.trans k3
 clear k12 k3
 go_wp2_with fail
 refine (H4.out _ (hB.kept k13 (by simp))).mono ?_;rintro e w4 ⟨rfl,k4⟩
 have k14:=k13.trans k4
 clear k13 k4 hA hB
 have n0:Blk ((w4.alloc (.cells Z 146)).alloc (.cells Z 146)) w4.heap.size 146 Z:=(Blk.new w4 _ _).alloc _
 have n1:Blk ((w4.alloc (.cells Z 146)).alloc (.cells Z 146)) (w4.heap.size+1) 146 Z:=by
  have:=Blk.new (w4.alloc (.cells Z 146)) 146 Z
  simpa using this
 have k15:Only [] w ((w4.alloc (.cells Z 146)).alloc (.cells Z 146)):=(k14.alloc _).alloc _
 replace n0:=Lib.hid n0
 replace n1:=Lib.hid n1
 go_wp2_with (first
  | (refine aS rfl 146 (.tmp 8) (.tmp 22) rfl w4.heap.size Z C rfl rfl n0.out hs1.out hs2.out hone.out ?_;intro w5 g5 k5)
  | (refine aS rfl 146 (.tmp 9) (.tmp 24) rfl (w4.heap.size+1) Z C' rfl rfl (n1.out.kept k5 (by simp)) hs1'.out hs2'.out hone'.out ?_;intro w6 g6 k6))
 have hb:vK w6 w4.heap.size b:=⟨by have:=g5.kept k6 (by simp);rw [hC.out] at this;exact this,hbl.out⟩
 have hb':vK w6 (w4.heap.size+1) b':=⟨by rw [hC'.out] at g6;exact g6,aaZ.out⟩
 have k16:Only [] w w6:=(k15.then k5 (by
  intro i hi
  simp at hi
  subst hi
  exact .inr k14.size)).then k6 (by
  intro i hi
  simp at hi
  subst hi
  exact .inr (by have:=k14.size;omega))
 generalize hQ:w4.heap.size=Q at *
 replace hQ:=Lib.hid hQ
 clear n0 n1 k15 k14 k5 k6 g5 g6
 replace hb:=Lib.hid hb
 replace hb':=Lib.hid hb'
 replace k16:=Lib.hid k16
 go_loopw [10,25] (fun v i wr=>∃ k:Nat,k≤32∧i = .int .i64 k∧Mine chE 3 133 w6 wr v (xq (headB x) (chunk b) (chunk b') k)) (fun _ i _=>32-(intOf i).toNat)
 case atStart=>exact⟨0,by omega,rfl,Mine.start _ _ _ (Only.refl [] w6)⟩
 case round=>
  obtain⟨k,hk,rfl,aG⟩:=hrel
  by_cases hlt:k<32
  ·have hcl:=mG hbl.out hlt
   have hcl':=mG aaZ.out hlt
   have e1:=fun h=>XV (fl:=headB x) (f:=chunk b) (g:=chunk b') (k:=k) h
   have e2:=fun h h'=>XW (fl:=headB x) (f:=chunk b) (g:=chunk b') (k:=k) h h'
   have e3:=fun h h'=>ZN (fl:=headB x) (f:=chunk b) (g:=chunk b') (k:=k) h h'
   have hpl:=Ho (headB x) (chunk b) (chunk b') k
   have hcall:=fun W (h:vK W Q b)=>FX W Q k b h hlt
   have Uh:=fun W (h:vK W (Q+1) b')=>FX W (Q+1) k b' h hlt
   have hkey:=fun W=>TI W x k hx hlt
   rw [Gp] at hkey
   generalize chunk b k=f at *
   generalize chunk b' k=g at *
   generalize Ey (headB x) k=ky at *
   generalize hL:xq (headB x) (chunk b) (chunk b') k=L at *
   replace hL:=Lib.hid hL
   replace e1:=Lib.hid e1
   replace e2:=Lib.hid e2
   replace e3:=Lib.hid e3
   replace hcall:=Lib.hid hcall
   replace Uh:=Lib.hid Uh
   replace hcl:=Lib.hid hcl
   replace hkey:=Lib.hid hkey
   go_wp2_with fail
   refine (Uh.out _ (hb'.out.kept aG.only (by simp))).mono ?_;rintro e w1 ⟨rfl,k1⟩
   have hm1:=aG.keep k1
   obtain⟨G,hG⟩:∃ G,G=(ak g).toArray:=⟨_,rfl⟩
   have Zb:G.all (·.oneCell')=true:=by rw [hG];exact gQ g
   have hG3:G.size=32:=by rw [hG];simp [ak,hcl']
   rw [←hG]
   have hg1:(Tryz.prog.info? 275).map (·.size)=some G.size:=by rw [hG3];exact iI
   have hg2:Y.size=G.size:=hY3.out.trans hG3.symm
   replace hg1:=Lib.hid hg1
   replace hg2:=Lib.hid hg2
   replace Zb:=Lib.hid Zb
   replace hG3:=Lib.hid hG3
   replace hG:=Lib.hid hG
   replace hcl':=Lib.hid hcl'
   clear aG k1
   go_wp2_with (refine aS rfl 275 (.tmp 12) (.tmp 29) rfl w1.heap.size Y G rfl rfl (Blk.new w1 _ _) hg1.out hg2.out Zb.out ?_;intro w2 g2 k2)
   have hlow:=Lib.hid (nD hm1)
   have k12:Only [] w1 w2:=((Only.refl [] w1).alloc (.cells Y 275)).then k2 (by simp)
   have hm2:=hm1.keep k12
   rw [hG.out] at g2
   have r2:=Blk.range g2
   obtain⟨q,hq⟩:∃ q,q=w1.heap.size:=⟨_,rfl⟩
   rw [←hq] at r2 g2 ⊢
   replace hq:=Lib.hid hq
   clear hm1 k2 k12 g2
   refine wp_region_held_drew (S:=fun w'=>w'.rangeAt q 0 (ak g)) (by kernel_rfl) (lC r2 ((Only.refl [] w2).drew) (by simp)) (fun hHeld=> ?_)
   have kd:Only [] w2 w2.drew:=(Only.refl [] w2).drew
   have hm3:=hm2.keep kd
   have r3:=lC r2 kd (by simp)
   clear hm2 r2 kd
   generalize w2.drew=wd at *
   refine rwY 0 (.agg (ak g).toArray) hHeld ?_ (hy:=yieldsIf_load_mid (by rfl) 275 (.tmp 12) rfl q 0 rfl (ak g) _ (fun w' hSw=>hSw) Tryz.underlying275 rfl (by rw [aO,hcl'.out];exact iI));simp only [rwA]
   refine rwT 1 (.int .i64 (k:Int)) hHeld ?_;simp only [rwA]
   refine ah 2 rfl (by kernel_rfl) (fun K hK=> ?_)
   go_simp
   refine (hcall.out _ (hb.out.kept hm3.only (by simp))).mono ?_;rintro e w4 ⟨rfl,k4⟩
   have hm4:=hm3.keep k4
   have r4:=lC r3 k4 (by simp)
   go_wp2_with fail
   refine hK.out _ _ r4 (fun hHeld=> ?_)
   clear hK K
   clear hm3 r3 k4
   by_cases hgf:g=f
   ·have hnext:=Lib.hid (e1.out hgf)
    have hb1:=Lib.hid (Uz hgf)
    refine ah 3 rfl (by kernel_rfl) (fun K hK=> ?_)
    refine vW rfl (.tmp 40) (.tmp 42) 275 5 _ rfl lH lJ oK Tryz.sizeOf5 g f _ _ true rfl rfl rfl rfl hcl'.out hcl.out hb1.out ?_
    go_wp2_with fail
    refine hK.out _ _ r4 (fun hHeld=> ?_)
    clear hK K
    refine ah 4 rfl (by kernel_rfl) (fun K hK=> ?_)
    go_simp
    go_wp2_with fail
    refine hK.out _ _ r4 (fun hHeld=> ?_)
    clear hK K
    refine wpAnyH_done (by kernel_rfl) ?_ _
    clear hHeld
    replace hgf:=Lib.hid hgf
    rw [←hnext.out] at hm4
    replace hm4:=Lib.hid hm4
    clear r4
    go_wp2_with fail
    go_roundw
    case rel=>exact⟨k+1,by omega,by go_num,hm4.out⟩
    case measure=>simp [intOf];omega
   ·have hb1:=Lib.hid (eq_not hgf)
    refine ah 3 rfl (by kernel_rfl) (fun K hK=> ?_)
    refine vW rfl (.tmp 40) (.tmp 42) 275 5 _ rfl lH lJ oK Tryz.sizeOf5 g f _ _ false rfl rfl rfl rfl hcl'.out hcl.out hb1.out ?_
    go_wp2_with fail
    refine hK.out _ _ r4 (fun hHeld=> ?_)
    clear hK K
    refine ah 4 rfl (by kernel_rfl) (fun K hK=> ?_)
    go_simp
    go_wp2_with fail
    refine hK.out _ _ r4 (fun hHeld=> ?_)
    clear hK K
    refine wpAnyH_done (by kernel_rfl) ?_ _
    clear hHeld
    cases hz:iG g with
    | true=>
     have hnext:=Lib.hid (e2.out hgf hz)
     have hr:Hid ((g==zs 32)=true):=by
      show (g==zs 32)=true
      exact Uz (GY hz hcl'.out)
     replace hz:=Lib.hid hz
     replace hgf:=Lib.hid hgf
     go_wp2_with (first
      | (refine wpList_load_mid rfl 275 (.tmp 12) rfl q 0 rfl (ak g) _ r4 Tryz.underlying275 rfl (by rw [aO,hcl'.out];exact iI) ?_)
      | (refine qO rfl (.tmp 45) (.tmp 46) 275 5 _ rfl lH lJ oK Tryz.sizeOf5 g (zs 32) (ak g).toArray Y true rfl rfl rfl hY.out hcl'.out (lK 32) hr.out ?_))
     refine (hkey.out _).mono ?_;rintro e w6 ⟨rfl,k6⟩
     have hm6:=hm4.keep k6
     have hm7:=hm6.keep ((Only.refl [] w6).alloc (.cells #[.string (strOf ky),.string ⟨#[]⟩,.bool true] 133))
     have b7:Blk (w6.alloc (.cells #[.string (strOf ky),.string ⟨#[]⟩,.bool true] 133)) w6.heap.size 133 (chE ⟨ky,[],true⟩).toArray:=Blk.new w6 _ _
     go_wp2_with (at_builtin;go_must (refine dH rfl _ _ 22 rfl 133 _ 40 eH (by decide) vw Tryz.underlying22 yh rfl _ L.length L rfl hm7.own w6.heap.size ⟨ky,[],true⟩ _ rfl b7 (by unfold maxLen;omega) (by omega) ?_);intro vv w8 h8 g8 a8)
     have hm8:=hm7.pushed h8 g8 a8
     rw [←hnext.out] at hm8
     replace hm8:=Lib.hid hm8
     clear hm7 hm6 hm4 b7 h8 g8 a8 k6 r4
     go_wp2
     go_roundw
     case rel=>exact⟨k+1,by omega,by go_num,hm8.out⟩
     case measure=>simp [intOf];omega
    | false=>
     have hnext:=Lib.hid (e3.out hgf hz)
     have hr:Hid ((g==zs 32)=false):=by
      show (g==zs 32)=false
      exact eq_not (fun h=>by rw [h,vI] at hz;cases hz)
     replace hz:=Lib.hid hz
     replace hgf:=Lib.hid hgf
     go_wp2_with (first
      | (refine wpList_load_mid rfl 275 (.tmp 12) rfl q 0 rfl (ak g) _ r4 Tryz.underlying275 rfl (by rw [aO,hcl'.out];exact iI) ?_)
      | (refine qO rfl (.tmp 45) (.tmp 46) 275 5 _ rfl lH lJ oK Tryz.sizeOf5 g (zs 32) (ak g).toArray Y false rfl rfl rfl hY.out hcl'.out (lK 32) hr.out ?_))
     have r5:=lC r4 ((Only.refl [] w4).drew) (by simp)
     have hm5:=hm4.keep ((Only.refl [] w4).drew)
     have hconv:∀ w',w'.rangeAt q 0 (ak g)→(convert 103 9 (.slice (some ⟨q,0,none⟩) 32 32)).run Tryz.prog w' = .ok (.string (strOf g)) w':=fun w' h=>by
      have h1:=run_convert_bytes_back (P:=Tryz.prog) w' 103 9 5 ⟨q,0,none⟩ 32 g Tryz.underlying103 Tryz.underlying5 Tryz.underlying9 (fun j hj=>by rw [addr_add];exact MX h j hj)
      rw [hcl'.out] at h1
      exact h1
     replace hconv:=Lib.hid hconv
     refine wp_region_held_drew (S:=fun w'=>w'.rangeAt q 0 (ak g)) (by kernel_rfl) r5 (fun hHeld=> ?_)
     generalize w4.drew=w5 at *
     refine rwT 0 (u10) hHeld ?_;simp only [rwA]
     refine rwT 1 (.int .u32 (x:Int)) hHeld ?_;simp only [rwA]
     refine rwT 2 (.int .i64 (k:Int)) hHeld ?_;simp only [rwA]
     refine rwT 4 (.slice (some ⟨q,0,none⟩) 32 32) hHeld ?_;simp only [rwA]
     refine rwY 5 (.string (strOf g)) hHeld ?_ (hy:=Or.inl ⟨by rfl,fun w' hSw=>(by have h5:=hconv.out w' hSw;go_simp)⟩);simp only [rwA]
     refine ah 3 rfl (by kernel_rfl) (fun K hK=> ?_)
     go_simp
     refine (hkey.out _).mono ?_;rintro e w6 ⟨rfl,k6⟩
     have r6:=lC r5 k6 (by simp)
     have hm6:=hm5.keep k6
     go_wp2_with fail
     refine hK.out _ _ r6 (fun hHeld=> ?_)
     clear hK K
     refine ah 6 rfl (by kernel_rfl) (fun K hK=> ?_)
     go_simp
     go_wp2_with fail
     refine hK.out _ _ r6 (fun hHeld=> ?_)
     clear hK K
     refine ah 7 rfl (by kernel_rfl) (fun K hK=> ?_)
     go_simp
     have k7:Only [] w6 (w6.alloc (.cells #[.string (strOf ky),.string (strOf g),.bool false] 133)):=(Only.refl [] w6).alloc _
     have r7:=lC r6 k7 (by simp)
     have hm7:=hm6.keep k7
     have b7:Blk (w6.alloc (.cells #[.string (strOf ky),.string (strOf g),.bool false] 133)) w6.heap.size 133 (chE ⟨ky,g,false⟩).toArray:=Blk.new w6 _ _
     go_wp2_with fail
     refine hK.out _ _ r7 (fun hHeld=> ?_)
     clear hK K
     refine ah 8 rfl (by kernel_rfl) (fun K hK=> ?_)
     refine oz rfl _ _ 22 rfl 133 _ 40 eH (by decide) vw Tryz.underlying22 yh rfl u10 L.length L rfl hm7.own w6.heap.size ⟨ky,g,false⟩ _ rfl b7 (by unfold maxLen;omega) (by omega) ?_
     intro vv w8 h8 g8 a8
     have hm8:=hm7.pushed h8 g8 a8
     have r8:w8.rangeAt q 0 (ak g):=fun j v hj=>(sS g8).cell (r7 j v hj) (by
      intro hqm
      have h1:=hlow.out q (by simpa using hqm)
      have h2:=hq.out
      omega)
     go_wp2_with fail
     refine hK.out _ _ r8 (fun hHeld=> ?_)
     clear hK K
     refine ah 9 rfl (by kernel_rfl) (fun K hK=> ?_)
     go_simp
     go_wp2_with fail
     refine hK.out _ _ r8 (fun hHeld=> ?_)
     clear hK K
     refine wpAnyH_done (by kernel_rfl) ?_ _
     clear hHeld
     rw [←hnext.out] at hm8
     replace hm8:=Lib.hid hm8
     clear hm7 hm6 hm5 hm4 b7 h8 g8 a8 k6 r4 r5 r6 r7 r8
     go_wp2
     go_roundw
     case rel=>exact⟨k+1,by omega,by go_num,hm8.out⟩
     case measure=>simp [intOf];omega
  ·have hk2:k=32:=by omega
   subst hk2
   have hfin:=Lib.hid (Mine.from k16.out aG)
   clear aG
   go_wp2
   go_ret2
   exact⟨_,rfl,hfin.out⟩
end Go.Proofs.YtmelaiefbpdifaaGreatDoor.Pgs
/- What every right program answers. -/
namespace Go.Proofs.YtmelaiefbpdifaaGreatDoor.Pgs
open Go.RowKit
theorem lG{w w1:World}{v:Value}{l:List Pg}(h:Mine pgE 2 138 w w1 v l):∃ A c,v = .slice A l.length c∧Els pgE 2 w1 A l∧l.length≤c∧(∀ a,A=some a→w.heap.size≤a.block):=by
 obtain⟨A,c,e,h1,h2,h3,_⟩:=h.shape cO
 exact⟨A,c,e,h1,h2,h3⟩
end Go.Proofs.YtmelaiefbpdifaaGreatDoor.Pgs
/- Put, Cut, Length, Bytes of any list, whatever comes in: one answer each; and what they say of one another. -/
namespace Go.Proofs.YtmelaiefbpdifaaGreatDoor.Pgs
open Go.RowKit
def QJ(b:Bool):Int:=if b then 0 else 1
def wK(o:List Pg)(off:Int)(d:List UInt8):Bool:=right o && inB off d.length
def zN(o:List Pg)(off:Int)(d:List UInt8):List Pg:=if wK o off d then pages (lay (body o) off.toNat d) else []
def wL(o:List Pg)(size:Int):Bool:=right o && decide (0≤size)
def Ia(o:List Pg)(size:Int):List Pg:=if wL o size then pages (UK (body o) (min size 1024).toNat) else []
def jM(o:List Pg)(off len:Int):Bool:=right o && inB off len
def oV(o:List Pg)(off len:Int):List UInt8:=if jM o off len then ((body o).drop off.toNat).take len.toNat else []
section
variable (w:World)(A:Option Addr)(c n:Nat)(o:List Pg)(hn:n=o.length)(hA:Els pgE 2 w A o)(hl:n≤9223372036854775807)
include hn hA hl
theorem put_any(off:Int)(d:List UInt8)(hd:d.length≤1048576):
  Calls Tryz.prog 203 #[.slice A n c,.int .i64 off,.string (strOf d)] w fun e w'=>∃ v,e = .returned (.tuple #[v,.int .i64 (QJ (wK o off d))])∧Mine pgE 2 138 w w' v (zN o off d):=by
 unfold zN
 cases h:wK o off d with
 | false=>
  have h':¬(right o=true∧inB off d.length=true):=fun hh=>by
   unfold wK at h
   rw [hh.1,hh.2] at h
   cases h
  refine (aas w A c n o hn hA hl off d hd h').mono ?_
  rintro e w1 ⟨rfl,k1⟩
  exact⟨_,rfl,Mine.start _ _ _ k1⟩
 | true=>
  have h':=h
  unfold wK at h'
  rw [Bool.and_eq_true] at h'
  obtain⟨h1,h2,h3⟩:=LW h'.2
  exact aar w A c n o hn hA hl off.toNat off d (by omega) h'.1 (by omega)
theorem ZK(size:Int):
  Calls Tryz.prog 205 #[.slice A n c,.int .i64 size] w fun e w'=>∃ v,e = .returned (.tuple #[v,.int .i64 (QJ (wL o size))])∧Mine pgE 2 138 w w' v (Ia o size):=by
 unfold Ia
 cases h:wL o size with
 | false=>
  have h':¬(right o=true∧0≤size):=fun hh=>by
   unfold wL at h
   rw [hh.1,decide_eq_true hh.2] at h
   cases h
  refine (abb w A c n o hn hA hl size h').mono ?_
  rintro e w1 ⟨rfl,k1⟩
  exact⟨_,rfl,Mine.start _ _ _ k1⟩
 | true=>
  have h':=h
  unfold wL at h'
  rw [Bool.and_eq_true,decide_eq_true_eq] at h'
  exact aa9 w A c n o hn hA hl (min size 1024).toNat size (by omega) h'.2 h'.1
theorem mJ(off len:Int)(l9:len≤9223372036854775807):
  Calls Tryz.prog 25 #[.slice A n c,.int .i64 off,.int .i64 len] w fun e w'=>e = .returned (.tuple #[.string (strOf (oV o off len)),.int .i64 (QJ (jM o off len))])∧Only [] w w':=by
 unfold oV
 cases h:jM o off len with
 | false=>
  have h':¬(right o=true∧inB off len=true):=fun hh=>by
   unfold jM at h
   rw [hh.1,hh.2] at h
   cases h
  exact XZ w A c n o hn hA hl off len l9 h'
 | true=>
  have h':=h
  unfold jM at h'
  rw [Bool.and_eq_true] at h'
  obtain⟨h1,h2,h3⟩:=LW h'.2
  exact XY w A c n o hn hA hl off.toNat len.toNat off len (by omega) (by omega) h'.1 (by omega)
end
theorem Pq(o:List Pg)(off:Int)(d:List UInt8):right (zN o off d)=true:=by
 unfold zN
 split
 ·rename_i h
  unfold wK at h
  rw [Bool.and_eq_true] at h
  obtain⟨h1,h2,h3⟩:=LW h.2
  exact uP (by rw [TA (by have:=fM h.1;omega)];exact fM h.1)
 ·rfl
theorem Qn(o:List Pg)(size:Int):right (Ia o size)=true:=by
 unfold Ia
 split
 ·rename_i h
  unfold wL at h
  rw [Bool.and_eq_true] at h
  exact uP (Ot (fM h.1) (by omega))
 ·rfl
theorem sU{o:List Pg}{off:Int}{d:List UInt8}(h1:right o=true)(h2:0≤off)(h3:off+d.length≤1024):wK o off d=true:=by
 unfold wK
 rw [h1,Jw h2 (by omega) (by omega)]
 rfl
theorem lD{o:List Pg}{off len:Int}(h1:right o=true)(h2:0≤off)(h3:0≤len)(h4:off+len≤1024):jM o off len=true:=by
 unfold jM
 rw [h1,Jw h2 h3 (by omega)]
 rfl
end Go.Proofs.YtmelaiefbpdifaaGreatDoor.Pgs
/- A list of pages that comes in. -/
namespace Go.Proofs.YtmelaiefbpdifaaGreatDoor.Pgs
open Go.RowKit Go.ChangeShapes Go.WideShapes Go.ChangeAt Go.Deep
section
variable {H:Type}{enc:TypeId × Value→H}{w:World}
end
end Go.Proofs.YtmelaiefbpdifaaGreatDoor.Pgs
/- Rows of pages, as plain lists: what Load makes of rows, and what Changes make of them. -/
namespace Go.Proofs.YtmelaiefbpdifaaGreatDoor.Pgs
open Go.RowKit Go.Maps
def Yd(c:Ch):Pg:=⟨(((c.key.getD 5 0).toNat*256+(c.key.getD 6 0).toNat:Nat):Int),c.val⟩
def ldO(U:List Ch):List Pg:=U.map Yd
def QK(U:List Ch):Bool:=U.all fun c=>c.key.length==7
def mV(U:List Ch):Bool:=QK U && right (ldO U)
def ldL(U:List Ch):List Pg:=if mV U then ldO U else []
def Oi(c:Ch):Bool:=(c.key.length==7) && ((c.key.getD 5 0==0) && decide ((c.key.getD 6 0).toNat≤31))
def xX(c:Ch):Pg:=⟨((c.key.getD 6 0).toNat:Int),c.val⟩
theorem zX{c:Ch}:Oi c=true↔c.key.length=7∧c.key.getD 5 0=0∧(c.key.getD 6 0).toNat≤31:=by
 unfold Oi
 simp only [Bool.and_eq_true,beq_iff_eq,decide_eq_true_eq]
theorem Tz{U:List Ch}(h:U.all Oi=true):ldO U=U.map xX:=by
 rw [List.all_eq_true] at h
 unfold ldO
 apply List.map_congr_left
 intro c hc
 obtain⟨_,h5,_⟩:=zX.1 (h c hc)
 unfold Yd xX
 rw [h5]
 simp
theorem NT(U:List Ch):mV U=(U.all Oi && right (U.map xX)):=by
 cases h:U.all Oi with
 | true=>
  have h7:QK U=true:=by
   unfold QK
   rw [List.all_eq_true] at h ⊢
   intro c hc
   simpa using (zX.1 (h c hc)).1
  unfold mV
  rw [h7,Tz h]
 | false=>
  rw [Bool.false_and]
  apply Bool.eq_false_iff.2
  intro hok
  unfold mV QK at hok
  rw [Bool.and_eq_true,List.all_eq_true] at hok
  obtain⟨h7,hr⟩:=hok
  have:U.all Oi=true:=by
   rw [List.all_eq_true]
   intro c hc
   have h1:=h7 c hc
   simp only [beq_iff_eq] at h1
   have h2:=qc _ _ hr (Yd c) (List.mem_map.2 ⟨c,hc,rfl⟩)
   have h3:(((c.key.getD 5 0).toNat*256+(c.key.getD 6 0).toNat:Nat):Int)<32:=h2.2.1
   refine zX.2 ⟨h1,?_,by omega⟩
   apply UInt8.toNat_inj.1
   show (c.key.getD 5 0).toNat=0
   omega
  rw [h] at this
  cases this
theorem Yh:∀ (o:List Pg) (l:Int),(∀ q∈o,l<q.n∧q.n<32∧q.d.length=32∧iG q.d=false)→o.Pairwise (fun a b=>a.n<b.n)→okP l o=true
 | [],_,_,_=>rfl
 | p :: r,l,h,hp=>by
  obtain⟨h1,h2⟩:=List.pairwise_cons.1 hp
  obtain⟨a1,a2,a3,a4⟩:=h p (by simp)
  refine iq.2 ⟨a1,a2,a3,a4,Yh r p.n (fun q hq=>⟨h1 q hq,(h q (by simp [hq])).2⟩) h2⟩
theorem Cc:∀ (o:List Pg) (l:Int) (q:Pg) (k:Nat),okP l o=true→q∈o→q.n=(k:Int)→find o k=q.d
 | [],_,_,_,_,hq,_=>by simp at hq
 | p :: r,l,q,k,h,hq,hk=>by
  obtain⟨_,_,_,_,h5⟩:=iq.1 h
  rcases List.mem_cons.1 hq with rfl | hq
  ·rw [find,if_pos hk]
  ·have:=(qc r p.n h5 q hq).1
   rw [find,if_neg (by omega)]
   exact Cc r p.n q k h5 hq hk
theorem ofNat_inj{a b:Nat}(ha:a<256)(hb:b<256)(h:UInt8.ofNat a=UInt8.ofNat b):a=b:=by
 have:=congrArg UInt8.toNat h
 simpa [Nat.mod_eq_of_lt ha,Nat.mod_eq_of_lt hb] using this
theorem Uf{x y:Nat}(hx:x<4294967296)(hy:y<4294967296)(h:headB x=headB y):x=y:=by
 unfold headB b4 at h
 injection h with _ h
 injection h with h1 h
 injection h with h2 h
 injection h with h3 h
 injection h with h4 _
 have e1:=ofNat_inj (by omega) (by omega) h1
 have e2:=ofNat_inj (by omega) (by omega) h2
 have e3:=ofNat_inj (by omega) (by omega) h3
 have e4:=ofNat_inj (by omega) (by omega) h4
 omega
theorem Gn{fl:List UInt8}{n m:Nat}(hn:n<256)(hm:m<256)(h:Ey fl n=Ey fl m):n=m:=by
 unfold Ey at h
 have h1:=List.append_cancel_left h
 injection h1 with _ h1
 injection h1 with h1 _
 exact ofNat_inj hn hm h1
theorem TJ(x n:Nat):(jm x n).take 5=headB x:=rfl
theorem nR{p k:List UInt8}:um p k=true↔p.length≤k.length∧k.take p.length=p:=by
 unfold um Lib.hasPrefix
 rw [List.isPrefixOf_iff_prefix,List.prefix_iff_eq_take]
 constructor
 ·intro h
  exact⟨by have:=congrArg List.length h;rw [List.length_take] at this;omega,h.symm⟩
 ·intro h
  exact h.2.symm
theorem uO(x n:Nat):um (headB x) (jm x n)=true:=nR.2 ⟨by simp [nK,jQ],rfl⟩
theorem Ll{x y:Nat}{k:List UInt8}(hx:x<4294967296)(hy:y<4294967296)(h:um (headB x) k=true)(h':um (headB y) k=true):x=y:=by
 have h1:=(nR.1 h).2
 have h2:=(nR.1 h').2
 rw [nK] at h1 h2
 exact Uf hx hy (h1.symm.trans h2)
theorem oP(l:List Ch)(c:Ch)(k:List UInt8):yu (l++[c]) k=(yu l k).or (if c.key==k then some c else none):=by
 unfold yu
 rw [List.find?_append]
 congr 1
 simp only [List.find?_cons,List.find?_nil]
 cases c.key==k<;>rfl
theorem rH(fl:List UInt8)(F G:Nat→List UInt8)(k:List UInt8):∀ K,(∀ n,n<K→k≠Ey fl n)→yu (xq fl F G K) k=none
 | 0,_=>rfl
 | K+1,h=>by
  have ih:=rH fl F G k K (fun n hn=>h n (by omega))
  have hk:(Ey fl K==k)=false:=by
   rw [beq_eq_false_iff_ne]
   exact fun e=>h K (by omega) e.symm
  rw [xq]
  split
  ·exact ih
  ·split
   ·rw [oP,ih];simp [hk]
   ·rw [oP,ih];simp [hk]
theorem N7(fl:List UInt8)(F G:Nat→List UInt8)(n:Nat):∀ K,K≤256→n<K →
  yu (xq fl F G K) (Ey fl n)=if G n=F n then none else some (if iG (G n) then ⟨Ey fl n,[],true⟩ else ⟨Ey fl n,G n,false⟩)
 | 0,_,h=>absurd h (by omega)
 | K+1,hK,hn=>by
  by_cases hnK:n=K
  ·subst hnK
   have ih:=rH fl F G (Ey fl n) n (fun m hm e=>by have:=Gn (by omega) (by omega) e;omega)
   rw [xq]
   by_cases h1:G n=F n
   ·rw [if_pos h1,if_pos h1,ih]
   ·rw [if_neg h1,if_neg h1]
    by_cases h2:iG (G n)=true
    ·rw [if_pos h2,if_pos h2,oP,ih];simp
    ·rw [if_neg h2,if_neg h2,oP,ih];simp
  ·have ih:=N7 fl F G n K (by omega) (by omega)
   have hk:(Ey fl K==Ey fl n)=false:=by
    rw [beq_eq_false_iff_ne]
    exact fun e=>hnK (Gn (by omega) (by omega) e).symm
   rw [xq]
   split
   ·exact ih
   ·split
    ·rw [oP,ih];simp [hk]
    ·rw [oP,ih];simp [hk]
theorem UU(fl:List UInt8)(F G:Nat→List UInt8):∀ K,K≤256→(∀ n,n<K→(G n).length=32)→(∀ c∈xq fl F G K,∃ n,n<K∧c.key=Ey fl n∧c.val.length≤32∧(c.gone=true→c.val = []))∧(xq fl F G K).Pairwise fun a b=>a.key≠b.key
 | 0,_,_=>⟨fun c hc=>by simp [xq] at hc,List.Pairwise.nil⟩
 | K+1,hK,hG=>by
  obtain⟨h1,h2⟩:=UU fl F G K (by omega) (fun n hn=>hG n (by omega))
  have PZ:∀ c:Ch,c.key=Ey fl K→c.val.length≤32→(c.gone=true→c.val = [])→(∀ d∈xq fl F G K++[c],∃ n,n<K+1∧d.key=Ey fl n∧d.val.length≤32∧(d.gone=true→d.val = []))∧(xq fl F G K++[c]).Pairwise fun a b=>a.key≠b.key:=fun c q1 q2 q3=>by
   refine⟨fun d hd=> ?_,List.pairwise_append.2 ⟨h2,List.pairwise_singleton _ _,fun a ha b hb=> ?_⟩⟩
   ·rcases List.mem_append.1 hd with hd | hd
    ·obtain⟨n,hn,hr⟩:=h1 d hd
     exact⟨n,by omega,hr⟩
    ·simp only [List.mem_singleton] at hd
     subst hd
     exact⟨K,by omega,q1,q2,q3⟩
   ·simp only [List.mem_singleton] at hb
    subst hb
    obtain⟨n,hn,hk,_⟩:=h1 a ha
    rw [hk,q1]
    exact fun e=>by have:=Gn (by omega) (by omega) e;omega
  rw [xq]
  split
  ·exact⟨fun c hc=>by obtain⟨n,hn,hr⟩:=h1 c hc;exact⟨n,by omega,hr⟩,h2⟩
  ·split
   ·exact PZ _ rfl (by simp) (fun _=>rfl)
   ·exact PZ _ rfl (by rw [hG K (by omega)];exact Nat.le_refl _) (fun h=>by cases h)
def yE(x:Nat)(o p:List Pg):List Ch:=xq (headB x) (chunk (body o)) (chunk (body p)) 32
theorem Hl{x:Nat}{o p:List Pg}(hp:right p=true):(∀ c∈yE x o p,∃ n,n<32∧c.key=jm x n∧c.val.length≤32∧(c.gone=true→c.val = []))∧(yE x o p).Pairwise fun a b=>a.key≠b.key:=
 UU (headB x) _ _ 32 (by decide) (fun n hn=>mG (fM hp) hn)
theorem qx(x:Nat)(o p:List Pg):(yE x o p).length≤32:=Ho _ _ _ 32
theorem J8{x:Nat}{o p:List Pg}(hp:right p=true):wJ (yE x o p):=fun c hc=>by
 obtain⟨n,hn,q1,q2,_⟩:=(Hl (x:=x) (o:=o) hp).1 c hc
 rw [q1,jQ]
 exact⟨by decide,by omega⟩
theorem BP(M:List Rw):∀ l:List Ch,bf M l≤l.length
 | []=>by simp [bf]
 | c :: r=>by
  have ih:=BP M r
  have hs:zH M c≤1:=by unfold zH;split<;>(try split)<;>omega
  rw [bf,List.length_cons]
  omega
structure Holds(M:List Rw)(x:Nat)(p:List Pg):Prop where
 pages:∀ n,n<32→jD M (jm x n)=if iG (find p n) then none else some (find p n)
 only:∀ k,um (headB x) k=true→(∀ n,n<32→k≠jm x n)→jD M k=none
theorem holds_nil(x:Nat):Holds [] x []:=⟨fun n _=>by rw [find,vI];rfl,fun _ _ _=>rfl⟩
theorem yI{M:List Rw}{x n:Nat}{o p:List Pg}(ho:right o=true)(hp:right p=true)(hn:n<32):dX (yE x o p) M (jm x n)=if find p n=find o n then jD M (jm x n) else if iG (find p n) then none else some (find p n):=by
 have h:=N7 (headB x) (chunk (body o)) (chunk (body p)) n 32 (by decide) hn
 rw [yD ho hn,yD hp hn] at h
 unfold dX yE
 rw [Gp,h]
 by_cases h1:find p n=find o n
 ·rw [if_pos h1,if_pos h1]
 ·rw [if_neg h1,if_neg h1]
  by_cases h2:iG (find p n)=true
  ·rw [if_pos h2,if_pos h2];rfl
  ·rw [if_neg h2,if_neg h2];rfl
theorem fP{M:List Rw}{x:Nat}{o p:List Pg}{k:List UInt8}(h:∀ n,n<32→k≠jm x n):dX (yE x o p) M k=jD M k:=by
 unfold dX yE
 rw [rH (headB x) _ _ k 32 h]
theorem Holds.step{M M':List Rw}{x:Nat}{o p:List Pg}(h:Holds M x o)(ho:right o=true)(hp:right p=true)(hM:∀ k,jD M' k=dX (yE x o p) M k):Holds M' x p:=by
 refine⟨fun n hn=> ?_,fun k hk hne=> ?_⟩
 ·rw [hM,yI ho hp hn]
  by_cases h1:find p n=find o n
  ·rw [if_pos h1,h.pages n hn,h1]
  ·rw [if_neg h1]
 ·rw [hM,fP hne]
  exact h.only k hk hne
theorem Holds.other{M M':List Rw}{x y:Nat}{o p q:List Pg}(hx:x<4294967296)(hy:y<4294967296)(hxy:x≠y)(h:Holds M y q)(hM:∀ k,jD M' k=dX (yE x o p) M k):Holds M' y q:=by
 have hne:∀ k,um (headB y) k=true→∀ n,n<32→k≠jm x n:=fun k hk n _ e=>hxy (Ll hx hy (by rw [e];exact uO x n) hk)
 refine⟨fun n hn=> ?_,fun k hk hnn=> ?_⟩
 ·rw [hM,fP (hne _ (uO y n))]
  exact h.pages n hn
 ·rw [hM,fP (hne k hk)]
  exact h.only k hk hnn
def Rest(M:List Rw)(x y:Nat):Prop:=∀ k,um (headB x) k=false→um (headB y) k=false→jD M k=none
theorem Rest.step{M M':List Rw}{x y z:Nat}{o p:List Pg}(h:Rest M x y)(hz:z=x∨z=y)(hM:∀ k,jD M' k=dX (yE z o p) M k):Rest M' x y:=fun k hx hy=>by
 rw [hM,fP (fun n _ e=> ?_)]
 ·exact h k hx hy
 ·have:=uO z n
  rw [←e] at this
  rcases hz with rfl | rfl
  ·rw [hx] at this;cases this
  ·rw [hy] at this;cases this
theorem FN{M:List Rw}{x:Nat}{p:List Pg}(hs:Sorted M)(h:Holds M x p){r:Rw}(hr:r∈M)(hk:um (headB x) r.key=true):∃ n,n<32∧r.key=jm x n∧r.val=find p n∧iG (find p n)=false:=by
 have hg:jD M r.key=some r.val:=by rw [jD,nM hs hr];rfl
 have hn:∃ n,n<32∧r.key=jm x n:=by
  apply Decidable.byContradiction
  intro hno
  rw [h.only r.key hk (fun n hn e=>hno ⟨n,hn,e⟩)] at hg
  cases hg
 obtain⟨n,hn,e⟩:=hn
 rw [e,h.pages n hn] at hg
 cases hz:iG (find p n) with
 | true=>rw [hz,if_pos rfl] at hg;cases hg
 | false=>
  rw [hz,if_neg (by simp)] at hg
  injection hg with hg
  exact⟨n,hn,e,hg.symm,hz⟩
theorem yH(c:UInt8)(a b:List UInt8):bytesBefore (c :: a) (c :: b)=bytesBefore a b:=by
 have:¬c<c:=UInt8.lt_irrefl c
 simp [bytesBefore,this]
theorem PU{x n m:Nat}(hn:n<256)(hm:m<256)(h:bytesBefore (jm x n) (jm x m)=true):n<m:=by
 have e:∀ k,jm x k=80 :: UInt8.ofNat (x / 16777216) :: UInt8.ofNat (x / 65536 % 256) :: UInt8.ofNat (x / 256 % 256) :: UInt8.ofNat (x % 256) :: 0 :: [UInt8.ofNat k]:=fun k=>rfl
 rw [e,e,yH,yH,yH,yH,yH,yH] at h
 simp only [bytesBefore,Bool.and_false,Bool.or_false,decide_eq_true_eq] at h
 have:=UInt8.lt_iff_toNat_lt.1 h
 simpa [Nat.mod_eq_of_lt hn,Nat.mod_eq_of_lt hm] using this
theorem zO{x n:Nat}(hn:n<32)(v:List UInt8)(g:Bool):Yd ⟨jm x n,v,g⟩=⟨n,v⟩:=by
 have e:jm x n = [80,UInt8.ofNat (x / 16777216),UInt8.ofNat (x / 65536 % 256),UInt8.ofNat (x / 256 % 256),UInt8.ofNat (x % 256),0,UInt8.ofNat n]:=rfl
 unfold Yd
 rw [e]
 have:(UInt8.ofNat n).toNat=n:=by simp;omega
 simp [this]
theorem Holds.load{N:Nat}{M:List Rw}{x:Nat}{p:List Pg}(hM:Good N M)(h:Holds M x p)(hp:right p=true):mV (aP M (headB x))=true∧ldL (aP M (headB x))=p:=by
 have hs:=hM.sorted
 have hmem:∀ q∈ldO (aP M (headB x)),∃ r n,r∈M∧n<32∧r.key=jm x n∧r.val=find p n∧iG (find p n)=false∧q=⟨n,find p n⟩:=fun q hq=>by
  obtain⟨c,hc,rfl⟩:=List.mem_map.1 hq
  obtain⟨r,hr,rfl⟩:=List.mem_map.1 hc
  obtain⟨h1,h2⟩:=List.mem_filter.1 hr
  obtain⟨n,hn,e1,e2,e3⟩:=FN hs h h1 h2
  refine⟨r,n,h1,hn,e1,e2,e3,?_⟩
  unfold oU
  rw [e1,e2]
  exact zO hn _ _
 have hlen:∀ n,(find p n).length=32:=fun n=>GV p (-1) n hp
 have hright:right (ldO (aP M (headB x)))=true:=by
  refine Yh _ _ (fun q hq=> ?_) ?_
  ·obtain⟨r,n,_,hn,_,_,hz,rfl⟩:=hmem q hq
   exact⟨by simp only;omega,by simp only;omega,hlen n,hz⟩
  ·unfold ldO aP
   rw [List.pairwise_map,List.pairwise_map]
   refine (hs.filter _).imp_of_mem ?_
   intro a b ha hb hab
   obtain⟨a1,a2⟩:=List.mem_filter.1 ha
   obtain⟨b1,b2⟩:=List.mem_filter.1 hb
   obtain⟨n,hn,e1,e2,_⟩:=FN hs h a1 a2
   obtain⟨m,hm,e3,e4,_⟩:=FN hs h b1 b2
   unfold oU
   rw [e1,e3] at hab ⊢
   rw [zO hn,zO hm]
   have:=PU (by omega) (by omega) hab
   simp only
   omega
 have h7:QK (aP M (headB x))=true:=by
  unfold QK
  rw [List.all_eq_true]
  intro c hc
  obtain⟨r,hr,rfl⟩:=List.mem_map.1 hc
  obtain⟨h1,h2⟩:=List.mem_filter.1 hr
  obtain⟨n,_,e1,_⟩:=FN hs h h1 h2
  show (r.key.length==7)=true
  rw [e1]
  rfl
 have hok:mV (aP M (headB x))=true:=by unfold mV;rw [h7,hright];rfl
 refine⟨hok,?_⟩
 unfold ldL
 rw [if_pos hok]
 refine IU hright hp fun n hn=> ?_
 cases hz:iG (find p n) with
 | true=>
  rw [GY hz (hlen n)]
  rcases GR (ldO (aP M (headB x))) n with h0 | ⟨q,hq,hqn,_⟩
  ·exact h0
  ·obtain⟨r,m,_,hm,_,_,hzm,rfl⟩:=hmem q hq
   simp only at hqn
   have:m=n:=by omega
   subst this
   rw [hz] at hzm
   cases hzm
 | false=>
  have hg:=h.pages n hn
  rw [hz,if_neg (by simp),jD] at hg
  obtain⟨r,hr,hv⟩:=Option.map_eq_some_iff.1 hg
  obtain⟨hrm,hrk⟩:=bC hr
  have hq:(⟨n,find p n⟩:Pg)∈ldO (aP M (headB x)):=by
   refine List.mem_map.2 ⟨oU r,List.mem_map.2 ⟨r,List.mem_filter.2 ⟨hrm,by rw [hrk];exact uO x n⟩,rfl⟩,?_⟩
   unfold oU
   rw [hrk,hv]
   exact zO hn _ _
  exact Cc _ _ _ n hright hq rfl
end Go.Proofs.YtmelaiefbpdifaaGreatDoor.Pgs
/- Load, by the program and by the document. -/
namespace Go.Proofs.YtmelaiefbpdifaaGreatDoor.Pgs
open Go.RowKit Go.Maps
theorem kN.under{w w1:World}{F:List Nat}{rp mb lp p N c:Nat}{M:List Rw}(h:kN w w1 F rp mb lp p N M c)(q:List UInt8):
  Calls Tryz.prog 69 #[.pointer (some ⟨rp,0,none⟩),.string (strOf q)] w1 fun e w'=>∃ v,e = .returned v∧fV chE 3 w1 w' v (aP M q):=by
 have hf:=h.few
 obtain⟨s,n,h5,_,hN,_,_,hM⟩:=h
 refine (Ik w1 rp mb lp M q h5.rows hM.sorted (by have:=hM.length;omega)).mono ?_
 rintro e w' ⟨v,he,h1,_⟩
 exact⟨v,he,h1⟩
def XE(b:Bool):Int:=if b then 0 else 25
theorem NJ(a b:Nat)(ha:a<256)(hb:b<256):bits BinOp.or IntKind.i64 ((a:Int)*256) (b:Int)=((a*256+b:Nat):Int):=by
 have e1:(a:Int)*256=((a*256:Nat):Int):=by omega
 have h1:(BitVec.ofInt 64 ((a*256:Nat):Int)).toNat=a*256:=by
  rw [BitVec.ofInt_natCast,BitVec.toNat_ofNat];exact Nat.mod_eq_of_lt (by omega)
 have h2:(BitVec.ofInt 64 (b:Int)).toNat=b:=by
  rw [BitVec.ofInt_natCast,BitVec.toNat_ofNat];exact Nat.mod_eq_of_lt (by omega)
 have h3:a*256 ||| b=a*256+b:=by
  have:=Nat.shiftLeft_add_eq_or_of_lt (b:=b) (i:=8) (by omega) a
  rw [Nat.shiftLeft_eq] at this
  exact this.symm
 rw [e1]
 show IntKind.i64.wrap ((BitVec.ofInt 64 ((a*256:Nat):Int) ||| BitVec.ofInt 64 (b:Int)).toNat:Int)=_
 rw [BitVec.toNat_or,h1,h2,h3,IntKind.wrap_i64]
 omega
theorem Nw{k:List UInt8}(h:k.length=7):k.drop 5 = [k.getD 5 0,k.getD 6 0]:=by
 match k,h with
 | [_,_,_,_,_,_,_],_=>rfl
theorem Tv{U:List Ch}{k:Nat}(h:k<U.length):ldO (U.take (k+1))=ldO (U.take k)++[Yd U[k]]:=by
 rw [List.take_add_one,List.getElem?_eq_getElem h]
 unfold ldO
 rw [List.map_append]
 rfl
set_option maxRecDepth 100000 in
set_option maxHeartbeats 2000000 in
theorem NR{w w1:World}{F:List Nat}{rp mb lp p N c:Nat}{M:List Rw}(h:kN w w1 F rp mb lp p N M c)(x:Nat)(hx:x<4294967296):
  Calls Tryz.prog 68 #[.pointer (some ⟨rp,0,none⟩),.int .u32 (x:Int)] w1 fun e w'=>∃ v,e = .returned (.tuple #[v,.int .i64 (XE (mV (aP M (headB x))))])∧Mine pgE 2 138 w1 w' v (ldL (aP M (headB x))):=by
 have Zi:(aP M (headB x)).length≤1024:=by
  have h1:=h.good.length
  have h2:=h.few
  have h3:(aP M (headB x)).length≤M.length:=by unfold aP;rw [List.length_map];exact List.length_filter_le _ _
  omega
 have hpre:∀ c∈aP M (headB x),5≤c.key.length:=fun c hc=>by
  obtain⟨r,hr,rfl⟩:=List.mem_map.1 hc
  have:=(nR.1 (List.mem_filter.1 hr).2).1
  exact this
 have zo:=fun W (k:Only [] w1 W)=>kN.under (h.keep k) (headB x)
 have hp:=xW w1 x hx
 have hhs:(strOf (headB x)).size=5:=by rw [aj];rfl
 generalize strOf (headB x)=hd at *
 generalize hU:aP M (headB x)=U at *
 replace hU:=Lib.hid hU
 replace zo:=Lib.hid zo
 replace hpre:=Lib.hid hpre
 have hz0:=(zero_of_info jW).1
 obtain⟨Z,hZ⟩:∃ Z,Z=(ak (zs 1024)).toArray:=⟨_,rfl⟩
 rw [←hZ] at hz0
 have hZ3:Z.size=1024:=by rw [hZ];simp [ak,zs]
 clear hZ h
 go_enter Tryz.func68,Tryz.ntmps68
 go_wp2_with fail
 refine hp.mono ?_;rintro e w2 ⟨rfl,k2⟩
 go_wp2_with fail
 refine (zo.out _ k2).mono ?_;rintro e w3 ⟨v,rfl,hne⟩
 obtain⟨B,cb,rfl,hcb,hB,k3,_⟩:=hne
 have k13:=k2.trans k3
 obtain⟨n,hn⟩:∃ n,n=U.length:=⟨_,rfl⟩
 rw [←hn] at Zi hcb ⊢
 have HN:=Lib.hid hn
 clear hn k2 k3 hp
 go_wp2_with fail
 go_loopw [6,18] (fun v i wr=>∃ k:Nat,k≤n∧i = .int .i64 k∧Hid (∀ c∈U.take k,c.key.length=7)∧Mine pgE 2 138 w3 wr v (ldO (U.take k))) (fun _ i _=>n-(intOf i).toNat)
 case atStart=>exact⟨0,Nat.zero_le _,rfl,fun c hc=>by simp at hc,by rw [List.take_zero];exact Mine.start _ _ _ (Only.refl [] w3)⟩
 case round=>
  obtain⟨k,hk,rfl,h7,aG⟩:=hrel
  by_cases hlt:k<n
  ·have hk':k<U.length:=by have:=HN.out;omega
   obtain⟨g,off,rfl,_,hat⟩:=hB.get hk'
   obtain⟨c0,c1,c2⟩:=kT (hat.kept aG.only (by simp)) hk'
   have hnext:=Tv hk'
   have h5:=hpre.out U[k] (List.getElem_mem hk')
   have hmem:U[k]∈U:=List.getElem_mem hk'
   have hstep:U[k].key.length=7→Hid (∀ c∈U.take (k+1),c.key.length=7):=fun he c hc=>by
    rw [List.take_add_one,List.getElem?_eq_getElem hk',List.mem_append] at hc
    rcases hc with hc | hc
    ·exact h7.out c hc
    ·simp at hc;rw [hc];exact he
   have hL:(ldO (U.take k)).length≤1024:=by unfold ldO;rw [List.length_map,List.length_take];omega
   generalize U[k]=ch at *
   obtain⟨ky,vl,gn⟩:=ch
   simp only at c0 c1 c2 h5 hstep
   have hfr:=iy (P:=Tryz.prog) 9 Tryz.underlying9 ky 5 5 .i64 rfl h5
   have hsz:=aj (ky.drop 5)
   rw [List.length_drop] at hsz
   have hpg:Yd ⟨ky,vl,gn⟩=⟨(((ky.getD 5 0).toNat*256+(ky.getD 6 0).toNat:Nat):Int),vl⟩:=rfl
   rw [hpg] at hnext
   generalize ldO (U.take k)=L at *
   generalize hvs:strOf vl=vs at *
   generalize hks:strOf ky=ks at *
   replace hvs:=Lib.hid hvs
   replace hks:=Lib.hid hks
   clear hat hpg
   by_cases h7k:ky.length=7
   ·have hst:=hstep h7k
    rw [Nw h7k] at hfr hsz
    have hns:(strOf [ky.getD 5 0,ky.getD 6 0]).size=2:=by rw [aj];rfl
    have ix0:=bQ (P:=Tryz.prog) 9 Tryz.underlying9 [ky.getD 5 0,ky.getD 6 0] 0 0 .i64 rfl (by simp)
    have ix1:=bQ (P:=Tryz.prog) 9 Tryz.underlying9 [ky.getD 5 0,ky.getD 6 0] 1 1 .i64 rfl (by simp)
    have acY:=UInt8.toNat_lt (ky.getD 5 0)
    have abK:=UInt8.toNat_lt (ky.getD 6 0)
    have hor:=NJ (ky.getD 5 0).toNat (ky.getD 6 0).toNat acY abK
    change ∀ W:World,(Instr.index 9 (.string (strOf [ky.getD 5 0,ky.getD 6 0])) (.int .i64 0)).run Tryz.prog W = .ok (.int .u8 (((ky.getD 5 0).toNat:Nat):Int)) W at ix0
    change ∀ W:World,(Instr.index 9 (.string (strOf [ky.getD 5 0,ky.getD 6 0])) (.int .i64 1)).run Tryz.prog W = .ok (.int .u8 (((ky.getD 6 0).toNat:Nat):Int)) W at ix1
    clear hsz hstep
    generalize strOf [ky.getD 5 0,ky.getD 6 0]=ns at *
    generalize (ky.getD 5 0).toNat=a at *
    generalize (ky.getD 6 0).toNat=b at *
    have hwa:IntKind.i64.wrap (a:Int)=a:=by rw [IntKind.wrap_i64];omega
    have hwb:IntKind.i64.wrap (b:Int)=b:=by rw [IntKind.wrap_i64];omega
    have aea:IntKind.i64.wrap ((a:Int)*256)=(a:Int)*256:=by rw [IntKind.wrap_i64];omega
    replace h7k:=Lib.hid h7k
    replace hnext:=Lib.hid hnext
    have hlow:=Lib.hid (nD aG)
    go_wp2
    obtain⟨W1,hW1⟩:∃ W1,W1=wr.alloc (.cells #[.string ks,.string vs,.bool gn] 133):=⟨_,rfl⟩
    rw [←hW1]
    have k1:Only [] wr W1:=by rw [hW1];exact (Only.refl [] wr).alloc _
    have p1:Blk W1 wr.heap.size 133 #[.string ks,.string vs,.bool gn]:=by rw [hW1];exact Blk.new wr _ _
    have e1:=p1.cell 1
    simp only [List.getElem?_toArray,List.getElem?_cons_zero,List.getElem?_cons_succ] at e1
    obtain⟨q,hq⟩:∃ q,q=wr.heap.size:=⟨_,rfl⟩
    rw [←hq] at e1 ⊢
    have hm1:=aG.keep k1.drew
    have e2:=(Only.refl [] W1).drew.cell e1 (by simp)
    replace hq:=Lib.hid hq
    replace hW1:=Lib.hid hW1
    clear c0 c1 c2 p1 k1 e1 aG
    refine wp_region_held_drew (S:=fun w'=>w'.cell? ⟨q,1,none⟩=some (.string vs)) (by kernel_rfl) e2 (fun hHeld=> ?_)
    generalize W1.drew=wd at *
    refine rwT 0 (u6) hHeld ?_;simp only [rwA]
    refine rwT 1 (.string ns) hHeld ?_;simp only [rwA]
    refine rwY 2 (.int .u8 (a:Int)) hHeld ?_ (hy:=Or.inl ⟨by rfl,fun w' hSw=>(by have i0:=ix0;go_simp)⟩);simp only [rwA]
    refine rwT 3 (.int .i64 (a:Int)) hHeld ?_;simp only [rwA]
    refine rwT 4 (.int .i64 ((a:Int)*256)) hHeld ?_;simp only [rwA]
    refine rwT 5 (.string ns) hHeld ?_;simp only [rwA]
    refine rwY 6 (.int .u8 (b:Int)) hHeld ?_ (hy:=Or.inl ⟨by rfl,fun w' hSw=>(by have i1:=ix1;go_simp)⟩);simp only [rwA]
    refine rwT 7 (.int .i64 (b:Int)) hHeld ?_;simp only [rwA]
    refine rwT 8 (.int .i64 ((a*256+b:Nat):Int)) hHeld ?_;simp only [rwA]
    refine rwT 9 (.pointer (some ⟨q,1,none⟩)) hHeld ?_;simp only [rwA]
    refine rwY 10 (.string vs) hHeld ?_ (hy:=Or.inl ⟨by rfl,fun w' hSw=>(by have hc:=hSw;go_simp)⟩);simp only [rwA]
    refine rwT 11 (.agg #[.int .i64 ((a*256+b:Nat):Int),.string vs]) hHeld ?_;simp only [rwA]
    refine ah 12 rfl (by kernel_rfl) (fun K hK=> ?_)
    go_simp
    have k7:Only [] wd (wd.alloc (.cells #[.int .i64 ((a*256+b:Nat):Int),.string vs] 138)):=(Only.refl [] wd).alloc _
    have e7:=k7.cell e2 (by simp)
    have hm7:=hm1.keep k7
    have b7:Blk (wd.alloc (.cells #[.int .i64 ((a*256+b:Nat):Int),.string vs] 138)) wd.heap.size 138 (pgE ⟨((a*256+b:Nat):Int),vl⟩).toArray:=by
     have:=Blk.new wd 138 (pgE ⟨((a*256+b:Nat):Int),vl⟩).toArray
     simp only [pgE,hvs.out] at this ⊢
     exact this
    go_wp2_with fail
    refine hK.out _ _ e7 (fun hHeld=> ?_)
    clear hK K
    refine ah 13 rfl (by kernel_rfl) (fun K hK=> ?_)
    refine oz rfl _ _ 57 rfl 138 _ 24 cO (by decide) nS Tryz.underlying57 nX rfl u6 L.length L rfl hm7.own wd.heap.size ⟨((a*256+b:Nat):Int),vl⟩ _ rfl b7 (by unfold maxLen;omega) (by omega) ?_
    intro vv w8 h8 g8 a8
    have hm8:=hm7.pushed h8 g8 a8
    have r8:w8.cell? ⟨q,1,none⟩=some (.string vs):=(sS g8).cell e7 (by
     intro hqm
     have h1:=hlow.out q (by simpa using hqm)
     have h2:=hq.out
     omega)
    go_wp2_with fail
    refine hK.out _ _ r8 (fun hHeld=> ?_)
    clear hK K
    refine ah 14 rfl (by kernel_rfl) (fun K hK=> ?_)
    go_simp
    go_wp2_with fail
    refine hK.out _ _ r8 (fun hHeld=> ?_)
    clear hK K
    refine wpAnyH_done (by kernel_rfl) ?_ _
    clear hHeld
    rw [←hnext.out] at hm8
    replace hm8:=Lib.hid hm8
    clear hm7 hm1 b7 h8 g8 a8 e2 e7 r8
    go_wp2
    go_roundw
    case rel=>exact⟨k+1,by omega,by go_num,hst,hm8.out⟩
    case measure=>simp [intOf];omega
   ·have hbad:mV U=false:=by
     unfold mV
     rw [Bool.and_eq_false_iff]
     refine .inl ?_
     apply Bool.eq_false_iff.2
     intro h
     unfold QK at h
     rw [List.all_eq_true] at h
     have:=h _ hmem
     simp only [beq_iff_eq] at this
     exact h7k this
    have hbl:ldL U = []:=by unfold ldL;rw [hbad];rfl
    replace hbad:=Lib.hid hbad
    replace hbl:=Lib.hid hbl
    have hne:¬((strOf (ky.drop 5)).size:Int)=2:=by omega
    generalize strOf (ky.drop 5)=ns at *
    have hfin:=Lib.hid (k13.trans (aG.only.alloc (.cells #[.string ks,.string vs,.bool gn] 133)))
    clear hstep hsz aG
    replace h7k:=Lib.hid h7k
    go_wp2
    go_ret2
    exact⟨_,by rw [hbad.out];rfl,by rw [hbl.out];exact Mine.start _ _ _ hfin.out⟩
  ·have hkn:U.take k=U:=List.take_of_length_le (by have:=HN.out;omega)
   rw [hkn] at aG h7
   have h77:QK U=true:=by
    unfold QK
    rw [List.all_eq_true]
    intro c hc
    simpa using h7.out c hc
   obtain⟨A,ca,rfl,hA,_,_⟩:=lG aG
   have k3r:=aG.only
   have hok:mV U=right (ldO U):=by unfold mV;rw [h77];rfl
   have hll:mV U=true→ldL U=ldO U:=fun h=>by unfold ldL;rw [if_pos h]
   have hl0:mV U=false→ldL U = []:=fun h=>by unfold ldL;rw [h];rfl
   generalize hO:ldO U=O at *
   replace hO:=Lib.hid hO
   obtain⟨m,hm⟩:∃ m,m=O.length:=⟨_,rfl⟩
   have aaL:m≤1024:=by rw [hm,←hO.out];unfold ldO;rw [List.length_map];have:=HN.out;omega
   have g1:=fQ wr A ca m O hm hA (by omega)
   rw [←hm]
   replace hll:=Lib.hid hll
   replace hl0:=Lib.hid hl0
   replace hok:=Lib.hid hok
   clear aG hB h7 hkn h77
   cases hr:right O with
   | false=>
    have hbad:=Lib.hid (hok.out.trans hr)
    have hbl:=Lib.hid (hl0.out hbad.out)
    rw [hr] at g1
    replace hm:=Lib.hid hm
    replace hr:=Lib.hid hr
    go_wp2_with fail
    refine g1.mono ?_;rintro e w5 ⟨rfl,k5⟩
    have hfin:=Lib.hid ((k13.trans k3r).trans k5)
    clear k5 k3r k13
    go_wp2
    go_ret2
    exact⟨_,by rw [hbad.out];rfl,by rw [hbl.out];exact Mine.start _ _ _ hfin.out⟩
   | true=>
    have hgood:=Lib.hid (hok.out.trans hr)
    have hgl:=Lib.hid (hll.out hgood.out)
    have g2:=fun W (h:Els pgE 2 W A O)=>jL W A ca m O hm h hr
    have hbl:=fM hr
    have hpb:=Ee hr
    rw [hr] at g1
    replace hm:=Lib.hid hm
    replace hr:=Lib.hid hr
    generalize body O=b at *
    obtain⟨C,hC⟩:∃ C,C=(ak b).toArray:=⟨_,rfl⟩
    have hone:C.all (·.oneCell')=true:=by rw [hC];exact gQ b
    have hC3:C.size=1024:=by rw [hC];simp [ak,hbl]
    rw [←hC] at g2
    have hs1:(Tryz.prog.info? 146).map (·.size)=some C.size:=by rw [hC3];exact iJ
    have hs2:Z.size=C.size:=hZ3.trans hC3.symm
    replace hs1:=Lib.hid hs1
    replace hs2:=Lib.hid hs2
    replace hone:=Lib.hid hone
    replace hC3:=Lib.hid hC3
    replace hC:=Lib.hid hC
    replace hbl:=Lib.hid hbl
    replace hpb:=Lib.hid hpb
    replace g2:=Lib.hid g2
    go_wp2_with fail
    refine g1.mono ?_;rintro e w5 ⟨rfl,k5⟩
    go_wp2_with fail
    refine (g2.out _ (hA.kept k5 (by simp))).mono ?_;rintro e w6 ⟨rfl,k6⟩
    have k16:=((k13.trans k3r).trans k5).trans k6
    clear k5 k6 k3r k13 hA
    go_wp2_with (refine aS rfl 146 (.tmp 11) (.tmp 49) rfl w6.heap.size Z C rfl rfl (Blk.new w6 _ _) hs1.out hs2.out hone.out ?_;intro w7 h7 k7)
    have hbb:vK w7 w6.heap.size b:=⟨by rw [hC.out] at h7;exact h7,hbl.out⟩
    have k17:=Lib.hid (k16.trans (((Only.refl [] w6).alloc (.cells Z 146)).then k7 (by simp)))
    replace hbb:=Lib.hid hbb
    clear h7 k7 k16
    refine (wI _ _ _ hbb.out).mono ?_;rintro e w8 ⟨v,rfl,hm8⟩
    rw [hpb.out] at hm8
    have hfin:=Lib.hid (Mine.from k17.out hm8)
    clear hm8
    go_wp2
    go_ret2
    exact⟨v,by rw [hgood.out];rfl,by rw [hgl.out];exact hfin.out⟩
end Go.Proofs.YtmelaiefbpdifaaGreatDoor.Pgs
