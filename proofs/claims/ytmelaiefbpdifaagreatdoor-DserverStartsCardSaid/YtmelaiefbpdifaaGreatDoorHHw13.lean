/- The handlers of a data server: write. -/
import Derived.Test.YtmelaiefbpdifaaGreatDoorHHe13
namespace Go.Proofs.YtmelaiefbpdifaaGreatDoor.Srv
open Go.RowKit Go.Maps
open Pgs (Pg pgE cO jm headB find lD sU QJ oV jM wK wL Ia)
section
variable {w w1:World}{R:List Nat}{sb dp n c rp mb lp lb:Nat}{σ:Sv}{s:St}{F:List Nat}{vs:Nat→Value}{D:DataW Value}
theorem FW{w w1:World}{v:Value}{l:List Pg}(h:Mine pgE 2 138 w w1 v l):∃ A c,v = .slice A l.length c∧l.length≤c∧Els pgE 2 w1 A l∧∀ a,A=some a→w.heap.size≤a.block∧a.block<w1.heap.size:=by
 have hlow:=Pgs.nD h
 obtain⟨A,c,e,h1,h2,h3,h4⟩:=h.shape cO
 refine⟨A,c,e,h2,h1,fun a ha=>⟨h3 a ha,?_⟩⟩
 subst e
 rcases h4 with h4 | ⟨g,c',h4⟩
 ·injection h4 with h4 _ _
  rw [ha] at h4
  cases h4
 ·injection h4 with h4 _ _
  rw [ha] at h4
  injection h4 with h4
  subst h4
  subst ha
  exact hlow g rfl
theorem dA.aax{w8 w9:World}(h:dA w w1 R sb dp σ s n false c rp mb lp lb F vs D)(hcc:c<1000000)(k18:Only [] w1 w8)(k9:Only [lb] w8 w9)(x:Nat)(hx:x<4294967296)(o:List Pg)(ho:Pgs.right o=true)(A:Option Addr)(j:Nat)(hj:o.length≤j)(hE:Els pgE 2 w8 A o)
  (hA:∀ a,A=some a→w1.heap.size≤a.block∧a.block<w8.heap.size) (D9:DataW Value) (hl:fD w9 lb (c+1) (qG σ.L x o) (fun y=>if y=x then .slice A o.length j else vs y) D9):
  ∃ R',vO w w9 R' sb dp { σ with L:=qG σ.L x o } s n false (c+1)∧Only R w1 w9∧∀ i∈R',i∈R∨w1.heap.size≤i:=by
 have h8:=h.keep k18
 have adE:=h.inR lb (by simp)
 have hlb:=h.new lb adE
 have a3:=h.ap3
 simp only [List.mem_cons,not_or] at a3
 have hs1:=k18.size
 have hs9:=k9.size
 refine⟨R++(A.map Addr.block).toList,⟨rp,mb,lp,lb,F,fun y=>if y=x then .slice A o.length j else vs y,D9,⟨h8.own.own.beside k9 (h8.only.then k9 (fun i hi=>.inr (by simp at hi;rw [hi];exact hlb.1))) (fun i hi hm=> ?_),h8.own.rows.kept k9 (by simp;exact fun e=>a3.1 e.symm) (by simp;exact fun e=>a3.2.1 e.symm),h8.own.ne1,h8.own.ne2,h8.own.ne3,h8.own.out1,h8.own.Ye,h8.own.Vh,h8.own.SI⟩,
  h8.hdr.kept k9 (by simp;exact h.ap1),hl,fun z q hz=> ?_,h.ap1,h.ap2,h.ap3,fun i hi=>List.mem_append.2 (.inl (h.inR i hi)),fun i hi=> ?_,h.len,?_,by omega⟩,?_,?_⟩
 ·simp at hi;rw [hi] at hm
  rcases List.mem_cons.1 hm with hm | hm
  ·exact a3.2.2.1 hm
  ·exact a3.2.2.2 hm
 ·by_cases hzx:z=x
  ·subst hzx
   have hz':iU (qG σ.L z o) z=some q:=hz
   rw [qj] at hz'
   injection hz' with hz'
   subst hz'
   refine⟨A,j,if_pos rfl,hj,hE.kept k9 (fun a ha hm=> ?_),fun a ha=>⟨List.mem_append.2 (.inr (by rw [ha];simp)),fun hm=> ?_⟩⟩
   ·simp at hm
    have:=(hA a ha).1
    omega
   ·have h1:=(hA a ha).1
    have h2:a.block∈sb :: lb :: rp :: mb :: lp :: F:=by
     simp only [List.mem_cons] at hm ⊢
     rcases hm with hm | hm | hm | hm | hm
     ·exact .inl hm
     ·exact .inr (.inl hm)
     ·exact .inr (.inr (.inr (.inl hm)))
     ·exact .inr (.inr (.inr (.inr (.inl hm))))
     ·exact .inr (.inr (.inr (.inr (.inr hm))))
    have:=(h.new _ (h.inR _ h2)).2
    omega
  ·have hz':iU (qG σ.L x o) z=some q:=hz
   rw [nU hzx] at hz'
   obtain⟨A2,k2,e1,e2,e3,e4⟩:=h8.lists z q hz'
   refine⟨A2,k2,by rw [if_neg hzx];exact e1,e2,e3.kept k9 (fun a ha hm=> ?_),fun a ha=>⟨List.mem_append.2 (.inl (e4 a ha).1),(e4 a ha).2⟩⟩
   simp at hm
   have:=(e4 a ha).2
   rw [hm] at this
   simp at this
 ·rcases List.mem_append.1 hi with hi | hi
  ·have:=h.new i hi
   exact⟨by omega,by omega⟩
  ·cases hA':A with
   | none=>rw [hA'] at hi;simp at hi
   | some a=>
    rw [hA'] at hi
    simp at hi
    have h1:=hA a hA'
    have h2:=h.only.size
    rw [hi]
    exact⟨by omega,by omega⟩
 ·have hok:=h.ok
  refine⟨hok.good,hok.few,hok.uniq.put x o,fun q hq=> ?_,?_,hok.seat,hok.me,hok.jC⟩
  ·rcases YX hq with rfl | hq
   ·exact⟨ho,hx⟩
   ·exact hok.loose q hq
  ·have:=Y0 σ.L x o
   have:=hok.len
   simp only
   omega
 ·exact (k18.more (T:=R) (by simp)).then k9 (fun i hi=>by simp at hi;rw [hi];exact .inl adE)
 ·intro i hi
  rcases List.mem_append.1 hi with hi | hi
  ·exact .inl hi
  ·cases hA':A with
   | none=>rw [hA'] at hi;simp at hi
   | some a=>
    rw [hA'] at hi
    simp at hi
    rw [hi]
    exact .inr (hA a hA').1
set_option maxRecDepth 100000 in
set_option maxHeartbeats 4000000 in
theorem dA.aaf(h:dA w w1 R sb dp σ s n false c rp mb lp lb F vs D)(hcc:c<1000000)(p:Pk)(hp:p.Ok)(hsz:p.data.size≤128)(hcode:p.code=1):
  Calls Tryz.prog 158 #[.pointer (some ⟨sb,0,none⟩),pkV p] w1 fun e w'=>YF w w1 w' R sb dp σ s n c p e:=by
 have hM:vO w w1 R sb dp σ s n false c:=⟨rp,mb,lp,lb,F,vs,D,h⟩
 have hcur:=fun W (k:Only [] w1 W)=>(h.keep k).current p hp.file
 obtain⟨f0,f1⟩:=hp.file
 obtain⟨o0,o1⟩:=hp.off
 have b0:Blk (w1.alloc (.cells (pkA p) 53)) w1.heap.size 53 (pkA p):=Blk.new w1 _ _
 have k0:Only [] w1 (w1.alloc (.cells (pkA p) 53)):=(Only.refl [] w1).alloc _
 have z1:Blk ((w1.alloc (.cells (pkA p) 53)).alloc (.cells dS 51)) (w1.heap.size+1) 51 dS:=by
  have:=Blk.new (w1.alloc (.cells (pkA p) 53)) 51 dS
  rwa [show (w1.alloc (.cells (pkA p) 53)).heap.size=w1.heap.size+1 by simp] at this
 have k1:=k0.alloc (.cells dS 51)
 have hwi:=fun W=>jI W p.off (p.data.size:Int) ⟨by omega,by omega⟩ ⟨by omega,by omega⟩
 have hu:IntKind.u64.wrap (p.data.size:Int)=(p.data.size:Int):=by rw [IntKind.wrap_u64];omega
 have Oc:∀ (C:Com) er σ',er=wrE σ p→σ'=wrS σ p→Did C σ p [] er σ':=fun C er σ' h1 h2=>by
  unfold Did
  rw [if_pos hcode]
  exact⟨rfl,h1,h2⟩
 have hstill:=fun W (k:Only [] w1 W) er (h0:wrE σ p≠0) (h1:er=wrE σ p)=>rZ hM hcc k (Oc NoC er σ h1 (by unfold wrS;rw [if_neg h0])) (by simp)
 clear hM hcode
 cases hc:cur σ.M p.file.toNat p.epoch with
 | false=>
  have e1:wrE σ p=17:=by unfold wrE;rw [if_pos hc]
  have hfin:=fun W (k:Only [] w1 W)=>hstill W k 17 (by rw [e1];decide) e1.symm
  replace hfin:=Lib.hid hfin
  rw [hc] at hcur
  clear h hc e1 hwi hu Oc hstill
  go_enter Tryz.func158,Tryz.ntmps158
  go_wp2_with (first
   | (refine bG p rfl (.tmp 11) rfl w1.heap.size rfl b0 ?_)
   | (refine aW p dS rfl rfl (.tmp 6) (.tmp 12) rfl (w1.heap.size+1) rfl rfl z1 ?_;intro w2 b2 k2)
   | (refine bJ p rfl (.tmp 6) rfl (w1.heap.size+1) rfl b2 ?_))
  have k12:Only [] w1 w2:=k1.then k2 (fun i hi=>.inr (by simp at hi;omega))
  have o2:OpB w2 (w1.heap.size+1) p:=⟨b2⟩
  refine (hcur _ k12).mono ?_;rintro e w3 ⟨rfl,k3⟩
  have k13:=k12.trans k3
  have o3:=o2.kept k3 (by simp)
  clear k2 k3 o2 b2 k12 hcur b0 z1 k0 k1
  go_wp2
  go_ret2
  exact hfin.out _ k13
 | true=>
 rw [hc] at hcur
 have hcN:¬cur σ.M p.file.toNat p.epoch=false:=by rw [hc];simp
 by_cases hr:p.off+(p.data.size:Int)≤1024
 case neg=>
  have d1:decide (p.off+(p.data.size:Int)≤1024)=false:=by simpa using hr
  simp only [d1] at hwi
  have e1:wrE σ p=15:=by unfold wrE;rw [if_neg hcN,if_pos (by omega)]
  have hfin:=fun W (k:Only [] w1 W)=>hstill W k 15 (by rw [e1];decide) e1.symm
  replace hfin:=Lib.hid hfin
  clear h hc e1 Oc hstill hcN hr d1
  go_enter Tryz.func158,Tryz.ntmps158
  go_wp2_with (first
   | (refine bG p rfl (.tmp 11) rfl w1.heap.size rfl b0 ?_)
   | (refine aW p dS rfl rfl (.tmp 6) (.tmp 12) rfl (w1.heap.size+1) rfl rfl z1 ?_;intro w2 b2 k2)
   | (refine bJ p rfl (.tmp 6) rfl (w1.heap.size+1) rfl b2 ?_))
  have k12:Only [] w1 w2:=k1.then k2 (fun i hi=>.inr (by simp at hi;omega))
  have o2:OpB w2 (w1.heap.size+1) p:=⟨b2⟩
  refine (hcur _ k12).mono ?_;rintro e w3 ⟨rfl,k3⟩
  have k13:=k12.trans k3
  have o3:=o2.kept k3 (by simp)
  clear k2 k3 o2 b2 k12 hcur b0 z1 k0 k1
  obtain⟨_,_,x4,_,_,x12⟩:=o3.cells
  go_wp2_with fail
  refine (hwi _).mono ?_;rintro e w4 ⟨rfl,rfl⟩
  go_wp2
  go_ret2
  exact hfin.out _ k13
 have d1:decide (p.off+(p.data.size:Int)≤1024)=true:=by simpa using hr
 simp only [d1] at hwi
 have hwr:wrE σ p=if 0<Gg σ p∧FP σ<Gg σ p then 6 else 0:=by unfold wrE;rw [if_neg hcN,if_neg (by omega)]
 have zL:=fun W (k:Only [] w1 W)=>(h.keep k).object p.file p.file.toNat (by omega) (by omega)
 have hrt:Pgs.right (Dc σ p)=true:=oJ h.ok p.file.toNat
 have hrn:Pgs.right (H8 σ p)=true:=Pgs.Pq _ _ _
 have hsl:p.data.data.toList.length=p.data.size:=by simp
 have hput:=fun W A j (hA:Els pgE 2 W A (Dc σ p))=>Pgs.put_any W A j _ (Dc σ p) rfl hA (by have:=Pgs.eU hrt;omega) p.off p.data.data.toList (by omega)
 rw [sU hrt o0 (by rw [hsl];exact hr),mX] at hput
 change ∀ W A j,Els pgE 2 W A (Dc σ p)→Calls _ _ _ W fun e w'=>∃ v,e = .returned (.tuple #[v,.int .i64 0])∧Mine pgE 2 138 W w' v (H8 σ p) at hput
 have hf1:=fun W (k:Only [] w1 W) A j m (hm:m=(Dc σ p).length) (hA:Els pgE 2 W A (Dc σ p))=>GH W sb rp mb lp σ.M (k.cell h.cells.2.2.2.1 (by simp)) (h.own.rows.kept k (by simp) (by simp)) p.file p.file.toNat (by omega) (by omega) A j m (Dc σ p) hm hA hrt
 have hf2:=fun W (k:Only [] w1 W) A j m (hm:m=(H8 σ p).length) (hA:Els pgE 2 W A (H8 σ p))=>GH W sb rp mb lp σ.M (k.cell h.cells.2.2.2.1 (by simp)) (h.own.rows.kept k (by simp) (by simp)) p.file p.file.toNat (by omega) (by omega) A j m (H8 σ p) hm hA hrn
 have hroom:=fun W (k:Only [] w1 W)=>(h.keep k).room
 have hmo:Gg σ p=(fC σ.M p.file.toNat (H8 σ p):Int)-(fC σ.M p.file.toNat (Dc σ p):Int):=rfl
 have hb1:fC σ.M p.file.toNat (H8 σ p)≤32:=Nat.le_trans (tH _ _ _) (Pgs.eU hrn)
 have hb2:fC σ.M p.file.toNat (Dc σ p)≤32:=Nat.le_trans (tH _ _ _) (Pgs.eU hrt)
 have hwm:IntKind.i64.wrap ((fC σ.M p.file.toNat (H8 σ p):Int)-(fC σ.M p.file.toNat (Dc σ p):Int))=Gg σ p:=by rw [IntKind.wrap_i64];omega
 have hvo:IntKind.i64.wrap p.off=p.off:=by rw [IntKind.wrap_i64];omega
 change ∀ W,Only [] w1 W→Calls _ _ _ W fun e w'=>∃ v,e = .returned v∧Ns W w' v (Dc σ p) at zL
 have hst:=fun w8 w9 (k18:Only [] w1 w8) (k9:Only [lb] w8 w9) A j (hj:(H8 σ p).length≤j) (hE:Els pgE 2 w8 A (H8 σ p)) hA D9 (hl:fD w9 lb (c+1) (qG σ.L p.file.toNat (H8 σ p)) (fun y=>if y=p.file.toNat then .slice A (H8 σ p).length j else vs y) D9) (h0:wrE σ p=0)=>
  show YF w w1 w9 R sb dp σ s n c p (.returned (.tuple #[.string ⟨#[]⟩,.int .i64 0])) from by
   obtain⟨R',h1,h2,h3⟩:=h.aax hcc k18 k9 p.file.toNat (by omega) (H8 σ p) hrn A j hj hE hA D9 hl
   exact⟨[],0,_,s,n,false,R',rfl,.inl ⟨Oc NoC 0 _ h0.symm (by unfold wrS;rw [if_pos h0]),rfl,rfl,rfl⟩,h1,h2,h3,by simp⟩
 have EH:=fun W (k:Only [] w1 W)=>k.cell h.cells.2.2.2.2 (by simp)
 have oN:=fun W (k:Only [] w1 W)=>h.loose.kept k (by simp)
 clear h hc hcN hr d1 Oc hrt hrn hb1 hb2 hsl
 generalize FP σ=rm at *
 generalize Gg σ p=mo at *
 generalize Dc σ p=ob at *
 generalize H8 σ p=nw at *
 generalize fC σ.M p.file.toNat nw=fn at *
 generalize fC σ.M p.file.toNat ob=fo at *
 replace hmo:=Lib.hid hmo
 replace hput:=Lib.hid hput
 replace zL:=Lib.hid zL
 replace hf1:=Lib.hid hf1
 replace hf2:=Lib.hid hf2
 replace hroom:=Lib.hid hroom
 replace hst:=Lib.hid hst
 replace hwr:=Lib.hid hwr
 replace EH:=Lib.hid EH
 replace oN:=Lib.hid oN
 by_cases hm0:0<mo
 ·have d0:decide (0<mo)=true:=by simpa using hm0
  by_cases Z7:rm<mo
  ·have d2:decide (rm<mo)=true:=by simpa using Z7
   have e1:wrE σ p=6:=by rw [hwr.out,if_pos ⟨hm0,Z7⟩]
   have hfin:=fun W (k:Only [] w1 W)=>hstill W k 6 (by rw [e1];decide) e1.symm
   replace hfin:=Lib.hid hfin
   clear hstill e1 hm0 Z7 hst
   go_enter Tryz.func158,Tryz.ntmps158
   go_wp2_with (first
    | (refine bG p rfl (.tmp 11) rfl w1.heap.size rfl b0 ?_)
    | (refine aW p dS rfl rfl (.tmp 6) (.tmp 12) rfl (w1.heap.size+1) rfl rfl z1 ?_;intro w2 b2 k2)
    | (refine bJ p rfl (.tmp 6) rfl (w1.heap.size+1) rfl b2 ?_))
   have k12:Only [] w1 w2:=k1.then k2 (fun i hi=>.inr (by simp at hi;omega))
   have o2:OpB w2 (w1.heap.size+1) p:=⟨b2⟩
   refine (hcur _ k12).mono ?_;rintro e w3 ⟨rfl,k3⟩
   have k13:=k12.trans k3
   have o3:=o2.kept k3 (by simp)
   clear k2 k3 o2 b2 k12 hcur b0 z1 k0 k1
   obtain⟨_,_,x4,_,_,x12⟩:=o3.cells
   go_wp2_with fail
   refine (hwi _).mono ?_;rintro e w4 ⟨rfl,rfl⟩
   obtain⟨x2,_⟩:=o3.cells
   go_wp2_with fail
   refine (zL.out _ k13).mono ?_;rintro e w5 ⟨v5,rfl,A5,j5,rfl,_,hE5,k5,_⟩
   have o5:=o3.kept k5 (by simp)
   have k15:=k13.trans k5
   obtain⟨y2,_,y4,_,_,y12⟩:=o5.cells
   obtain⟨m,hm⟩:∃ m,m=ob.length:=⟨_,rfl⟩
   have rF:=hput.out _ A5 j5 hE5
   rw [←hm] at rF ⊢
   replace hm:=Lib.hid hm
   replace rF:=Lib.hid rF
   go_wp2_with fail
   refine rF.out.mono ?_;rintro e w6 ⟨v6,rfl,hm6⟩
   have k6:=hm6.only
   have hlow:=Pgs.nD hm6
   have hsh:=FW hm6
   have o6:=o5.kept k6 (by simp)
   have k16:=k15.trans k6
   have Yz:=hE5.kept k6 (by simp)
   obtain⟨A6,j6,rfl,hj6,hE6,hA6⟩:=hsh
   obtain⟨m6,Ky⟩:∃ m6,m6=nw.length:=⟨_,rfl⟩
   rw [←Ky]
   replace Ky:=Lib.hid Ky
   have abr:=k15.size
   clear hm6 hlow x2 x4 x12 y2 y4 y12 o5 rF hput zL hE5 k5 k6 k15 k13 o3 hwi
   go_wp2_with fail
   have kd:Only [] w1 w6.drew:=k16.drew
   have od:=o6.kept ((Only.refl [] w6).drew) (by simp)
   have eA:=Yz.kept ((Only.refl [] w6).drew) (by simp)
   have eB:=hE6.kept ((Only.refl [] w6).drew) (by simp)
   obtain⟨g,hg⟩:∃ g,g=w1.heap.size+1:=⟨_,rfl⟩
   rw [←hg] at od o6
   simp only [←hg]
   replace hg:=Lib.hid hg
   obtain⟨c2,_⟩:=od.cells
   refine wp_region_held_drew (S:=fun w'=>w'.cell? ⟨g,2,none⟩=some (.int .u32 p.file)) (by kernel_rfl) c2 (fun hHeld=> ?_)
   have ac8:w6.drew.heap.size=w6.heap.size:=rfl
   generalize w6.drew=wd at *
   refine rwT 0 (.pointer (some ⟨sb,0,none⟩)) hHeld ?_;simp only [rwA]
   refine rwT 1 (.pointer (some ⟨g,2,none⟩)) hHeld ?_;simp only [rwA]
   refine rwT 2 (.int .u32 p.file) hHeld ?_;simp only [rwA]
   refine rwT 3 (.slice A6 m6 j6) hHeld ?_;simp only [rwA]
   refine rwT 5 (.pointer (some ⟨sb,0,none⟩)) hHeld ?_;simp only [rwA]
   refine rwT 6 (.pointer (some ⟨g,2,none⟩)) hHeld ?_;simp only [rwA]
   refine rwT 7 (.int .u32 p.file) hHeld ?_;simp only [rwA]
   refine rwT 8 (.slice A5 m j5) hHeld ?_;simp only [rwA]
   refine ah 4 rfl (by kernel_rfl) (fun K hK=> ?_)
   go_simp
   refine (hf2.out _ kd A6 j6 m6 Ky.out eB).mono ?_;rintro e w7 ⟨rfl,k7⟩
   have c27:=k7.cell c2 (by simp)
   have k17:=kd.trans k7
   go_wp2_with fail
   refine hK.out _ _ c27 (fun hHeld=> ?_)
   clear hK K
   refine ah 9 rfl (by kernel_rfl) (fun K hK=> ?_)
   go_simp
   refine (hf1.out _ k17 A5 j5 m hm.out (eA.kept k7 (by simp))).mono ?_;rintro e w8 ⟨rfl,k8⟩
   have c28:=k8.cell c27 (by simp)
   have k18:=k17.trans k8
   have o8:=(od.kept k7 (by simp)).kept k8 (by simp)
   have eB8:=(eB.kept k7 (by simp)).kept k8 (by simp)
   have adh:=Nat.le_trans k7.size k8.size
   go_wp2_with fail
   refine hK.out _ _ c28 (fun hHeld=> ?_)
   clear hK K
   refine rwT 10 (.int .i64 mo) hHeld ?_;simp only [rwA]
   refine rwT 11 (.int .i64 mo) hHeld ?_;simp only [rwA]
   refine wpAnyH_done (by kernel_rfl) ?_ _
   clear hHeld
   clear c2 c27 c28 kd k7 k8 k17 eA eB od hE6 Yz o6
   go_wp2_with fail
   refine (hroom.out _ k18).mono ?_;rintro e w9 ⟨rfl,k9⟩
   have dw:=k18.trans k9
   clear k9
   go_wp2
   go_ret2
   exact hfin.out _ dw
  ·have d2:decide (rm<mo)=false:=by simpa using Z7
   have e1:wrE σ p=0:=by rw [hwr.out,if_neg (fun hh=>Z7 hh.2)]
   have hfin:=fun w8 w9 k18 k9 A j hj hE hA D9 hl=>hst.out w8 w9 k18 k9 A j hj hE hA D9 hl e1
   replace hfin:=Lib.hid hfin
   clear hstill e1 hm0 Z7 hst
   go_enter Tryz.func158,Tryz.ntmps158
   go_wp2_with (first
    | (refine bG p rfl (.tmp 11) rfl w1.heap.size rfl b0 ?_)
    | (refine aW p dS rfl rfl (.tmp 6) (.tmp 12) rfl (w1.heap.size+1) rfl rfl z1 ?_;intro w2 b2 k2)
    | (refine bJ p rfl (.tmp 6) rfl (w1.heap.size+1) rfl b2 ?_))
   have k12:Only [] w1 w2:=k1.then k2 (fun i hi=>.inr (by simp at hi;omega))
   have o2:OpB w2 (w1.heap.size+1) p:=⟨b2⟩
   refine (hcur _ k12).mono ?_;rintro e w3 ⟨rfl,k3⟩
   have k13:=k12.trans k3
   have o3:=o2.kept k3 (by simp)
   clear k2 k3 o2 b2 k12 hcur b0 z1 k0 k1
   obtain⟨_,_,x4,_,_,x12⟩:=o3.cells
   go_wp2_with fail
   refine (hwi _).mono ?_;rintro e w4 ⟨rfl,rfl⟩
   obtain⟨x2,_⟩:=o3.cells
   go_wp2_with fail
   refine (zL.out _ k13).mono ?_;rintro e w5 ⟨v5,rfl,A5,j5,rfl,_,hE5,k5,_⟩
   have o5:=o3.kept k5 (by simp)
   have k15:=k13.trans k5
   obtain⟨y2,_,y4,_,_,y12⟩:=o5.cells
   obtain⟨m,hm⟩:∃ m,m=ob.length:=⟨_,rfl⟩
   have rF:=hput.out _ A5 j5 hE5
   rw [←hm] at rF ⊢
   replace hm:=Lib.hid hm
   replace rF:=Lib.hid rF
   go_wp2_with fail
   refine rF.out.mono ?_;rintro e w6 ⟨v6,rfl,hm6⟩
   have k6:=hm6.only
   have hlow:=Pgs.nD hm6
   have hsh:=FW hm6
   have o6:=o5.kept k6 (by simp)
   have k16:=k15.trans k6
   have Yz:=hE5.kept k6 (by simp)
   obtain⟨A6,j6,rfl,hj6,hE6,hA6⟩:=hsh
   obtain⟨m6,Ky⟩:∃ m6,m6=nw.length:=⟨_,rfl⟩
   rw [←Ky]
   replace Ky:=Lib.hid Ky
   have abr:=k15.size
   clear hm6 hlow x2 x4 x12 y2 y4 y12 o5 rF hput zL hE5 k5 k6 k15 k13 o3 hwi
   go_wp2_with fail
   have kd:Only [] w1 w6.drew:=k16.drew
   have od:=o6.kept ((Only.refl [] w6).drew) (by simp)
   have eA:=Yz.kept ((Only.refl [] w6).drew) (by simp)
   have eB:=hE6.kept ((Only.refl [] w6).drew) (by simp)
   obtain⟨g,hg⟩:∃ g,g=w1.heap.size+1:=⟨_,rfl⟩
   rw [←hg] at od o6
   simp only [←hg]
   replace hg:=Lib.hid hg
   obtain⟨c2,_⟩:=od.cells
   refine wp_region_held_drew (S:=fun w'=>w'.cell? ⟨g,2,none⟩=some (.int .u32 p.file)) (by kernel_rfl) c2 (fun hHeld=> ?_)
   have ac8:w6.drew.heap.size=w6.heap.size:=rfl
   generalize w6.drew=wd at *
   refine rwT 0 (.pointer (some ⟨sb,0,none⟩)) hHeld ?_;simp only [rwA]
   refine rwT 1 (.pointer (some ⟨g,2,none⟩)) hHeld ?_;simp only [rwA]
   refine rwT 2 (.int .u32 p.file) hHeld ?_;simp only [rwA]
   refine rwT 3 (.slice A6 m6 j6) hHeld ?_;simp only [rwA]
   refine rwT 5 (.pointer (some ⟨sb,0,none⟩)) hHeld ?_;simp only [rwA]
   refine rwT 6 (.pointer (some ⟨g,2,none⟩)) hHeld ?_;simp only [rwA]
   refine rwT 7 (.int .u32 p.file) hHeld ?_;simp only [rwA]
   refine rwT 8 (.slice A5 m j5) hHeld ?_;simp only [rwA]
   refine ah 4 rfl (by kernel_rfl) (fun K hK=> ?_)
   go_simp
   refine (hf2.out _ kd A6 j6 m6 Ky.out eB).mono ?_;rintro e w7 ⟨rfl,k7⟩
   have c27:=k7.cell c2 (by simp)
   have k17:=kd.trans k7
   go_wp2_with fail
   refine hK.out _ _ c27 (fun hHeld=> ?_)
   clear hK K
   refine ah 9 rfl (by kernel_rfl) (fun K hK=> ?_)
   go_simp
   refine (hf1.out _ k17 A5 j5 m hm.out (eA.kept k7 (by simp))).mono ?_;rintro e w8 ⟨rfl,k8⟩
   have c28:=k8.cell c27 (by simp)
   have k18:=k17.trans k8
   have o8:=(od.kept k7 (by simp)).kept k8 (by simp)
   have eB8:=(eB.kept k7 (by simp)).kept k8 (by simp)
   have adh:=Nat.le_trans k7.size k8.size
   go_wp2_with fail
   refine hK.out _ _ c28 (fun hHeld=> ?_)
   clear hK K
   refine rwT 10 (.int .i64 mo) hHeld ?_;simp only [rwA]
   refine rwT 11 (.int .i64 mo) hHeld ?_;simp only [rwA]
   refine wpAnyH_done (by kernel_rfl) ?_ _
   clear hHeld
   clear c2 c27 c28 kd k7 k8 k17 eA eB od hE6 Yz o6
   go_wp2_with fail
   refine (hroom.out _ k18).mono ?_;rintro e w9 ⟨rfl,k9⟩
   have k19:=k18.trans k9
   have o9:=o8.kept k9 (by simp)
   have e9:=eB8.kept k9 (by simp)
   have hs9:=k9.size
   clear k9 o8 eB8 k18
   have c49:=EH.out _ k19
   have l9:=oN.out _ k19
   obtain⟨z2,_⟩:=o9.cells
   go_wp2_with fail
   go_still_tail 7,(by kernel_rfl)
   change wpList _ _ _ _ _ w9.drew
   have kd9:Only [] w1 w9.drew:=k19.drew
   have c4d:=(Only.refl [] w9).drew.cell c49 (by simp)
   have z2d:=(Only.refl [] w9).drew.cell z2 (by simp)
   have l9d:=l9.kept ((Only.refl [] w9).drew) (by simp)
   have e9d:=e9.kept ((Only.refl [] w9).drew) (by simp)
   have hsd:w9.drew.heap.size=w9.heap.size:=rfl
   generalize w9.drew=wd9 at *
   have hx9:(p.file:Int)=(p.file.toNat:Int):=by omega
   replace hx9:=Lib.hid hx9
   go_wp2_with (at_mapUpdate;go_must (refine qy rfl _ _ _ rfl rfl l9d (by omega) p.file.toNat (by omega) nw _ (by rw [←hx9.out];rfl) rfl ?_;intro w10 D10 h10 k10))
   go_ret2
   rw [Ky.out] at h10
   exact hfin.out wd9 w10 kd9 k10 A6 j6 hj6 e9d (fun a ha=>⟨Nat.le_trans abr (hA6 a ha).1,by have:=(hA6 a ha).2;omega⟩) D10 h10
 ·have d0:decide (0<mo)=false:=by simpa using hm0
  have e1:wrE σ p=0:=by rw [hwr.out,if_neg (fun hh=>hm0 hh.1)]
  have hfin:=fun w8 w9 k18 k9 A j hj hE hA D9 hl=>hst.out w8 w9 k18 k9 A j hj hE hA D9 hl e1
  replace hfin:=Lib.hid hfin
  clear hstill e1 hm0 hst hroom
  go_enter Tryz.func158,Tryz.ntmps158
  go_wp2_with (first
   | (refine bG p rfl (.tmp 11) rfl w1.heap.size rfl b0 ?_)
   | (refine aW p dS rfl rfl (.tmp 6) (.tmp 12) rfl (w1.heap.size+1) rfl rfl z1 ?_;intro w2 b2 k2)
   | (refine bJ p rfl (.tmp 6) rfl (w1.heap.size+1) rfl b2 ?_))
  have k12:Only [] w1 w2:=k1.then k2 (fun i hi=>.inr (by simp at hi;omega))
  have o2:OpB w2 (w1.heap.size+1) p:=⟨b2⟩
  refine (hcur _ k12).mono ?_;rintro e w3 ⟨rfl,k3⟩
  have k13:=k12.trans k3
  have o3:=o2.kept k3 (by simp)
  clear k2 k3 o2 b2 k12 hcur b0 z1 k0 k1
  obtain⟨_,_,x4,_,_,x12⟩:=o3.cells
  go_wp2_with fail
  refine (hwi _).mono ?_;rintro e w4 ⟨rfl,rfl⟩
  obtain⟨x2,_⟩:=o3.cells
  go_wp2_with fail
  refine (zL.out _ k13).mono ?_;rintro e w5 ⟨v5,rfl,A5,j5,rfl,_,hE5,k5,_⟩
  have o5:=o3.kept k5 (by simp)
  have k15:=k13.trans k5
  obtain⟨y2,_,y4,_,_,y12⟩:=o5.cells
  obtain⟨m,hm⟩:∃ m,m=ob.length:=⟨_,rfl⟩
  have rF:=hput.out _ A5 j5 hE5
  rw [←hm] at rF ⊢
  replace hm:=Lib.hid hm
  replace rF:=Lib.hid rF
  go_wp2_with fail
  refine rF.out.mono ?_;rintro e w6 ⟨v6,rfl,hm6⟩
  have k6:=hm6.only
  have hlow:=Pgs.nD hm6
  have hsh:=FW hm6
  have o6:=o5.kept k6 (by simp)
  have k16:=k15.trans k6
  have Yz:=hE5.kept k6 (by simp)
  obtain⟨A6,j6,rfl,hj6,hE6,hA6⟩:=hsh
  obtain⟨m6,Ky⟩:∃ m6,m6=nw.length:=⟨_,rfl⟩
  rw [←Ky]
  replace Ky:=Lib.hid Ky
  have abr:=k15.size
  clear hm6 hlow x2 x4 x12 y2 y4 y12 o5 rF hput zL hE5 k5 k6 k15 k13 o3 hwi
  go_wp2_with fail
  have kd:Only [] w1 w6.drew:=k16.drew
  have od:=o6.kept ((Only.refl [] w6).drew) (by simp)
  have eA:=Yz.kept ((Only.refl [] w6).drew) (by simp)
  have eB:=hE6.kept ((Only.refl [] w6).drew) (by simp)
  obtain⟨g,hg⟩:∃ g,g=w1.heap.size+1:=⟨_,rfl⟩
  rw [←hg] at od o6
  simp only [←hg]
  replace hg:=Lib.hid hg
  obtain⟨c2,_⟩:=od.cells
  refine wp_region_held_drew (S:=fun w'=>w'.cell? ⟨g,2,none⟩=some (.int .u32 p.file)) (by kernel_rfl) c2 (fun hHeld=> ?_)
  have ac8:w6.drew.heap.size=w6.heap.size:=rfl
  generalize w6.drew=wd at *
  refine rwT 0 (.pointer (some ⟨sb,0,none⟩)) hHeld ?_;simp only [rwA]
  refine rwT 1 (.pointer (some ⟨g,2,none⟩)) hHeld ?_;simp only [rwA]
  refine rwT 2 (.int .u32 p.file) hHeld ?_;simp only [rwA]
  refine rwT 3 (.slice A6 m6 j6) hHeld ?_;simp only [rwA]
  refine rwT 5 (.pointer (some ⟨sb,0,none⟩)) hHeld ?_;simp only [rwA]
  refine rwT 6 (.pointer (some ⟨g,2,none⟩)) hHeld ?_;simp only [rwA]
  refine rwT 7 (.int .u32 p.file) hHeld ?_;simp only [rwA]
  refine rwT 8 (.slice A5 m j5) hHeld ?_;simp only [rwA]
  refine ah 4 rfl (by kernel_rfl) (fun K hK=> ?_)
  go_simp
  refine (hf2.out _ kd A6 j6 m6 Ky.out eB).mono ?_;rintro e w7 ⟨rfl,k7⟩
  have c27:=k7.cell c2 (by simp)
  have k17:=kd.trans k7
  go_wp2_with fail
  refine hK.out _ _ c27 (fun hHeld=> ?_)
  clear hK K
  refine ah 9 rfl (by kernel_rfl) (fun K hK=> ?_)
  go_simp
  refine (hf1.out _ k17 A5 j5 m hm.out (eA.kept k7 (by simp))).mono ?_;rintro e w8 ⟨rfl,k8⟩
  have c28:=k8.cell c27 (by simp)
  have k18:=k17.trans k8
  have o8:=(od.kept k7 (by simp)).kept k8 (by simp)
  have eB8:=(eB.kept k7 (by simp)).kept k8 (by simp)
  have adh:=Nat.le_trans k7.size k8.size
  go_wp2_with fail
  refine hK.out _ _ c28 (fun hHeld=> ?_)
  clear hK K
  refine rwT 10 (.int .i64 mo) hHeld ?_;simp only [rwA]
  refine rwT 11 (.int .i64 mo) hHeld ?_;simp only [rwA]
  refine wpAnyH_done (by kernel_rfl) ?_ _
  clear hHeld
  clear c2 c27 c28 kd k7 k8 k17 eA eB od hE6 Yz o6
  have k19:=k18
  have o9:=o8
  have e9:=eB8
  obtain⟨w9,hw9⟩:∃ w9,w9=w8:=⟨_,rfl⟩
  have hs9:w8.heap.size≤w9.heap.size:=by rw [hw9];exact Nat.le_refl _
  rw [←hw9] at k19 o9 e9
  rw [←hw9]
  clear hw9 o8 eB8 k18
  have c49:=EH.out _ k19
  have l9:=oN.out _ k19
  obtain⟨z2,_⟩:=o9.cells
  go_wp2_with fail
  go_still_tail 7,(by kernel_rfl)
  change wpList _ _ _ _ _ w9.drew
  have kd9:Only [] w1 w9.drew:=k19.drew
  have c4d:=(Only.refl [] w9).drew.cell c49 (by simp)
  have z2d:=(Only.refl [] w9).drew.cell z2 (by simp)
  have l9d:=l9.kept ((Only.refl [] w9).drew) (by simp)
  have e9d:=e9.kept ((Only.refl [] w9).drew) (by simp)
  have hsd:w9.drew.heap.size=w9.heap.size:=rfl
  generalize w9.drew=wd9 at *
  have hx9:(p.file:Int)=(p.file.toNat:Int):=by omega
  replace hx9:=Lib.hid hx9
  go_wp2_with (at_mapUpdate;go_must (refine qy rfl _ _ _ rfl rfl l9d (by omega) p.file.toNat (by omega) nw _ (by rw [←hx9.out];rfl) rfl ?_;intro w10 D10 h10 k10))
  go_ret2
  rw [Ky.out] at h10
  exact hfin.out wd9 w10 kd9 k10 A6 j6 hj6 e9d (fun a ha=>⟨Nat.le_trans abr (hA6 a ha).1,by have:=(hA6 a ha).2;omega⟩) D10 h10
end
end Go.Proofs.YtmelaiefbpdifaaGreatDoor.Srv
