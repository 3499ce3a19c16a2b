/- The handlers of a data server: fence. -/
import Derived.Test.YtmelaiefbpdifaaGreatDoorHK8
namespace Go.Proofs.YtmelaiefbpdifaaGreatDoor.Srv
open Go.RowKit Go.Maps
open Pgs (Pg pgE cO jm headB find lD sU QJ oV jM wK wL Ia)
section
variable {w w1:World}{R:List Nat}{sb dp n c rp mb lp lb:Nat}{σ:Sv}{s:St}{F:List Nat}{vs:Nat→Value}{D:DataW Value}
set_option maxRecDepth 100000 in
set_option maxHeartbeats 4000000 in
theorem dA.aa3(h:dA w w1 R sb dp σ s n false c rp mb lp lb F vs D)(hcc:c<1000000)(hn:n<4294967296)(bY:s.late.length+200≤1048576)(p:Pk)(hp:p.Ok)(hcode:p.code=4):
  Calls Tryz.prog 161 #[.pointer (some ⟨sb,0,none⟩),pkV p] w1 fun e w'=>YF w w1 w' R sb dp σ s n c p e:=by
 have hM:vO w w1 R sb dp σ s n false c:=⟨rp,mb,lp,lb,F,vs,D,h⟩
 have hgR:w1.heap.size+1∉R:=fun hm=>by have:=(h.new _ hm).2;omega
 have hep:=fun W (k:Only [] w1 W)=>(h.keep k).epoch p.file hp.file
 obtain⟨f0,f1⟩:=hp.file
 obtain⟨p0,p1⟩:=hp.epoch
 obtain⟨s0,s1⟩:=hp.size
 have b0:Blk (w1.alloc (.cells (pkA p) 53)) w1.heap.size 53 (pkA p):=Blk.new w1 _ _
 have k0:Only [] w1 (w1.alloc (.cells (pkA p) 53)):=(Only.refl [] w1).alloc _
 have z1:Blk ((w1.alloc (.cells (pkA p) 53)).alloc (.cells dS 51)) (w1.heap.size+1) 51 dS:=by
  have:=Blk.new (w1.alloc (.cells (pkA p) 53)) 51 dS
  rwa [show (w1.alloc (.cells (pkA p) 53)).heap.size=w1.heap.size+1 by simp] at this
 have k1:=k0.alloc (.cells dS 51)
 have c11:=(b0.alloc (.cells dS 51)).cell 1
 simp only [List.getElem?_toArray,List.getElem?_cons_zero,List.getElem?_cons_succ] at c11
 have hstill:=fun W (k:Only [] w1 W) er (hd:Did NoC σ p [] er σ)=>rZ hM hcc k hd (by simp)
 have Oc:∀ (C:Com) er σ',Did C σ p [] er σ'↔(if p.frm≠0 then er=1∧σ'=σ else if p.epoch<(epN σ.M p.file.toNat:Int)∨p.epoch=0 then er=17∧σ'=σ else if (epN σ.M p.file.toNat:Int)=p.epoch then er=0∧σ'=σ else iH C σ p.file.toNat (Ia (Dc σ p) (min p.size 1024)) (Qi p) er σ'):=fun C er σ'=>by
  unfold Did
  rw [if_neg (by omega),if_neg (by omega),if_neg (by omega),if_pos hcode]
  simp
 have hE0:0≤(epN σ.M p.file.toNat:Int):=by omega
 clear hM hcode
 by_cases hz:p.frm=0
 case neg=>
  have hfin:=fun W (k:Only [] w1 W)=>hstill W k 1 ((Oc _ _ _).2 (by rw [if_pos hz];exact⟨rfl,rfl⟩))
  have hz2:(p.frm != 0)=true:=by rw [bne_iff_ne];exact hz
  replace hfin:=Lib.hid hfin
  clear h Oc hstill hep hE0
  go_enter Tryz.func161,Tryz.ntmps161
  go_wp2_with (first
   | (refine bG p rfl (.tmp 10) rfl w1.heap.size rfl b0 ?_)
   | (refine aW p dS rfl rfl (.tmp 6) (.tmp 11) rfl (w1.heap.size+1) rfl rfl z1 ?_;intro w2 b2 k2;have c12:=k2.cell c11 (by simp);have c22:=(OpB.mk b2).cells.1))
  have k12:Only [] w1 w2:=k1.then k2 (fun i hi=>.inr (by simp at hi;omega))
  go_ret2
  exact hfin.out _ k12
 rw [hz] at c11
 have hN0:¬p.frm≠0:=by simp [hz]
 clear hz
 by_cases h17:p.epoch<(epN σ.M p.file.toNat:Int)∨p.epoch=0
 ·have hfin:=fun W (k:Only [] w1 W)=>hstill W k 17 ((Oc _ _ _).2 (by rw [if_neg hN0,if_pos h17];exact⟨rfl,rfl⟩))
  replace hfin:=Lib.hid hfin
  clear h Oc hstill
  generalize (epN σ.M p.file.toNat:Int)=E at *
  replace hep:=Lib.hid hep
  by_cases hlt:p.epoch<E
  ·have d1:decide (p.epoch<E)=true:=by simpa using hlt
   clear h17
   go_enter Tryz.func161,Tryz.ntmps161
   go_wp2_with (first
    | (refine bG p rfl (.tmp 10) rfl w1.heap.size rfl b0 ?_)
    | (refine aW p dS rfl rfl (.tmp 6) (.tmp 11) rfl (w1.heap.size+1) rfl rfl z1 ?_;intro w2 b2 k2;have c12:=k2.cell c11 (by simp);have c22:=(OpB.mk b2).cells.1))
   have k12:Only [] w1 w2:=k1.then k2 (fun i hi=>.inr (by simp at hi;omega))
   have o2:OpB w2 (w1.heap.size+1) p:=⟨b2⟩
   refine (hep.out _ k12).mono ?_;rintro e w3 ⟨rfl,k3⟩
   have k13:=k12.trans k3
   have o3:=o2.kept k3 (by simp)
   clear k2 k3 o2 b2 k12 b0 z1 k0 k1 c12 c22 c11 hep
   obtain⟨_,x3,_⟩:=o3.cells
   go_wp2
   go_ret2
   exact hfin.out _ k13
  ·have d1:decide (p.epoch<E)=false:=by simpa using hlt
   have hp0:p.epoch=0:=h17.resolve_left hlt
   have d2:(p.epoch==0)=true:=by rw [hp0];rfl
   have d3:decide (p.epoch=0)=true:=by rw [hp0];rfl
   clear h17
   replace hp0:=Lib.hid hp0
   go_enter Tryz.func161,Tryz.ntmps161
   go_wp2_with (first
    | (refine bG p rfl (.tmp 10) rfl w1.heap.size rfl b0 ?_)
    | (refine aW p dS rfl rfl (.tmp 6) (.tmp 11) rfl (w1.heap.size+1) rfl rfl z1 ?_;intro w2 b2 k2;have c12:=k2.cell c11 (by simp);have c22:=(OpB.mk b2).cells.1))
   have k12:Only [] w1 w2:=k1.then k2 (fun i hi=>.inr (by simp at hi;omega))
   have o2:OpB w2 (w1.heap.size+1) p:=⟨b2⟩
   refine (hep.out _ k12).mono ?_;rintro e w3 ⟨rfl,k3⟩
   have k13:=k12.trans k3
   have o3:=o2.kept k3 (by simp)
   clear k2 k3 o2 b2 k12 b0 z1 k0 k1 c12 c22 c11 hep
   obtain⟨_,x3,_⟩:=o3.cells
   go_wp2
   go_ret2
   exact hfin.out _ k13
 have ad4:¬p.epoch<(epN σ.M p.file.toNat:Int):=fun hh=>h17 (.inl hh)
 have ad3:¬p.epoch=0:=fun hh=>h17 (.inr hh)
 by_cases heq:(epN σ.M p.file.toNat:Int)=p.epoch
 ·have hfin:=fun W (k:Only [] w1 W)=>hstill W k 0 ((Oc _ _ _).2 (by rw [if_neg hN0,if_neg h17,if_pos heq];exact⟨rfl,rfl⟩))
  replace hfin:=Lib.hid hfin
  clear h Oc hstill h17
  generalize (epN σ.M p.file.toNat:Int)=E at *
  have d1:decide (p.epoch<E)=false:=by simpa using ad4
  have d2:(p.epoch==0)=false:=by rw [beq_eq_false_iff_ne];exact ad3
  have d4:(E==p.epoch)=true:=by rw [beq_iff_eq];exact heq
  have d5:decide (E=p.epoch)=true:=by simpa using heq
  replace hep:=Lib.hid hep
  replace heq:=Lib.hid heq
  go_enter Tryz.func161,Tryz.ntmps161
  go_wp2_with (first
   | (refine bG p rfl (.tmp 10) rfl w1.heap.size rfl b0 ?_)
   | (refine aW p dS rfl rfl (.tmp 6) (.tmp 11) rfl (w1.heap.size+1) rfl rfl z1 ?_;intro w2 b2 k2;have c12:=k2.cell c11 (by simp);have c22:=(OpB.mk b2).cells.1))
  have k12:Only [] w1 w2:=k1.then k2 (fun i hi=>.inr (by simp at hi;omega))
  have o2:OpB w2 (w1.heap.size+1) p:=⟨b2⟩
  refine (hep.out _ k12).mono ?_;rintro e w3 ⟨rfl,k3⟩
  have k13:=k12.trans k3
  have o3:=o2.kept k3 (by simp)
  clear k2 k3 o2 b2 k12 b0 z1 k0 k1 c12 c22 c11 hep
  obtain⟨_,x3,_⟩:=o3.cells
  go_wp2
  go_ret2
  exact hfin.out _ k13
 ·have zL:=fun W (k:Only [] w1 W)=>(h.keep k).object p.file p.file.toNat (by omega) (by omega)
  have hrt:=oJ h.ok p.file.toNat
  have wS:∀ (er:Int) (C:Com) σ',iH C σ p.file.toNat (Ia (vM σ p.file.toNat) (min p.size 1024)) (Qi p) er σ'→Did C σ p [] er σ':=fun er C σ' hs=>(Oc _ _ _).2 (by rw [if_neg hN0,if_neg h17,if_neg heq];exact hs)
  have hcut:=fun W A j (hA:Els pgE 2 W A (vM σ p.file.toNat))=>Pgs.ZK W A j _ (vM σ p.file.toNat) rfl hA (by have:=Pgs.eU hrt;omega) (min p.size 1024)
  have hset:=fun W (k:Only [] w1 W) A j (hA:Els pgE 2 W A (Ia (vM σ p.file.toNat) (min p.size 1024))) B (hB:Els chE 3 W B (Qi p))=>(h.keep k).settle hn bY p.file p.file.toNat (by omega) (by omega) A j _ (Ia (vM σ p.file.toNat) (min p.size 1024)) rfl hA (Pgs.Qn _ _) B 1 1 (Qi p) rfl hB (by simp [Qi]) (by simp [wJ,Qi,wZ,aU])
  have hkey:=fun W=>rV W p.file p.file.toNat (by omega) (by omega)
  have hby:=fun W=>vC W p.epoch p.epoch.toNat (by omega) (by omega)
  have hfe:Qi p = [⟨eK p.file.toNat,be4 p.epoch.toNat,false⟩]:=rfl
  have hwm:IntKind.i64.wrap (min p.size 1024)=min p.size 1024:=by rw [IntKind.wrap_i64];omega
  obtain⟨ks,hks⟩:∃ ks,strOf (eK p.file.toNat)=ks:=⟨_,rfl⟩
  obtain⟨es,hes⟩:∃ es,strOf (be4 p.epoch.toNat)=es:=⟨_,rfl⟩
  simp only [hks] at hkey
  simp only [hes] at hby
  have aeT:Hid (∃ b,b=QJ (wL (vM σ p.file.toNat) (min p.size 1024))):=⟨_,rfl⟩
  clear h Oc hstill h17 hrt
  generalize (epN σ.M p.file.toNat:Int)=E at *
  have d1:decide (p.epoch<E)=false:=by simpa using ad4
  have d2:(p.epoch==0)=false:=by rw [beq_eq_false_iff_ne];exact ad3
  have d4:(E==p.epoch)=false:=by rw [beq_eq_false_iff_ne];exact heq
  have d5:decide (E=p.epoch)=false:=by simpa using heq
  generalize QJ (wL (vM σ p.file.toNat) (min p.size 1024))=ec at *
  generalize Ia (vM σ p.file.toNat) (min p.size 1024)=co at *
  generalize vM σ p.file.toNat=ob at *
  replace zL:=Lib.hid zL
  replace hcut:=Lib.hid hcut
  replace hset:=Lib.hid hset
  replace wS:=Lib.hid wS
  replace hep:=Lib.hid hep
  replace hkey:=Lib.hid hkey
  replace hby:=Lib.hid hby
  replace hfe:=Lib.hid hfe
  replace hks:=Lib.hid hks
  replace hes:=Lib.hid hes
  clear aeT hN0
  go_enter Tryz.func161,Tryz.ntmps161
  go_wp2_with (first
   | (refine bG p rfl (.tmp 10) rfl w1.heap.size rfl b0 ?_)
   | (refine aW p dS rfl rfl (.tmp 6) (.tmp 11) rfl (w1.heap.size+1) rfl rfl z1 ?_;intro w2 b2 k2;have c12:=k2.cell c11 (by simp);have c22:=(OpB.mk b2).cells.1))
  have k12:Only [] w1 w2:=k1.then k2 (fun i hi=>.inr (by simp at hi;omega))
  have o2:OpB w2 (w1.heap.size+1) p:=⟨b2⟩
  refine (hep.out _ k12).mono ?_;rintro e w3 ⟨rfl,k3⟩
  have k13:=k12.trans k3
  have o3:=o2.kept k3 (by simp)
  clear k2 k3 o2 b2 k12 b0 z1 k0 k1 c12 c22 c11 hep
  obtain⟨_,x3,_⟩:=o3.cells
  go_wp2_with fail
  have kd:Only [] w1 w3.drew:=k13.drew
  have od:=o3.kept ((Only.refl [] w3).drew) (by simp)
  generalize w1.heap.size+1=g at *
  obtain⟨c2,_,_,_,c6,_⟩:=od.cells
  refine wp_region_held_drew (S:=fun w'=>w'.cell? ⟨g,2,none⟩=some (.int .u32 p.file)∧w'.cell? ⟨g,6,none⟩=some (.int .u32 p.size)) (by kernel_rfl) ⟨c2,c6⟩ (fun hHeld=> ?_)
  generalize w3.drew=wd at *
  refine rwT 0 (.pointer (some ⟨sb,0,none⟩)) hHeld ?_;simp only [rwA]
  refine rwT 1 (.pointer (some ⟨g,2,none⟩)) hHeld ?_;simp only [rwA]
  refine rwY 2 (.int .u32 p.file) hHeld ?_ (hy:=Or.inl ⟨by rfl,fun w' hSw=>by obtain⟨hc,_⟩:=hSw;go_simp⟩);simp only [rwA]
  refine rwT 4 (.pointer (some ⟨g,6,none⟩)) hHeld ?_;simp only [rwA]
  refine rwY 5 (.int .u32 p.size) hHeld ?_ (hy:=Or.inl ⟨by rfl,fun w' hSw=>by obtain⟨_,hc⟩:=hSw;go_simp⟩);simp only [rwA]
  refine rwT 6 (.int .u32 (min p.size 1024)) hHeld ?_;simp only [rwA]
  refine rwT 7 (.int .i64 (min p.size 1024)) hHeld ?_;simp only [rwA]
  refine ah 3 rfl (by kernel_rfl) (fun K hK=> ?_)
  go_simp
  refine (zL.out _ kd).mono ?_;rintro e w5 ⟨v,rfl,A,k,rfl,_,hE,k5,_⟩
  have od5:=od.kept k5 (by simp)
  obtain⟨x2,_,_,_,x6,_⟩:=od5.cells
  have k15:=kd.trans k5
  go_wp2_with fail
  refine hK.out _ _ ⟨x2,x6⟩ (fun hHeld=> ?_)
  clear hK K
  refine ah 8 rfl (by kernel_rfl) (fun K hK=> ?_)
  go_simp
  refine (hcut.out _ A k hE).mono ?_;rintro e w6 ⟨v6,rfl,hm6⟩
  have k6:=hm6.only
  obtain⟨A6,j6,rfl,hE6,_,_⟩:=Pgs.lG hm6
  have od6:=od5.kept k6 (by simp)
  obtain⟨y2,_,_,_,y6,_⟩:=od6.cells
  have k16:=k15.trans k6
  obtain⟨m,hm⟩:∃ m,m=co.length:=⟨_,rfl⟩
  rw [←hm]
  replace hm:=Lib.hid hm
  go_wp2_with fail
  refine hK.out _ _ ⟨y2,y6⟩ (fun hHeld=> ?_)
  clear hK K
  refine rwT 9 (.tuple #[.slice A6 m j6,.int .i64 ec]) hHeld ?_;simp only [rwA]
  refine rwT 10 (.slice A6 m j6) hHeld ?_;simp only [rwA]
  refine rwT 11 (.int .i64 ec) hHeld ?_;simp only [rwA]
  refine rwT 12 (.slice A6 m j6) hHeld ?_;simp only [rwA]
  refine rwT 13 (.int .i64 ec) hHeld ?_;simp only [rwA]
  refine wpAnyH_done (by kernel_rfl) ?_ _
  clear hHeld
  clear c2 c6 x2 x6 y2 y6 od od5 k5 k15 k6 hm6 kd hE k13 o3 hwm
  go_wp2_with fail
  have kd7:Only [] w1 w6.drew:=k16.drew
  have od7:=od6.kept ((Only.refl [] w6).drew) (by simp)
  have hE7:=hE6.kept ((Only.refl [] w6).drew) (by simp)
  obtain⟨c2,c3,_⟩:=od7.cells
  refine wp_region_held_drew (S:=fun w'=>w'.cell? ⟨g,2,none⟩=some (.int .u32 p.file)∧w'.cell? ⟨g,3,none⟩=some (.int .u32 p.epoch)) (by kernel_rfl) ⟨c2,c3⟩ (fun hHeld=> ?_)
  generalize w6.drew=we at *
  refine rwT 0 (.pointer (some ⟨sb,0,none⟩)) hHeld ?_;simp only [rwA]
  refine rwT 1 (.pointer (some ⟨g,2,none⟩)) hHeld ?_;simp only [rwA]
  refine rwY 2 (.int .u32 p.file) hHeld ?_ (hy:=Or.inl ⟨by rfl,fun w' hSw=>by obtain⟨hc,_⟩:=hSw;go_simp⟩);simp only [rwA]
  refine rwT 3 (.slice A6 m j6) hHeld ?_;simp only [rwA]
  refine rwT 4 (.pointer (some ⟨g,2,none⟩)) hHeld ?_;simp only [rwA]
  refine rwY 5 (.int .u32 p.file) hHeld ?_ (hy:=Or.inl ⟨by rfl,fun w' hSw=>by obtain⟨hc,_⟩:=hSw;go_simp⟩);simp only [rwA]
  refine rwT 7 (.pointer (some ⟨g,3,none⟩)) hHeld ?_;simp only [rwA]
  refine rwY 8 (.int .u32 p.epoch) hHeld ?_ (hy:=Or.inl ⟨by rfl,fun w' hSw=>by obtain⟨_,hc⟩:=hSw;go_simp⟩);simp only [rwA]
  refine ah 6 rfl (by kernel_rfl) (fun K hK=> ?_)
  go_simp
  refine (hkey.out _).mono ?_;rintro e w8 ⟨rfl,k8⟩
  have od8:=od7.kept k8 (by simp)
  obtain⟨x2,x3,_⟩:=od8.cells
  go_wp2_with fail
  refine hK.out _ _ ⟨x2,x3⟩ (fun hHeld=> ?_)
  clear hK K
  refine ah 9 rfl (by kernel_rfl) (fun K hK=> ?_)
  go_simp
  refine (hby.out _).mono ?_;rintro e w9 ⟨rfl,k9⟩
  have od9:=od8.kept k9 (by simp)
  obtain⟨y2,y3,_⟩:=od9.cells
  go_wp2_with fail
  refine hK.out _ _ ⟨y2,y3⟩ (fun hHeld=> ?_)
  clear hK K
  refine rwT 10 (.agg #[.string ks,.string es,.bool false]) hHeld ?_;simp only [rwA]
  refine ah 11 rfl (by kernel_rfl) (fun K hK=> ?_)
  go_simp
  have k10:Only [] w9 (w9.alloc (.cells #[.string ks,.string es,.bool false] 133)):=(Only.refl [] w9).alloc _
  have hB:=MW (w:=w9) (gn:=false) hks.out hes.out
  rw [←hfe.out] at hB
  have ae2:=((hE7.kept k8 (by simp)).kept k9 (by simp)).kept k10 (by simp)
  have kk:=((kd7.trans k8).trans k9).trans k10
  obtain⟨z2,z3,_⟩:=(od9.kept k10 (by simp)).cells
  replace hB:=Lib.hid hB
  go_wp2_with fail
  refine hK.out _ _ ⟨z2,z3⟩ (fun hHeld=> ?_)
  clear hK K
  refine ah 12 rfl (by kernel_rfl) (fun K hK=> ?_)
  go_simp
  rw [hm.out]
  refine (hset.out _ kk A6 j6 ae2 _ hB.out).mono ?_
  intro e w11 hse
  have aaE:=hse
  obtain⟨er,_,_,_,_,_,rfl,_,_,kR6,_⟩:=aaE
  have q2:=kR6.cell z2 hgR
  have q3:=kR6.cell z3 hgR
  have hfin:=vk hcc kk hse rfl (wS.out er)
  replace hfin:=Lib.hid hfin
  clear hse kR6
  go_wp2_with fail
  refine hK.out _ _ ⟨q2,q3⟩ (fun hHeld=> ?_)
  clear hK K
  refine rwT 13 (.string ⟨#[]⟩) hHeld ?_;simp only [rwA]
  refine rwT 14 (.int .i64 er) hHeld ?_;simp only [rwA]
  refine wpAnyH_done (by kernel_rfl) ?_ _
  clear hHeld
  go_wp2
  go_ret2
  exact hfin.out
end
end Go.Proofs.YtmelaiefbpdifaaGreatDoor.Srv
