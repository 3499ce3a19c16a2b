/- Handle. -/
import Derived.Test.YtmelaiefbpdifaaGreatDoorHK9
namespace Go.Proofs.YtmelaiefbpdifaaGreatDoor.Srv
open Go.RowKit Go.Maps
open Pgs (Pg)
def abg(σ:Sv)(s:St)(n:Nat)(f:Bool)(p r:Pk)(ok:Bool)(σ':Sv)(s':St)(n':Nat)(f':Bool):Prop:=
 (jS NoC σ p r ok σ'∧s'=s∧n'=n∧f'=f)∨(f=false∧jS (C5 σ.N s n s' n' f') σ p r ok σ'∧∃ l er,dN σ.N σ.M s n false l er σ'.M s' n' f'∧σ'.up=if er=5 then false else σ.up)
def Ve(w w1 w':World)(R:List Nat)(sb dp:Nat)(σ:Sv)(s:St)(n:Nat)(f:Bool)(c:Nat)(p:Pk)(e:Ending):Prop:=
 ∃ r ok σ' s' n' f' R',e = .returned (.tuple #[pkV r,.bool ok])∧abg σ s n f p r ok σ' s' n' f'∧vO w w' R' sb dp σ' s' n' f' (c+1)∧Only R w1 w'∧∀ j∈R',j∈R∨w1.heap.size≤j
theorem jT{P:Program}{ops:Array Oper}{o:Oper}{a:Act}{w:World}{K:Act→World→Prop}{Q:Exit→Act→World→Prop}{E:Prop}(hw:Region.wanted o (yielded ops a.tmps)=true)(ty:TypeId)(x y:Operand)(ho:o.op = .store ty x y)
  (g:Nat) (c c':Array Value) (hx:a.eval x = .pointer (some ⟨g,0,none⟩)) (hy:a.eval y = .agg c') (hb:Blk w g ty c) (hi:(P.info? ty).map (·.size)=some c'.size) (hs:c.size=c'.size) (h1:c'.all (·.oneCell')=true)
  (h:∀ w',Blk w' g ty c'→Only [g] w w'→K (a.put o.dst undef) w'):if Region.wanted o (yielded ops a.tmps)=true then Oper.wp P o a w K Q else E:=by
 rw [if_pos hw]
 have hrun:=run_storeVar_row (P:=P) w g ty ty c c' hb hi hs h1
 unfold Oper.wp execOp
 simp only [ho,hx,hy,Instr.storeAt,Instr.sureAddr,Sem.run_bind,Sem.run_pure,Result.andThen_ok,hrun]
 exact h _ (setRow_heap w g c c' ty _ hb) ((Only.refl [g] w).setRow (.inl (by simp)) _)
section
variable {w w1:World}{R:List Nat}{sb dp n c rp mb lp lb:Nat}{σ:Sv}{s:St}{f:Bool}{F:List Nat}{vs:Nat→Value}{D:DataW Value}
set_option maxRecDepth 100000 in
set_option maxHeartbeats 8000000 in
theorem dA.Zy(h:dA w w1 R sb dp σ s n f c rp mb lp lb F vs D)(hcc:c<1000000)(p:Pk)(hp:p.Ok)(hup:σ.up=true→f=false∧n<4294967296∧s.late.length+200≤1048576):
  Calls Tryz.prog 23 #[.pointer (some ⟨sb,0,none⟩),pkV p] w1 fun e w'=>Ve w w1 w' R sb dp σ s n f c p e:=by
 have hM:vO w w1 R sb dp σ s n f c:=⟨rp,mb,lp,lb,F,vs,D,h⟩
 have hok:=h.ok
 have hww:=h.only.size
 have MF:∀ i∈R,i<w1.heap.size:=fun i hi=>(h.new i hi).2
 have hq1:w1.heap.size∉R:=fun hm=>Nat.lt_irrefl _ (MF _ hm)
 have hq2:w1.heap.size+1∉R:=fun hm=>by have:=MF _ hm;omega
 have adg:=MF sb (h.inR sb (by simp))
 have hstill:∀ W' r ok,Only [] w1 W'→jS NoC σ p r ok σ→Ve w w1 W' R sb dp σ s n f c p (.returned (.tuple #[pkV r,.bool ok])):=fun W' r ok k hd=>
  ⟨r,ok,σ,s,n,f,R,rfl,.inl ⟨hd,rfl,rfl,rfl⟩,(hM.keep k).mono (by omega) (by omega),k.more (by simp),fun j hj=>.inl hj⟩
 have b1:Blk ((w1.alloc (.cells (pkA p) 53)).alloc (.cells pz 53)) w1.heap.size 53 (pkA p):=(Blk.new w1 _ _).alloc _
 have z1:Blk ((w1.alloc (.cells (pkA p) 53)).alloc (.cells pz 53)) (w1.heap.size+1) 53 pz:=by
  have:=Blk.new (w1.alloc (.cells (pkA p) 53)) 53 pz
  rwa [show (w1.alloc (.cells (pkA p) 53)).heap.size=w1.heap.size+1 by simp] at this
 have k1:Only [] w1 ((w1.alloc (.cells (pkA p) 53)).alloc (.cells pz 53)):=((Only.refl [] w1).alloc _).alloc _
 have hdown:=(h.keep k1).aa7
 have htk:=fun W (k:Only [] w1 W)=>(h.keep k).aah p
 replace MF:=Lib.hid MF
 clear hM
 cases hu:σ.up with
 | false=>
  rw [hu] at hdown
  have hfin:=fun W k=>hstill W zPk false k (.inl ⟨fun hh=>(by rw [hu] at hh;exact absurd hh.1 (by simp)),rfl,rfl,rfl⟩)
  replace hfin:=Lib.hid hfin
  clear h hstill htk hup
  go_enter Tryz.func23,Tryz.ntmps23
  go_wp2_with fail
  generalize ((w1.alloc (.cells (pkA p) 53)).alloc (.cells pz 53))=W at *
  obtain⟨q,hq⟩:∃ q,q=w1.heap.size:=⟨_,rfl⟩
  rw [←hq] at b1 z1 hq1 hq2
  simp only [←hq]
  replace hq:=Lib.hid hq
  refine hdown.mono ?_;rintro e w2 ⟨rfl,rfl⟩
  go_wp2_with (first
   | (refine aN zPk zPk rfl (.tmp 4) (.tmp 17) rfl (q+1) rfl rfl z1 ?_;intro wz zz kz))
  refine bodyPost_ret (v:=.tuple #[pkV zPk,.bool false]) (eG rfl _ _ (q+1) rfl zPk zz _ rfl) rfl ?_
  have hkz:∀ i∈[q+1],i∈([]:List Nat)∨w1.heap.size≤i:=fun i hi=>by simp at hi;have:=hq.out;exact .inr (by omega)
  exact hfin.out _ (k1.then kz hkz)
 | true=>
 rw [hu] at hdown
 obtain⟨rfl,hn,bY⟩:=hup hu
 have Vl:=hok.seat p.frm.toNat
 by_cases ht:takes σ p
 case neg=>
  have hfin:=fun W k=>hstill W zPk false k (.inl ⟨fun hh=>ht hh.2,rfl,rfl,rfl⟩)
  replace hfin:=Lib.hid hfin
  rw [decide_eq_false ht] at htk
  replace htk:=Lib.hid htk
  clear h hstill ht
  go_enter Tryz.func23,Tryz.ntmps23
  go_wp2_with fail
  generalize ((w1.alloc (.cells (pkA p) 53)).alloc (.cells pz 53))=W at *
  obtain⟨q,hq⟩:∃ q,q=w1.heap.size:=⟨_,rfl⟩
  rw [←hq] at b1 z1 hq1 hq2
  simp only [←hq]
  replace hq:=Lib.hid hq
  refine hdown.mono ?_;rintro e w2 ⟨rfl,rfl⟩
  go_wp2_with (refine aV p rfl (.tmp 3) rfl q rfl b1 ?_)
  refine (htk.out _ k1).mono ?_;rintro e w3 ⟨rfl,k3⟩
  have b3:=b1.kept k3 (by simp)
  have z3:=z1.kept k3 (by simp)
  have k13:=k1.trans k3
  go_wp2_with (first
   | (refine aN zPk zPk rfl (.tmp 4) (.tmp 17) rfl (q+1) rfl rfl z3 ?_;intro wz zz kz))
  refine bodyPost_ret (v:=.tuple #[pkV zPk,.bool false]) (eG rfl _ _ (q+1) rfl zPk zz _ rfl) rfl ?_
  have hkz:∀ i∈[q+1],i∈([]:List Nat)∨w1.heap.size≤i:=fun i hi=>by simp at hi;have:=hq.out;exact .inr (by omega)
  exact hfin.out _ (k13.then kz hkz)
 rw [decide_eq_true ht] at htk
 replace htk:=Lib.hid htk
 by_cases hb:p.asked=σ.jC
 case neg=>
  have hfin:=fun W k=>hstill W (iD σ p [] 18) true k (.inr (.inl ⟨⟨hu,ht⟩,hb,rfl,rfl,rfl⟩))
  have hrep:=fun W (k:Only [] w1 W)=>(h.keep k).Yc p [] 18
  change ∀ W,Only [] w1 W→Calls _ _ #[_,_,.string ⟨#[]⟩,_] W _ at hrep
  have hb2:(p.asked != σ.jC)=true:=by rw [bne_iff_ne];exact hb
  generalize iD σ p [] 18=r at *
  replace hrep:=Lib.hid hrep
  replace hfin:=Lib.hid hfin
  clear hstill ht
  go_enter Tryz.func23,Tryz.ntmps23
  go_wp2_with fail
  generalize ((w1.alloc (.cells (pkA p) 53)).alloc (.cells pz 53))=W at *
  obtain⟨q,hq⟩:∃ q,q=w1.heap.size:=⟨_,rfl⟩
  rw [←hq] at b1 z1 hq1 hq2
  simp only [←hq]
  replace hq:=Lib.hid hq
  refine hdown.mono ?_;rintro e w2 ⟨rfl,rfl⟩
  go_wp2_with (refine aV p rfl (.tmp 3) rfl q rfl b1 ?_)
  refine (htk.out _ k1).mono ?_;rintro e w3 ⟨rfl,k3⟩
  have b3:=b1.kept k3 (by simp)
  have z3:=z1.kept k3 (by simp)
  have k13:=k1.trans k3
  obtain⟨_,m1,_⟩:=(h.keep k13).cells
  go_wp2_with fail
  have kd3:Only [] w1 w3.drew:=k13.drew
  have bd3:=b3.kept ((Only.refl [] w3).drew) (by simp)
  have zd3:=z3.kept ((Only.refl [] w3).drew) (by simp)
  have md3:=(Only.refl [] w3).drew.cell m1 (by simp)
  have a5:=bd3.cell 5
  simp only [List.getElem?_toArray,List.getElem?_cons_zero,List.getElem?_cons_succ] at a5
  refine wp_region_held_drew (S:=fun w'=>w'.cell? ⟨q,5,none⟩=some (.int .u32 p.asked)∧w'.cell? ⟨sb,1,none⟩=some (.int .u32 σ.jC)) (by kernel_rfl) ⟨a5,md3⟩ (fun hHeld=> ?_)
  generalize w3.drew=wd at *
  refine rwT 0 (.pointer (some ⟨q,5,none⟩)) hHeld ?_;simp only [rwA]
  refine rwY 1 (.int .u32 p.asked) hHeld ?_ (hy:=Or.inl ⟨by rfl,fun w' hSw=>by obtain⟨hc,_⟩:=hSw;go_simp⟩);simp only [rwA]
  refine rwT 2 (.pointer (some ⟨sb,0,none⟩)) hHeld ?_;simp only [rwA]
  refine rwT 3 (.pointer (some ⟨sb,0,none⟩)) hHeld ?_;simp only [rwA]
  refine rwT 4 (.pointer (some ⟨sb,1,none⟩)) hHeld ?_;simp only [rwA]
  refine rwY 5 (.int .u32 σ.jC) hHeld ?_ (hy:=Or.inl ⟨by rfl,fun w' hSw=>by obtain⟨_,hc⟩:=hSw;go_simp⟩);simp only [rwA]
  refine rwT 6 (.bool true) hHeld ?_;simp only [rwA]
  refine wpAnyH_done (by kernel_rfl) ?_ _
  clear hHeld
  clear b3 z3 m1 a5 md3
  clear h
  go_wp2_with (refine aV p rfl (.tmp 3) rfl q rfl bd3 ?_)
  refine (hrep.out _ kd3).mono ?_;rintro e w5 ⟨rfl,k5⟩
  have z5:=zd3.kept k5 (by simp)
  have k15:=kd3.trans k5
  go_wp2_with (first
   | (refine aN r zPk rfl (.tmp 4) (.tmp 27) rfl (q+1) rfl rfl z5 ?_;intro wz zz kz))
  refine bodyPost_ret (v:=.tuple #[pkV r,.bool true]) (eG rfl _ _ (q+1) rfl r zz _ rfl) rfl ?_
  have hkz:∀ i∈[q+1],i∈([]:List Nat)∨w1.heap.size≤i:=fun i hi=>by simp at hi;have:=hq.out;exact .inr (by omega)
  exact hfin.out _ (k15.then kz hkz)
 have hb2:(p.asked != σ.jC)=false:=by rw [bne_eq_false_iff_eq];exact hb
 have hfr:∃ k:Nat,p.frm=k∧k<256∧p.frm.toNat=k:=⟨p.frm.toNat,by have:=ht.1.2.2.1;omega,by have:=ht.1.2.2.1;omega,rfl⟩
 obtain⟨k,hk1,hk2,hk3⟩:=hfr
 have kS:=fun W=>BI (σ.seat p.frm.toNat) p.life p.seq W Vl.1 hp.life hp.seq
 have hjp:oL σ p=gq (σ.seat p.frm.toNat) p.life p.seq:=rfl
 rw [←hjp] at kS
 rw [hk3] at kS Vl
 obtain⟨hR,_,_,hc1,hc5⟩:=id ht
 by_cases hj1:oL σ p=1
 ·have Zn:=fun W (k:Only [] w1 W)=>(h.keep k).acU hcc hn bY p hp hR hc1 hc5
  have hstep:∀ C r ok σ',lg C σ p r ok σ'→jS C σ p r ok σ':=fun C r ok σ' he=>.inr (.inr (.inl ⟨⟨hu,ht⟩,hb,hj1,he⟩))
  rw [hj1] at kS
  replace kS:=Lib.hid kS
  replace Zn:=Lib.hid Zn
  replace hstep:=Lib.hid hstep
  replace hjp:=Lib.hid hjp
  replace hj1:=Lib.hid hj1
  replace hb:=Lib.hid hb
  clear hstill ht
  go_enter Tryz.func23,Tryz.ntmps23
  go_wp2_with fail
  generalize ((w1.alloc (.cells (pkA p) 53)).alloc (.cells pz 53))=W at *
  obtain⟨q,hq⟩:∃ q,q=w1.heap.size:=⟨_,rfl⟩
  rw [←hq] at b1 z1 hq1 hq2
  simp only [←hq]
  replace hq:=Lib.hid hq
  refine hdown.mono ?_;rintro e w2 ⟨rfl,rfl⟩
  go_wp2_with (refine aV p rfl (.tmp 3) rfl q rfl b1 ?_)
  refine (htk.out _ k1).mono ?_;rintro e w3 ⟨rfl,k3⟩
  have b3:=b1.kept k3 (by simp)
  have z3:=z1.kept k3 (by simp)
  have k13:=k1.trans k3
  obtain⟨_,m1,_⟩:=(h.keep k13).cells
  go_wp2_with fail
  have kd3:Only [] w1 w3.drew:=k13.drew
  have bd3:=b3.kept ((Only.refl [] w3).drew) (by simp)
  have zd3:=z3.kept ((Only.refl [] w3).drew) (by simp)
  have md3:=(Only.refl [] w3).drew.cell m1 (by simp)
  have a5:=bd3.cell 5
  simp only [List.getElem?_toArray,List.getElem?_cons_zero,List.getElem?_cons_succ] at a5
  refine wp_region_held_drew (S:=fun w'=>w'.cell? ⟨q,5,none⟩=some (.int .u32 p.asked)∧w'.cell? ⟨sb,1,none⟩=some (.int .u32 σ.jC)) (by kernel_rfl) ⟨a5,md3⟩ (fun hHeld=> ?_)
  generalize w3.drew=wd at *
  refine rwT 0 (.pointer (some ⟨q,5,none⟩)) hHeld ?_;simp only [rwA]
  refine rwY 1 (.int .u32 p.asked) hHeld ?_ (hy:=Or.inl ⟨by rfl,fun w' hSw=>by obtain⟨hc,_⟩:=hSw;go_simp⟩);simp only [rwA]
  refine rwT 2 (.pointer (some ⟨sb,0,none⟩)) hHeld ?_;simp only [rwA]
  refine rwT 3 (.pointer (some ⟨sb,0,none⟩)) hHeld ?_;simp only [rwA]
  refine rwT 4 (.pointer (some ⟨sb,1,none⟩)) hHeld ?_;simp only [rwA]
  refine rwY 5 (.int .u32 σ.jC) hHeld ?_ (hy:=Or.inl ⟨by rfl,fun w' hSw=>by obtain⟨_,hc⟩:=hSw;go_simp⟩);simp only [rwA]
  refine rwT 6 (.bool false) hHeld ?_;simp only [rwA]
  refine wpAnyH_done (by kernel_rfl) ?_ _
  clear hHeld
  clear b3 z3 m1 a5 md3
  go_wp2_with fail
  have k5d:Only [] w1 wd.drew:=kd3.drew
  have hd5:=h.keep k5d
  have b5:=bd3.kept ((Only.refl [] wd).drew) (by simp)
  have z5:=zd3.kept ((Only.refl [] wd).drew) (by simp)
  have e1:=b5.cell 1
  simp only [List.getElem?_toArray,List.getElem?_cons_zero,List.getElem?_cons_succ] at e1
  rw [hk1] at e1
  obtain⟨t0,t1,t2⟩:=oG hd5.hdr k hk2
  generalize TU:σ.seat k=st at *
  obtain⟨sl,sq,sr⟩:=st
  simp only at t0 t1 t2 Vl
  replace TU:=Lib.hid TU
  refine wp_region_held_drew (S:=fun w'=>w'.cell? ⟨q,1,none⟩=some (.int .i64 (k:Int))∧w'.cell? ⟨sb,5+k*3,none⟩=some (.int .u32 sl)∧w'.cell? ⟨sb,5+k*3+1,none⟩=some (.int .u32 sq)∧w'.cell? ⟨sb,5+k*3+2,none⟩=some (.string sr)) (by kernel_rfl) ⟨e1,t0,t1,t2⟩ (fun hHeld=> ?_)
  generalize wd.drew=we at *
  refine rwT 0 (.pointer (some ⟨sb,0,none⟩)) hHeld ?_;simp only [rwA]
  refine rwT 1 (.pointer (some ⟨q,1,none⟩)) hHeld ?_;simp only [rwA]
  refine rwY 2 (.int .i64 (k:Int)) hHeld ?_ (hy:=Or.inl ⟨by rfl,fun w' hSw=>by obtain⟨hc,_⟩:=hSw;go_simp⟩);simp only [rwA]
  refine rwT 3 (.pointer (some ⟨sb,0,none⟩)) hHeld ?_;simp only [rwA]
  refine rwT 4 (.pointer (some ⟨sb,5,none⟩)) hHeld ?_;simp only [rwA]
  refine rwY 5 (.pointer (some ⟨sb,5+k*3,none⟩)) hHeld ?_ (hy:=Or.inl ⟨by rfl,fun w' hSw=>by go_simp;intro hh;omega⟩);simp only [rwA]
  refine rwY 6 (.agg #[.int .u32 sl,.int .u32 sq,.string sr]) hHeld ?_ (hy:=Or.inl ⟨by rfl,fun w' hSw=>by obtain⟨_,h0,h1,h2⟩:=hSw;go_simp⟩);simp only [rwA]
  refine ah 7 rfl (by kernel_rfl) (fun K hK=> ?_)
  go_simp
  have k6:Only [] we (we.alloc (.cells #[.int .u32 0,.int .u32 0,.string ⟨#[]⟩] 113)):=(Only.refl [] we).alloc _
  have g6:Blk (we.alloc (.cells #[.int .u32 0,.int .u32 0,.string ⟨#[]⟩] 113)) we.heap.size 113 #[.int .u32 0,.int .u32 0,.string ⟨#[]⟩]:=Blk.new we _ _
  obtain⟨g,hg⟩:∃ g,g=we.heap.size:=⟨_,rfl⟩
  rw [←hg] at g6
  simp only [←hg]
  have hgw:w1.heap.size≤g:=by have:=k5d.size;omega
  have hgq:¬q=g:=by have:=b5.lt;omega
  have Zl:¬q+1=g:=by have:=z5.lt;omega
  have Mc:¬sb=g:=by omega
  have hgR:g∉R:=fun hm=>by have:=MF.out _ hm;omega
  replace hg:=Lib.hid hg
  generalize we.alloc (.cells #[.int .u32 0,.int .u32 0,.string ⟨#[]⟩] 113)=wf at *
  go_wp2_with fail
  refine hK.out _ _ ⟨k6.cell e1 (by simp),k6.cell t0 (by simp),k6.cell t1 (by simp),k6.cell t2 (by simp)⟩ (fun hHeld=> ?_)
  clear hK K
  refine ah 8 rfl (by kernel_rfl) (fun K hK=> ?_)
  refine jT rfl 113 _ _ rfl g _ #[.int .u32 sl,.int .u32 sq,.string sr] rfl rfl g6 qR rfl (by simp [Value.oneCell']) ?_
  intro w6 g7 k7
  refine hK.out _ _ ⟨k7.cell (k6.cell e1 (by simp)) (by simp;exact hgq),k7.cell (k6.cell t0 (by simp)) (by simp;exact Mc),k7.cell (k6.cell t1 (by simp)) (by simp;exact Mc),k7.cell (k6.cell t2 (by simp)) (by simp;exact Mc)⟩ (fun hHeld=> ?_)
  clear hK K
  refine wpAnyH_done (by kernel_rfl) ?_ _
  clear hHeld
  have k16:Only [] w1 w6:=(k5d.trans k6).then k7 (fun i hi=>.inr (by simp at hi;omega))
  have b6:=(b5.kept k6 (by simp)).kept k7 (by simp;exact hgq)
  have z6:=(z5.kept k6 (by simp)).kept k7 (by simp;exact Zl)
  have y0:=g7.cell 0
  have y1:=g7.cell 1
  have y2:=g7.cell 2
  have y3:=b6.cell 3
  have y4:=b6.cell 4
  simp only [List.getElem?_toArray,List.getElem?_cons_zero,List.getElem?_cons_succ] at y0 y1 y2 y3 y4
  clear k6 k7 g6 e1 t0 t1 t2 b5 z5 hd5 kd3 bd3 zd3 k5d
  go_wp2_with fail
  refine (kS.out _).mono ?_;rintro e w7 ⟨rfl,k7⟩
  have k17:=k16.trans k7
  have b7:=b6.kept k7 (by simp)
  have z7:=z6.kept k7 (by simp)
  have v2:=k7.cell y2 (by simp)
  clear k7 b6 z6 y0 y1 y2 y3 y4 k16 g7
  clear h
  go_wp2_with (refine aV p rfl (.tmp 3) rfl q rfl b7 ?_)
  refine (Zn.out _ k17).mono ?_
  rintro e w8 ⟨r,ok,σ',s',n',f',R',rfl,hex,hm8,kR,hR8⟩
  have z8:=z7.kept kR hq2
  have abu:q+1∉R':=fun hm=>by
   rcases hR8 _ hm with hh | hh
   ·exact hq2 hh
   ·have:=z7.lt;omega
  have k18:Only R w1 w8:=(k17.more (by simp)).then kR (fun i hi=>.inl hi)
  have acR:∀ j∈R',j∈R∨w1.heap.size≤j:=fun j hj=>(hR8 j hj).imp id (fun hh=>Nat.le_trans k17.size hh)
  have hst:abg σ s n false p r ok σ' s' n' f':=by
   rcases hex with⟨hh,h2⟩ | ⟨hh,h2⟩
   ·exact .inl ⟨hstep.out _ _ _ _ hh,h2⟩
   ·exact .inr ⟨rfl,hstep.out _ _ _ _ hh,h2⟩
  replace hst:=Lib.hid hst
  replace hm8:=Lib.hid hm8
  replace acR:=Lib.hid acR
  clear hex kR hR8 b7 z7 k17
  go_wp2_with (first
   | (refine aN r zPk rfl (.tmp 4) (.tmp 46) rfl (q+1) rfl rfl z8 ?_;intro wz zz kz))
  refine bodyPost_ret (v:=.tuple #[pkV r,.bool ok]) (eG rfl _ _ (q+1) rfl r zz _ rfl) rfl ?_
  have hkz:∀ i∈[q+1],i∈R∨w1.heap.size≤i:=fun i hi=>by simp at hi;have:=hq.out;exact .inr (by omega)
  exact⟨r,ok,σ',s',n',f',R',rfl,hst.out,hm8.out.beside kz (hm8.out.only.then kz (fun i hi=>by simp at hi;have:=hq.out;exact .inr (by omega))) (fun i hi=>by simp at hi;rw [hi];exact abu),k18.then kz hkz,acR.out⟩
 by_cases hj2:oL σ p=2
 ·have hread:=fun W=>RX W (σ.seat k).reply (by have:=Vl.2;omega)
  rw [hj2] at kS
  by_cases hre:AX (σ.seat k).reply.data.toList=0
  ·have hfin:=fun W k=>hstill W (zI (σ.seat p.frm.toNat).reply.data.toList) true k (.inr (.inr (.inr (.inl ⟨⟨hu,ht⟩,hb,hj2,rfl,by rw [hk3,hre];rfl,rfl⟩))))
   rw [hk3] at hfin
   rw [hre] at hread
   generalize hsr:zI (σ.seat k).reply.data.toList=r at *
   replace kS:=Lib.hid kS
   replace hfin:=Lib.hid hfin
   replace hjp:=Lib.hid hjp
   replace hj2:=Lib.hid hj2
   replace hb:=Lib.hid hb
   replace hsr:=Lib.hid hsr
   replace hre:=Lib.hid hre
   clear hstill ht
   go_enter Tryz.func23,Tryz.ntmps23
   go_wp2_with fail
   generalize ((w1.alloc (.cells (pkA p) 53)).alloc (.cells pz 53))=W at *
   obtain⟨q,hq⟩:∃ q,q=w1.heap.size:=⟨_,rfl⟩
   rw [←hq] at b1 z1 hq1 hq2
   simp only [←hq]
   replace hq:=Lib.hid hq
   refine hdown.mono ?_;rintro e w2 ⟨rfl,rfl⟩
   go_wp2_with (refine aV p rfl (.tmp 3) rfl q rfl b1 ?_)
   refine (htk.out _ k1).mono ?_;rintro e w3 ⟨rfl,k3⟩
   have b3:=b1.kept k3 (by simp)
   have z3:=z1.kept k3 (by simp)
   have k13:=k1.trans k3
   obtain⟨_,m1,_⟩:=(h.keep k13).cells
   go_wp2_with fail
   have kd3:Only [] w1 w3.drew:=k13.drew
   have bd3:=b3.kept ((Only.refl [] w3).drew) (by simp)
   have zd3:=z3.kept ((Only.refl [] w3).drew) (by simp)
   have md3:=(Only.refl [] w3).drew.cell m1 (by simp)
   have a5:=bd3.cell 5
   simp only [List.getElem?_toArray,List.getElem?_cons_zero,List.getElem?_cons_succ] at a5
   refine wp_region_held_drew (S:=fun w'=>w'.cell? ⟨q,5,none⟩=some (.int .u32 p.asked)∧w'.cell? ⟨sb,1,none⟩=some (.int .u32 σ.jC)) (by kernel_rfl) ⟨a5,md3⟩ (fun hHeld=> ?_)
   generalize w3.drew=wd at *
   refine rwT 0 (.pointer (some ⟨q,5,none⟩)) hHeld ?_;simp only [rwA]
   refine rwY 1 (.int .u32 p.asked) hHeld ?_ (hy:=Or.inl ⟨by rfl,fun w' hSw=>by obtain⟨hc,_⟩:=hSw;go_simp⟩);simp only [rwA]
   refine rwT 2 (.pointer (some ⟨sb,0,none⟩)) hHeld ?_;simp only [rwA]
   refine rwT 3 (.pointer (some ⟨sb,0,none⟩)) hHeld ?_;simp only [rwA]
   refine rwT 4 (.pointer (some ⟨sb,1,none⟩)) hHeld ?_;simp only [rwA]
   refine rwY 5 (.int .u32 σ.jC) hHeld ?_ (hy:=Or.inl ⟨by rfl,fun w' hSw=>by obtain⟨_,hc⟩:=hSw;go_simp⟩);simp only [rwA]
   refine rwT 6 (.bool false) hHeld ?_;simp only [rwA]
   refine wpAnyH_done (by kernel_rfl) ?_ _
   clear hHeld
   clear b3 z3 m1 a5 md3
   go_wp2_with fail
   have k5d:Only [] w1 wd.drew:=kd3.drew
   have hd5:=h.keep k5d
   have b5:=bd3.kept ((Only.refl [] wd).drew) (by simp)
   have z5:=zd3.kept ((Only.refl [] wd).drew) (by simp)
   have e1:=b5.cell 1
   simp only [List.getElem?_toArray,List.getElem?_cons_zero,List.getElem?_cons_succ] at e1
   rw [hk1] at e1
   obtain⟨t0,t1,t2⟩:=oG hd5.hdr k hk2
   generalize TU:σ.seat k=st at *
   obtain⟨sl,sq,sr⟩:=st
   simp only at t0 t1 t2 Vl
   replace TU:=Lib.hid TU
   refine wp_region_held_drew (S:=fun w'=>w'.cell? ⟨q,1,none⟩=some (.int .i64 (k:Int))∧w'.cell? ⟨sb,5+k*3,none⟩=some (.int .u32 sl)∧w'.cell? ⟨sb,5+k*3+1,none⟩=some (.int .u32 sq)∧w'.cell? ⟨sb,5+k*3+2,none⟩=some (.string sr)) (by kernel_rfl) ⟨e1,t0,t1,t2⟩ (fun hHeld=> ?_)
   generalize wd.drew=we at *
   refine rwT 0 (.pointer (some ⟨sb,0,none⟩)) hHeld ?_;simp only [rwA]
   refine rwT 1 (.pointer (some ⟨q,1,none⟩)) hHeld ?_;simp only [rwA]
   refine rwY 2 (.int .i64 (k:Int)) hHeld ?_ (hy:=Or.inl ⟨by rfl,fun w' hSw=>by obtain⟨hc,_⟩:=hSw;go_simp⟩);simp only [rwA]
   refine rwT 3 (.pointer (some ⟨sb,0,none⟩)) hHeld ?_;simp only [rwA]
   refine rwT 4 (.pointer (some ⟨sb,5,none⟩)) hHeld ?_;simp only [rwA]
   refine rwY 5 (.pointer (some ⟨sb,5+k*3,none⟩)) hHeld ?_ (hy:=Or.inl ⟨by rfl,fun w' hSw=>by go_simp;intro hh;omega⟩);simp only [rwA]
   refine rwY 6 (.agg #[.int .u32 sl,.int .u32 sq,.string sr]) hHeld ?_ (hy:=Or.inl ⟨by rfl,fun w' hSw=>by obtain⟨_,h0,h1,h2⟩:=hSw;go_simp⟩);simp only [rwA]
   refine ah 7 rfl (by kernel_rfl) (fun K hK=> ?_)
   go_simp
   have k6:Only [] we (we.alloc (.cells #[.int .u32 0,.int .u32 0,.string ⟨#[]⟩] 113)):=(Only.refl [] we).alloc _
   have g6:Blk (we.alloc (.cells #[.int .u32 0,.int .u32 0,.string ⟨#[]⟩] 113)) we.heap.size 113 #[.int .u32 0,.int .u32 0,.string ⟨#[]⟩]:=Blk.new we _ _
   obtain⟨g,hg⟩:∃ g,g=we.heap.size:=⟨_,rfl⟩
   rw [←hg] at g6
   simp only [←hg]
   have hgw:w1.heap.size≤g:=by have:=k5d.size;omega
   have hgq:¬q=g:=by have:=b5.lt;omega
   have Zl:¬q+1=g:=by have:=z5.lt;omega
   have Mc:¬sb=g:=by omega
   have hgR:g∉R:=fun hm=>by have:=MF.out _ hm;omega
   replace hg:=Lib.hid hg
   generalize we.alloc (.cells #[.int .u32 0,.int .u32 0,.string ⟨#[]⟩] 113)=wf at *
   go_wp2_with fail
   refine hK.out _ _ ⟨k6.cell e1 (by simp),k6.cell t0 (by simp),k6.cell t1 (by simp),k6.cell t2 (by simp)⟩ (fun hHeld=> ?_)
   clear hK K
   refine ah 8 rfl (by kernel_rfl) (fun K hK=> ?_)
   refine jT rfl 113 _ _ rfl g _ #[.int .u32 sl,.int .u32 sq,.string sr] rfl rfl g6 qR rfl (by simp [Value.oneCell']) ?_
   intro w6 g7 k7
   refine hK.out _ _ ⟨k7.cell (k6.cell e1 (by simp)) (by simp;exact hgq),k7.cell (k6.cell t0 (by simp)) (by simp;exact Mc),k7.cell (k6.cell t1 (by simp)) (by simp;exact Mc),k7.cell (k6.cell t2 (by simp)) (by simp;exact Mc)⟩ (fun hHeld=> ?_)
   clear hK K
   refine wpAnyH_done (by kernel_rfl) ?_ _
   clear hHeld
   have k16:Only [] w1 w6:=(k5d.trans k6).then k7 (fun i hi=>.inr (by simp at hi;omega))
   have b6:=(b5.kept k6 (by simp)).kept k7 (by simp;exact hgq)
   have z6:=(z5.kept k6 (by simp)).kept k7 (by simp;exact Zl)
   have y0:=g7.cell 0
   have y1:=g7.cell 1
   have y2:=g7.cell 2
   have y3:=b6.cell 3
   have y4:=b6.cell 4
   simp only [List.getElem?_toArray,List.getElem?_cons_zero,List.getElem?_cons_succ] at y0 y1 y2 y3 y4
   clear k6 k7 g6 e1 t0 t1 t2 b5 z5 hd5 kd3 bd3 zd3 k5d
   go_wp2_with fail
   refine (kS.out _).mono ?_;rintro e w7 ⟨rfl,k7⟩
   have k17:=k16.trans k7
   have b7:=b6.kept k7 (by simp)
   have z7:=z6.kept k7 (by simp)
   have v2:=k7.cell y2 (by simp)
   clear k7 b6 z6 y0 y1 y2 y3 y4 k16 g7
   clear h
   go_wp2_with fail
   refine (hread _).mono ?_;rintro e w8 ⟨rfl,k8⟩
   have z8:=z7.kept k8 (by simp)
   have k18:=k17.trans k8
   have ka:Only [] w8 (w8.alloc (.cells pz 53)):=(Only.refl [] w8).alloc _
   have n8:Blk (w8.alloc (.cells pz 53)) w8.heap.size 53 (pkA zPk):=Blk.new w8 _ _
   have hqn:¬q+1=w8.heap.size:=by have:=z8.lt;omega
   go_wp2_with (first
    | (refine aN r zPk rfl (.tmp 7) (.tmp 54) rfl w8.heap.size rfl rfl n8 ?_;intro w9 n9 k9;have z9:=(z8.kept ka (by simp)).kept k9 (by simp;exact hqn))
    | (refine aV r rfl (.tmp 7) rfl w8.heap.size rfl n9 ?_)
    | (refine aN r zPk rfl (.tmp 4) (.tmp 56) rfl (q+1) rfl rfl z9 ?_;intro wz zz kz))
   refine bodyPost_ret (v:=.tuple #[pkV r,.bool true]) (eG rfl _ _ (q+1) rfl r zz _ rfl) rfl ?_
   have hkz:∀ i∈[q+1],i∈([]:List Nat)∨w1.heap.size≤i:=fun i hi=>by simp at hi;have:=hq.out;exact .inr (by omega)
   have k19:Only [] w1 w9:=(k18.trans ka).then k9 (fun i hi=>.inr (by simp at hi;have:=k18.size;omega))
   exact hfin.out _ (k19.then kz hkz)
  ·have hfin:=fun W k=>hstill W (zI (σ.seat p.frm.toNat).reply.data.toList) false k (.inr (.inr (.inr (.inl ⟨⟨hu,ht⟩,hb,hj2,rfl,by rw [hk3,decide_eq_false hre],rfl⟩))))
   rw [hk3] at hfin
   have afi:(((AX (σ.seat k).reply.data.toList:Nat):Int)==0)=false:=by rw [beq_eq_false_iff_ne];omega
   generalize ((AX (σ.seat k).reply.data.toList:Nat):Int)=re at *
   generalize hsr:zI (σ.seat k).reply.data.toList=r at *
   replace kS:=Lib.hid kS
   replace hfin:=Lib.hid hfin
   replace hjp:=Lib.hid hjp
   replace hj2:=Lib.hid hj2
   replace hb:=Lib.hid hb
   replace hsr:=Lib.hid hsr
   replace hre:=Lib.hid hre
   clear hstill ht
   go_enter Tryz.func23,Tryz.ntmps23
   go_wp2_with fail
   generalize ((w1.alloc (.cells (pkA p) 53)).alloc (.cells pz 53))=W at *
   obtain⟨q,hq⟩:∃ q,q=w1.heap.size:=⟨_,rfl⟩
   rw [←hq] at b1 z1 hq1 hq2
   simp only [←hq]
   replace hq:=Lib.hid hq
   refine hdown.mono ?_;rintro e w2 ⟨rfl,rfl⟩
   go_wp2_with (refine aV p rfl (.tmp 3) rfl q rfl b1 ?_)
   refine (htk.out _ k1).mono ?_;rintro e w3 ⟨rfl,k3⟩
   have b3:=b1.kept k3 (by simp)
   have z3:=z1.kept k3 (by simp)
   have k13:=k1.trans k3
   obtain⟨_,m1,_⟩:=(h.keep k13).cells
   go_wp2_with fail
   have kd3:Only [] w1 w3.drew:=k13.drew
   have bd3:=b3.kept ((Only.refl [] w3).drew) (by simp)
   have zd3:=z3.kept ((Only.refl [] w3).drew) (by simp)
   have md3:=(Only.refl [] w3).drew.cell m1 (by simp)
   have a5:=bd3.cell 5
   simp only [List.getElem?_toArray,List.getElem?_cons_zero,List.getElem?_cons_succ] at a5
   refine wp_region_held_drew (S:=fun w'=>w'.cell? ⟨q,5,none⟩=some (.int .u32 p.asked)∧w'.cell? ⟨sb,1,none⟩=some (.int .u32 σ.jC)) (by kernel_rfl) ⟨a5,md3⟩ (fun hHeld=> ?_)
   generalize w3.drew=wd at *
   refine rwT 0 (.pointer (some ⟨q,5,none⟩)) hHeld ?_;simp only [rwA]
   refine rwY 1 (.int .u32 p.asked) hHeld ?_ (hy:=Or.inl ⟨by rfl,fun w' hSw=>by obtain⟨hc,_⟩:=hSw;go_simp⟩);simp only [rwA]
   refine rwT 2 (.pointer (some ⟨sb,0,none⟩)) hHeld ?_;simp only [rwA]
   refine rwT 3 (.pointer (some ⟨sb,0,none⟩)) hHeld ?_;simp only [rwA]
   refine rwT 4 (.pointer (some ⟨sb,1,none⟩)) hHeld ?_;simp only [rwA]
   refine rwY 5 (.int .u32 σ.jC) hHeld ?_ (hy:=Or.inl ⟨by rfl,fun w' hSw=>by obtain⟨_,hc⟩:=hSw;go_simp⟩);simp only [rwA]
   refine rwT 6 (.bool false) hHeld ?_;simp only [rwA]
   refine wpAnyH_done (by kernel_rfl) ?_ _
   clear hHeld
   clear b3 z3 m1 a5 md3
   go_wp2_with fail
   have k5d:Only [] w1 wd.drew:=kd3.drew
   have hd5:=h.keep k5d
   have b5:=bd3.kept ((Only.refl [] wd).drew) (by simp)
   have z5:=zd3.kept ((Only.refl [] wd).drew) (by simp)
   have e1:=b5.cell 1
   simp only [List.getElem?_toArray,List.getElem?_cons_zero,List.getElem?_cons_succ] at e1
   rw [hk1] at e1
   obtain⟨t0,t1,t2⟩:=oG hd5.hdr k hk2
   generalize TU:σ.seat k=st at *
   obtain⟨sl,sq,sr⟩:=st
   simp only at t0 t1 t2 Vl
   replace TU:=Lib.hid TU
   refine wp_region_held_drew (S:=fun w'=>w'.cell? ⟨q,1,none⟩=some (.int .i64 (k:Int))∧w'.cell? ⟨sb,5+k*3,none⟩=some (.int .u32 sl)∧w'.cell? ⟨sb,5+k*3+1,none⟩=some (.int .u32 sq)∧w'.cell? ⟨sb,5+k*3+2,none⟩=some (.string sr)) (by kernel_rfl) ⟨e1,t0,t1,t2⟩ (fun hHeld=> ?_)
   generalize wd.drew=we at *
   refine rwT 0 (.pointer (some ⟨sb,0,none⟩)) hHeld ?_;simp only [rwA]
   refine rwT 1 (.pointer (some ⟨q,1,none⟩)) hHeld ?_;simp only [rwA]
   refine rwY 2 (.int .i64 (k:Int)) hHeld ?_ (hy:=Or.inl ⟨by rfl,fun w' hSw=>by obtain⟨hc,_⟩:=hSw;go_simp⟩);simp only [rwA]
   refine rwT 3 (.pointer (some ⟨sb,0,none⟩)) hHeld ?_;simp only [rwA]
   refine rwT 4 (.pointer (some ⟨sb,5,none⟩)) hHeld ?_;simp only [rwA]
   refine rwY 5 (.pointer (some ⟨sb,5+k*3,none⟩)) hHeld ?_ (hy:=Or.inl ⟨by rfl,fun w' hSw=>by go_simp;intro hh;omega⟩);simp only [rwA]
   refine rwY 6 (.agg #[.int .u32 sl,.int .u32 sq,.string sr]) hHeld ?_ (hy:=Or.inl ⟨by rfl,fun w' hSw=>by obtain⟨_,h0,h1,h2⟩:=hSw;go_simp⟩);simp only [rwA]
   refine ah 7 rfl (by kernel_rfl) (fun K hK=> ?_)
   go_simp
   have k6:Only [] we (we.alloc (.cells #[.int .u32 0,.int .u32 0,.string ⟨#[]⟩] 113)):=(Only.refl [] we).alloc _
   have g6:Blk (we.alloc (.cells #[.int .u32 0,.int .u32 0,.string ⟨#[]⟩] 113)) we.heap.size 113 #[.int .u32 0,.int .u32 0,.string ⟨#[]⟩]:=Blk.new we _ _
   obtain⟨g,hg⟩:∃ g,g=we.heap.size:=⟨_,rfl⟩
   rw [←hg] at g6
   simp only [←hg]
   have hgw:w1.heap.size≤g:=by have:=k5d.size;omega
   have hgq:¬q=g:=by have:=b5.lt;omega
   have Zl:¬q+1=g:=by have:=z5.lt;omega
   have Mc:¬sb=g:=by omega
   have hgR:g∉R:=fun hm=>by have:=MF.out _ hm;omega
   replace hg:=Lib.hid hg
   generalize we.alloc (.cells #[.int .u32 0,.int .u32 0,.string ⟨#[]⟩] 113)=wf at *
   go_wp2_with fail
   refine hK.out _ _ ⟨k6.cell e1 (by simp),k6.cell t0 (by simp),k6.cell t1 (by simp),k6.cell t2 (by simp)⟩ (fun hHeld=> ?_)
   clear hK K
   refine ah 8 rfl (by kernel_rfl) (fun K hK=> ?_)
   refine jT rfl 113 _ _ rfl g _ #[.int .u32 sl,.int .u32 sq,.string sr] rfl rfl g6 qR rfl (by simp [Value.oneCell']) ?_
   intro w6 g7 k7
   refine hK.out _ _ ⟨k7.cell (k6.cell e1 (by simp)) (by simp;exact hgq),k7.cell (k6.cell t0 (by simp)) (by simp;exact Mc),k7.cell (k6.cell t1 (by simp)) (by simp;exact Mc),k7.cell (k6.cell t2 (by simp)) (by simp;exact Mc)⟩ (fun hHeld=> ?_)
   clear hK K
   refine wpAnyH_done (by kernel_rfl) ?_ _
   clear hHeld
   have k16:Only [] w1 w6:=(k5d.trans k6).then k7 (fun i hi=>.inr (by simp at hi;omega))
   have b6:=(b5.kept k6 (by simp)).kept k7 (by simp;exact hgq)
   have z6:=(z5.kept k6 (by simp)).kept k7 (by simp;exact Zl)
   have y0:=g7.cell 0
   have y1:=g7.cell 1
   have y2:=g7.cell 2
   have y3:=b6.cell 3
   have y4:=b6.cell 4
   simp only [List.getElem?_toArray,List.getElem?_cons_zero,List.getElem?_cons_succ] at y0 y1 y2 y3 y4
   clear k6 k7 g6 e1 t0 t1 t2 b5 z5 hd5 kd3 bd3 zd3 k5d
   go_wp2_with fail
   refine (kS.out _).mono ?_;rintro e w7 ⟨rfl,k7⟩
   have k17:=k16.trans k7
   have b7:=b6.kept k7 (by simp)
   have z7:=z6.kept k7 (by simp)
   have v2:=k7.cell y2 (by simp)
   clear k7 b6 z6 y0 y1 y2 y3 y4 k16 g7
   clear h
   go_wp2_with fail
   refine (hread _).mono ?_;rintro e w8 ⟨rfl,k8⟩
   have z8:=z7.kept k8 (by simp)
   have k18:=k17.trans k8
   have ka:Only [] w8 (w8.alloc (.cells pz 53)):=(Only.refl [] w8).alloc _
   have n8:Blk (w8.alloc (.cells pz 53)) w8.heap.size 53 (pkA zPk):=Blk.new w8 _ _
   have hqn:¬q+1=w8.heap.size:=by have:=z8.lt;omega
   go_wp2_with (first
    | (refine aN r zPk rfl (.tmp 7) (.tmp 54) rfl w8.heap.size rfl rfl n8 ?_;intro w9 n9 k9;have z9:=(z8.kept ka (by simp)).kept k9 (by simp;exact hqn))
    | (refine aV r rfl (.tmp 7) rfl w8.heap.size rfl n9 ?_)
    | (refine aN r zPk rfl (.tmp 4) (.tmp 56) rfl (q+1) rfl rfl z9 ?_;intro wz zz kz))
   refine bodyPost_ret (v:=.tuple #[pkV r,.bool false]) (eG rfl _ _ (q+1) rfl r zz _ rfl) rfl ?_
   have hkz:∀ i∈[q+1],i∈([]:List Nat)∨w1.heap.size≤i:=fun i hi=>by simp at hi;have:=hq.out;exact .inr (by omega)
   have k19:Only [] w1 w9:=(k18.trans ka).then k9 (fun i hi=>.inr (by simp at hi;have:=k18.size;omega))
   exact hfin.out _ (k19.then kz hkz)
 ·have acB:oL σ p=3∨oL σ p=4:=by
   have:=Ez (σ.seat p.frm.toNat) p.life p.seq
   rw [←hjp] at this
   rcases this with⟨_,e⟩ | ⟨_,_,e⟩ | ⟨_,_,_,e⟩ | ⟨_,_,_,_,_,e⟩ | ⟨_,_,_,_,_,e⟩ | ⟨_,_,_,_,_,e⟩ | ⟨_,_,_,_,_,_,e⟩ | ⟨_,_,_,_,_,_,_,e⟩ | ⟨_,_,_,_,_,_,_,e⟩<;>omega
  have hfin:=fun W k=>hstill W zPk false k (.inr (.inr (.inr (.inr ⟨⟨hu,ht⟩,hb,acB,rfl,rfl,rfl⟩))))
  have d1:(oL σ p==1)=false:=by rw [beq_eq_false_iff_ne];exact hj1
  have d2:(oL σ p==2)=false:=by rw [beq_eq_false_iff_ne];exact hj2
  generalize oL σ p=jv at *
  replace kS:=Lib.hid kS
  replace hfin:=Lib.hid hfin
  replace hjp:=Lib.hid hjp
  replace hb:=Lib.hid hb
  replace acB:=Lib.hid acB
  clear hstill ht
  go_enter Tryz.func23,Tryz.ntmps23
  go_wp2_with fail
  generalize ((w1.alloc (.cells (pkA p) 53)).alloc (.cells pz 53))=W at *
  obtain⟨q,hq⟩:∃ q,q=w1.heap.size:=⟨_,rfl⟩
  rw [←hq] at b1 z1 hq1 hq2
  simp only [←hq]
  replace hq:=Lib.hid hq
  refine hdown.mono ?_;rintro e w2 ⟨rfl,rfl⟩
  go_wp2_with (refine aV p rfl (.tmp 3) rfl q rfl b1 ?_)
  refine (htk.out _ k1).mono ?_;rintro e w3 ⟨rfl,k3⟩
  have b3:=b1.kept k3 (by simp)
  have z3:=z1.kept k3 (by simp)
  have k13:=k1.trans k3
  obtain⟨_,m1,_⟩:=(h.keep k13).cells
  go_wp2_with fail
  have kd3:Only [] w1 w3.drew:=k13.drew
  have bd3:=b3.kept ((Only.refl [] w3).drew) (by simp)
  have zd3:=z3.kept ((Only.refl [] w3).drew) (by simp)
  have md3:=(Only.refl [] w3).drew.cell m1 (by simp)
  have a5:=bd3.cell 5
  simp only [List.getElem?_toArray,List.getElem?_cons_zero,List.getElem?_cons_succ] at a5
  refine wp_region_held_drew (S:=fun w'=>w'.cell? ⟨q,5,none⟩=some (.int .u32 p.asked)∧w'.cell? ⟨sb,1,none⟩=some (.int .u32 σ.jC)) (by kernel_rfl) ⟨a5,md3⟩ (fun hHeld=> ?_)
  generalize w3.drew=wd at *
  refine rwT 0 (.pointer (some ⟨q,5,none⟩)) hHeld ?_;simp only [rwA]
  refine rwY 1 (.int .u32 p.asked) hHeld ?_ (hy:=Or.inl ⟨by rfl,fun w' hSw=>by obtain⟨hc,_⟩:=hSw;go_simp⟩);simp only [rwA]
  refine rwT 2 (.pointer (some ⟨sb,0,none⟩)) hHeld ?_;simp only [rwA]
  refine rwT 3 (.pointer (some ⟨sb,0,none⟩)) hHeld ?_;simp only [rwA]
  refine rwT 4 (.pointer (some ⟨sb,1,none⟩)) hHeld ?_;simp only [rwA]
  refine rwY 5 (.int .u32 σ.jC) hHeld ?_ (hy:=Or.inl ⟨by rfl,fun w' hSw=>by obtain⟨_,hc⟩:=hSw;go_simp⟩);simp only [rwA]
  refine rwT 6 (.bool false) hHeld ?_;simp only [rwA]
  refine wpAnyH_done (by kernel_rfl) ?_ _
  clear hHeld
  clear b3 z3 m1 a5 md3
  go_wp2_with fail
  have k5d:Only [] w1 wd.drew:=kd3.drew
  have hd5:=h.keep k5d
  have b5:=bd3.kept ((Only.refl [] wd).drew) (by simp)
  have z5:=zd3.kept ((Only.refl [] wd).drew) (by simp)
  have e1:=b5.cell 1
  simp only [List.getElem?_toArray,List.getElem?_cons_zero,List.getElem?_cons_succ] at e1
  rw [hk1] at e1
  obtain⟨t0,t1,t2⟩:=oG hd5.hdr k hk2
  generalize TU:σ.seat k=st at *
  obtain⟨sl,sq,sr⟩:=st
  simp only at t0 t1 t2 Vl
  replace TU:=Lib.hid TU
  refine wp_region_held_drew (S:=fun w'=>w'.cell? ⟨q,1,none⟩=some (.int .i64 (k:Int))∧w'.cell? ⟨sb,5+k*3,none⟩=some (.int .u32 sl)∧w'.cell? ⟨sb,5+k*3+1,none⟩=some (.int .u32 sq)∧w'.cell? ⟨sb,5+k*3+2,none⟩=some (.string sr)) (by kernel_rfl) ⟨e1,t0,t1,t2⟩ (fun hHeld=> ?_)
  generalize wd.drew=we at *
  refine rwT 0 (.pointer (some ⟨sb,0,none⟩)) hHeld ?_;simp only [rwA]
  refine rwT 1 (.pointer (some ⟨q,1,none⟩)) hHeld ?_;simp only [rwA]
  refine rwY 2 (.int .i64 (k:Int)) hHeld ?_ (hy:=Or.inl ⟨by rfl,fun w' hSw=>by obtain⟨hc,_⟩:=hSw;go_simp⟩);simp only [rwA]
  refine rwT 3 (.pointer (some ⟨sb,0,none⟩)) hHeld ?_;simp only [rwA]
  refine rwT 4 (.pointer (some ⟨sb,5,none⟩)) hHeld ?_;simp only [rwA]
  refine rwY 5 (.pointer (some ⟨sb,5+k*3,none⟩)) hHeld ?_ (hy:=Or.inl ⟨by rfl,fun w' hSw=>by go_simp;intro hh;omega⟩);simp only [rwA]
  refine rwY 6 (.agg #[.int .u32 sl,.int .u32 sq,.string sr]) hHeld ?_ (hy:=Or.inl ⟨by rfl,fun w' hSw=>by obtain⟨_,h0,h1,h2⟩:=hSw;go_simp⟩);simp only [rwA]
  refine ah 7 rfl (by kernel_rfl) (fun K hK=> ?_)
  go_simp
  have k6:Only [] we (we.alloc (.cells #[.int .u32 0,.int .u32 0,.string ⟨#[]⟩] 113)):=(Only.refl [] we).alloc _
  have g6:Blk (we.alloc (.cells #[.int .u32 0,.int .u32 0,.string ⟨#[]⟩] 113)) we.heap.size 113 #[.int .u32 0,.int .u32 0,.string ⟨#[]⟩]:=Blk.new we _ _
  obtain⟨g,hg⟩:∃ g,g=we.heap.size:=⟨_,rfl⟩
  rw [←hg] at g6
  simp only [←hg]
  have hgw:w1.heap.size≤g:=by have:=k5d.size;omega
  have hgq:¬q=g:=by have:=b5.lt;omega
  have Zl:¬q+1=g:=by have:=z5.lt;omega
  have Mc:¬sb=g:=by omega
  have hgR:g∉R:=fun hm=>by have:=MF.out _ hm;omega
  replace hg:=Lib.hid hg
  generalize we.alloc (.cells #[.int .u32 0,.int .u32 0,.string ⟨#[]⟩] 113)=wf at *
  go_wp2_with fail
  refine hK.out _ _ ⟨k6.cell e1 (by simp),k6.cell t0 (by simp),k6.cell t1 (by simp),k6.cell t2 (by simp)⟩ (fun hHeld=> ?_)
  clear hK K
  refine ah 8 rfl (by kernel_rfl) (fun K hK=> ?_)
  refine jT rfl 113 _ _ rfl g _ #[.int .u32 sl,.int .u32 sq,.string sr] rfl rfl g6 qR rfl (by simp [Value.oneCell']) ?_
  intro w6 g7 k7
  refine hK.out _ _ ⟨k7.cell (k6.cell e1 (by simp)) (by simp;exact hgq),k7.cell (k6.cell t0 (by simp)) (by simp;exact Mc),k7.cell (k6.cell t1 (by simp)) (by simp;exact Mc),k7.cell (k6.cell t2 (by simp)) (by simp;exact Mc)⟩ (fun hHeld=> ?_)
  clear hK K
  refine wpAnyH_done (by kernel_rfl) ?_ _
  clear hHeld
  have k16:Only [] w1 w6:=(k5d.trans k6).then k7 (fun i hi=>.inr (by simp at hi;omega))
  have b6:=(b5.kept k6 (by simp)).kept k7 (by simp;exact hgq)
  have z6:=(z5.kept k6 (by simp)).kept k7 (by simp;exact Zl)
  have y0:=g7.cell 0
  have y1:=g7.cell 1
  have y2:=g7.cell 2
  have y3:=b6.cell 3
  have y4:=b6.cell 4
  simp only [List.getElem?_toArray,List.getElem?_cons_zero,List.getElem?_cons_succ] at y0 y1 y2 y3 y4
  clear k6 k7 g6 e1 t0 t1 t2 b5 z5 hd5 kd3 bd3 zd3 k5d
  go_wp2_with fail
  refine (kS.out _).mono ?_;rintro e w7 ⟨rfl,k7⟩
  have k17:=k16.trans k7
  have b7:=b6.kept k7 (by simp)
  have z7:=z6.kept k7 (by simp)
  have v2:=k7.cell y2 (by simp)
  clear k7 b6 z6 y0 y1 y2 y3 y4 k16 g7
  clear h
  go_wp2_with (first
   | (refine aN zPk zPk rfl (.tmp 4) (.tmp 59) rfl (q+1) rfl rfl z7 ?_;intro wz zz kz))
  refine bodyPost_ret (v:=.tuple #[pkV zPk,.bool false]) (eG rfl _ _ (q+1) rfl zPk zz _ rfl) rfl ?_
  have hkz:∀ i∈[q+1],i∈([]:List Nat)∨w1.heap.size≤i:=fun i hi=>by simp at hi;have:=hq.out;exact .inr (by omega)
  exact hfin.out _ (k17.then kz hkz)
end
end Go.Proofs.YtmelaiefbpdifaaGreatDoor.Srv
