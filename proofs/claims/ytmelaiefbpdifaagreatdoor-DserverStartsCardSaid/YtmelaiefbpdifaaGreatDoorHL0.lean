/- Joined: Bg13, So13, Sp13, St14 -/
import Derived.Test.YtmelaiefbpdifaaGreatDoorHHn13
namespace Go.Proofs.YtmelaiefbpdifaaGreatDoor.Srv
open Go.RowKit Go.Maps
open Pgs (Pg pgE jm headB ldL mV XE yg mW)
def uz(b:Nat):List Ch:=[⟨bK,be4 b,false⟩]
def eu(M:List Rw):Nat:=numOf (kF M bK)
def C9(N:Nat)(M:List Rw)(s:St)(n:Nat)(b x:Int)(M':List Rw)(s':St)(n':Nat)(f':Bool):Prop:=
 (eu M=4294967295∧b=0∧x=16∧M'=M∧s'=s∧n'=n∧f'=false) ∨
 (eu M<4294967295∧dN N M s n false (uz (eu M+1)) x M' s' n' f'∧b=if x=0 then (eu M:Int)+1 else 0)
def Vf(w w1 w':World)(F:List Nat)(rp mb lp p N:Nat)(M:List Rw)(s:St)(n:Nat)(e:Ending):Prop:=
 ∃ b x M' s' n' f' F',e = .returned (.tuple #[.int .u32 b,.int .i64 x])∧C9 N M s n b x M' s' n' f'∧Own5 w w' F' rp mb lp p s' n' f' M'∧Only (mb :: lp :: F) w1 w'∧∀ j∈F',j∈F∨w1.heap.size≤j
set_option maxRecDepth 100000 in
set_option maxHeartbeats 4000000 in
theorem U5{w w1:World}{F:List Nat}{rp mb lp p n N:Nat}{s:St}{M:List Rw}(h:Own5 w w1 F rp mb lp p s n false M)(hN:s.aA.length=41+N)(hM:Good N M)(hn:n<4294967296)(bY:s.late.length+200≤1048576):
  Calls Tryz.prog 46 #[.pointer (some ⟨rp,0,none⟩)] w1 fun e w'=>Vf w w1 w' F rp mb lp p N M s n e:=by
 have hv:(kF M bK).length≤200:=by
  unfold kF
  split
  ·rename_i r hr
   exact (hM.small r (bC hr).1).2.2
  ·simp
 have hget:=get_any w1 rp mb lp M bK (by decide) h.rows
 change Calls _ _ #[_,.string ⟨#[66]⟩] w1 _ at hget
 have hnum:=fun W=>qZ W (kF M bK) (by omega)
 have hlt:=zQ (kF M bK)
 have hby:=fun W (hb:eu M<4294967295)=>vC W ((eu M:Int)+1) (eu M+1) (by omega) (by omega)
 have hcm:=fun W (k:Only [] w1 W) B (hB:Els chE 3 W B (uz (eu M+1)))=>(h.keep k).commit B 1 (uz (eu M+1)) hN hM hn hB (by simp [wJ,uz,bK,aU]) (by simp [uz]) (by simp [uz]) bY
 have hfin:=fun W (k:Only [] w1 W) (hb:eu M=4294967295)=>show Vf w w1 W F rp mb lp p N M s n (.returned (.tuple #[.int .u32 0,.int .i64 16])) from
  ⟨0,16,M,s,n,false,F,rfl,.inl ⟨hb,rfl,rfl,rfl,rfl,rfl,rfl⟩,h.keep k,k.more (by simp),fun j hj=>.inl hj⟩
 have rJ:=fun (x:Int) M' s' n' f' F' W (hb:eu M<4294967295) (hc:dN N M s n false (uz (eu M+1)) x M' s' n' f') (h5:Own5 w W F' rp mb lp p s' n' f' M') (k:Only (mb :: lp :: F) w1 W) (hF:∀ j∈F',j∈F∨w1.heap.size≤j)=>
  show Vf w w1 W F rp mb lp p N M s n (.returned (.tuple #[.int .u32 (if x=0 then (eu M:Int)+1 else 0),.int .i64 x])) from
  ⟨_,x,M',s',n',f',F',rfl,.inr ⟨hb,hc,rfl⟩,h5,k,hF⟩
 have hbe:uz (eu M+1) = [⟨bK,be4 (eu M+1),false⟩]:=rfl
 have hbN:numOf (kF M bK)=eu M:=rfl
 rw [hbN] at hnum hlt
 obtain⟨es,hes⟩:∃ es,strOf (be4 (eu M+1))=es:=⟨_,rfl⟩
 simp only [hes] at hby
 clear h hv hN hM hn bY hbN
 generalize (aK M bK).isSome=b at *
 generalize strOf (kF M bK)=vs at *
 obtain⟨y,hy⟩:∃ y:Nat,y=eu M:=⟨_,rfl⟩
 replace hcm:=Lib.hid hcm
 replace hfin:=Lib.hid hfin
 replace rJ:=Lib.hid rJ
 replace hbe:=Lib.hid hbe
 replace hes:=Lib.hid hes
 replace hnum:=Lib.hid hnum
 by_cases hmax:eu M=4294967295
 ·have hw:IntKind.u32.wrap ((eu M:Int)+1)=0:=by rw [hmax,IntKind.wrap_u32];decide
  have Gv:=fun W k=>hfin.out W k hmax
  replace Gv:=Lib.hid Gv
  replace hmax:=Lib.hid hmax
  clear hby hlt
  generalize (eu M:Int)=yy at *
  go_enter Tryz.func46,Tryz.ntmps46
  go_wp2_with fail
  refine hget.mono ?_;rintro e w2 ⟨rfl,k2⟩
  go_wp2_with fail
  refine (hnum.out _).mono ?_;rintro e w3 ⟨rfl,k3⟩
  have k13:=k2.trans k3
  go_wp2
  go_ret2
  exact Gv.out _ k13
 ·have hb:eu M<4294967295:=by omega
  have hw:IntKind.u32.wrap ((eu M:Int)+1)=(eu M:Int)+1:=by rw [IntKind.wrap_u32];omega
  have hne:(((eu M:Int)+1)==0)=false:=by rw [beq_eq_false_iff_ne];omega
  have hne2:¬((eu M:Int)+1)=0:=by omega
  have abD:=fun W=>hby W hb
  have Gv:=fun x M' s' n' f' F' W hc h5 k hF=>rJ.out x M' s' n' f' F' W hb hc h5 k hF
  replace abD:=Lib.hid abD
  replace Gv:=Lib.hid Gv
  replace hb:=Lib.hid hb
  clear hby hmax hlt
  have hmod:((eu M:Int)+1) % 4294967296=(eu M:Int)+1:=by have:=hb.out;omega
  obtain⟨yb,hyb⟩:∃ yb,yb=(eu M:Int)+1:=⟨_,rfl⟩
  rw [←hyb] at hne hne2 abD Gv
  have ach:((eu M:Int)+1) % 4294967296=yb:=hmod.trans hyb.symm
  clear hmod hw
  replace hyb:=Lib.hid hyb
  generalize (eu M:Int)=yy at ach hnum
  go_enter Tryz.func46,Tryz.ntmps46
  go_wp2_with fail
  refine hget.mono ?_;rintro e w2 ⟨rfl,k2⟩
  go_wp2_with fail
  refine (hnum.out _).mono ?_;rintro e w3 ⟨rfl,k3⟩
  have k13:=k2.trans k3
  go_wp2_with fail
  refine (abD.out _).mono ?_;rintro e w4 ⟨rfl,k4⟩
  have k14:=k13.trans k4
  have k5:Only [] w1 (w4.alloc (.cells #[.string ⟨#[66]⟩,.string es,.bool false] 133)):=k14.alloc _
  have hE:=MW (w:=w4) (gn:=false) (kl:=bK) (ks:=⟨#[66]⟩) rfl hes.out
  rw [←hbe.out] at hE
  replace hE:=Lib.hid hE
  clear k2 k3 k13 k4 k14 hget hnum
  go_wp2_with fail
  refine (hcm.out _ k5 _ hE.out).mono ?_
  rintro e w6 ⟨x,M',s',n',f',F',rfl,hc,h5,k6,hF6⟩
  have hE2:=Gv.out x M' s' n' f' F' w6 hc h5 ((k5.more (by simp)).then k6 (fun i hi=>.inl hi)) (fun j hj=>(hF6 j hj).imp id (fun hh=>Nat.le_trans k5.size hh))
  replace hE2:=Lib.hid hE2
  clear Gv hc h5 k6 hF6 k5
  by_cases hx:x=0
  ·subst hx
   go_wp2
   go_ret2
   exact hE2.out
  ·have hx2:(x==0)=false:=by rw [beq_eq_false_iff_ne];exact hx
   have hx3:(x != 0)=true:=by rw [bne_iff_ne];exact hx
   go_wp2
   go_ret2
   have:=hE2.out
   first | exact this | (rw [if_neg hx] at this;exact this)
end Go.Proofs.YtmelaiefbpdifaaGreatDoor.Srv
namespace Go.Proofs.YtmelaiefbpdifaaGreatDoor.Srv
open Go.RowKit Go.Maps
open Pgs (Pg pgE jm headB ldL mV XE yg mW)
theorem gZ{P:Program}(t:TypeId)(ht:P.underlying t=some .string)(bs:List UInt8)(i:Nat)(x:Int)(k:IntKind)(hx:x=i)(h:i≤bs.length):
  ∀ W:World,(Instr.slice t (.string (strOf bs)) none (some (.int k x)) none).run P W = .ok (.string (strOf (bs.take i))) W:=by
 intro W
 subst hx
 have hs:=aj bs
 rw [run_slice_string_h (ht:=ht) (h0:=by omega) (h2:=by omega)]
 congr 2
 show (ByteArray.mk bs.toArray).extract _ _=_
 rw [ByteArray.extract_mk,Int.toNat_natCast]
 simp [strOf]
def fileOf(k:List UInt8):Nat:=numOf ((k.take 5).drop 1)
def qH(M:List Rw)(c:Ch):Bool:=decide (5≤c.key.length) && mV (aP M (headB (fileOf c.key)))
def LD(M:List Rw):Bool:=(aP M [80]).all (qH M)
def Kv(c:Ch):Bool:=decide (c.key.length=5) && decide (c.val.length=4)
def gI(M:List Rw):Bool:=(!((aK M bK).isSome && decide ((kF M bK).length≠4))) && ((aP M [69]).all Kv && LD M)
theorem Au{M:List Rw}(h:∀ r∈M,1≤r.key.length∧r.key.length≤16∧r.val.length≤200){q:List UInt8}{c:Ch}(hc:c∈aP M q):c.key.length≤16∧c.val.length≤200:=by
 obtain⟨r,hr,rfl⟩:=List.mem_map.1 hc
 exact⟨(h r (List.mem_filter.1 hr).1).2.1,(h r (List.mem_filter.1 hr).1).2.2⟩
theorem Hy{α:Type}{f:α→Bool}{l:List α}{k:Nat}(hk:k<l.length)(h:∀ c∈l.take k,f c=true)(hf:f l[k]=true):∀ c∈l.take (k+1),f c=true:=fun c hc=>by
 rw [List.take_add_one,List.getElem?_eq_getElem hk,List.mem_append] at hc
 rcases hc with hc | hc
 ·exact h c hc
 ·simp at hc;rw [hc];exact hf
theorem Gf{α:Type}{f:α→Bool}{l:List α}{c:α}(hc:c∈l)(hf:f c=false):l.all f=false:=by
 rw [List.all_eq_false]
 exact⟨c,hc,by rw [hf];simp⟩
set_option maxRecDepth 100000 in
set_option maxHeartbeats 4000000 in
theorem Jj(w1:World)(rp mb lp:Nat)(M:List Rw)(hR:gy w1 rp mb lp M)(hS:Sorted M)(hM:M.length≤1024)(hsm:∀ r∈M,1≤r.key.length∧r.key.length≤16∧r.val.length≤200):
  Calls Tryz.prog 92 #[.pointer (some ⟨rp,0,none⟩)] w1 fun e w'=>e = .returned (.bool (LD M))∧Only [] w1 w':=by
 have zo:=mW w1 rp mb lp M hR hS (by omega) [80]
 change Calls _ _ #[_,.string ⟨#[80]⟩] w1 _ at zo
 have hload:=fun W (k:Only [] w1 W) (x:Nat) (hx:x<4294967296)=>yg W rp mb lp M (hR.kept k (by simp) (by simp)) hS hM x hx
 have hsmall:∀ c∈aP M [80],c.key.length≤16:=fun c hc=>(Au hsm hc).1
 have hlen:(aP M [80]).length≤1024:=by
  have h3:(aP M [80]).length≤M.length:=by unfold aP;rw [List.length_map];exact List.length_filter_le _ _
  omega
 have hfin:∀ b:Bool,(aP M [80]).all (qH M)=b→LD M=b:=fun b h=>h
 clear hR hS hM hsm
 generalize hres:LD M=res at *
 generalize hU:aP M [80]=U at *
 replace hload:=Lib.hid hload
 replace hsmall:=Lib.hid hsmall
 replace hfin:=Lib.hid hfin
 replace hU:=Lib.hid hU
 replace hres:=Lib.hid hres
 go_enter Tryz.func92,Tryz.ntmps92
 go_wp2_with fail
 refine zo.mono ?_;rintro e w3 ⟨v,rfl,hne⟩
 obtain⟨B,cb,rfl,hcb,hB,k3,_⟩:=hne
 obtain⟨n,hn⟩:∃ n,n=U.length:=⟨_,rfl⟩
 rw [←hn] at hlen hcb ⊢
 have HN:=Lib.hid hn
 clear hn
 go_wp2_with fail
 go_loopw [3,12] (fun v i wr=>∃ (k:Nat) (lt:List UInt8),k≤n∧i = .int .i64 k∧v = .string (strOf lt)∧Hid (∀ c∈U.take k,qH M c=true)∧Hid (lt = []∨∃ c:Ch,lt=c.key.take 5∧5≤c.key.length∧qH M c=true)∧Only [] w3 wr) (fun _ i _=>n-(intOf i).toNat)
 case atStart=>exact⟨0,[],Nat.zero_le _,rfl,rfl,fun c hc=>by simp at hc,.inl rfl,Only.refl [] _⟩
 case round=>
  obtain⟨k,lt,hk,rfl,rfl,hall,hlt0,kr⟩:=hrel
  by_cases hlt:k<n
  ·have hk':k<U.length:=by have:=HN.out;omega
   obtain⟨g,off,rfl,_,hat⟩:=hB.get hk'
   obtain⟨c0,c1,c2⟩:=kT (hat.kept kr (by simp)) hk'
   have hmem:U[k]∈U:=List.getElem_mem hk'
   have h16:=hsmall.out _ hmem
   have hnext:=fun (hf:qH M U[k]=true)=>Hy hk' hall.out hf
   have hbad:=fun (hf:qH M U[k]=false)=>Gf hmem hf
   have hsz:=aj U[k].key
   have hup:=fun (h5:5≤U[k].key.length)=>gZ (P:=Tryz.prog) 9 Tryz.underlying9 U[k].key 5 5 .i64 rfl h5
   have hfr:=fun (h5:5≤U[k].key.length)=>iy (P:=Tryz.prog) 9 Tryz.underlying9 (U[k].key.take 5) 1 1 .i64 rfl (by rw [List.length_take];omega)
   have heq:=beq_toList (U[k].key.take 5) lt
   have hok:qH M U[k]=(decide (5≤U[k].key.length) && mV (aP M (headB (fileOf U[k].key)))):=rfl
   have hnum:=fun W=>qZ W ((U[k].key.take 5).drop 1) (by rw [List.length_drop,List.length_take];omega)
   have Xl:numOf ((U[k].key.take 5).drop 1)=fileOf U[k].key:=rfl
   have Z8:=zQ ((U[k].key.take 5).drop 1)
   have hnew:5≤U[k].key.length→qH M U[k]=true→(U[k].key.take 5 = []∨∃ c:Ch,U[k].key.take 5=c.key.take 5∧5≤c.key.length∧qH M c=true):=fun h1 h2=>.inr ⟨U[k],rfl,h1,h2⟩
   rw [Xl] at hnum Z8
   have k1r:=k3.trans kr
   generalize hch:U[k]=ch at *
   obtain⟨ky,vl,gn⟩:=ch
   simp only at c0 c1 c2 h16 hsz hup hfr heq hnum Z8 hok hnew
   have adD:=hload.out
   generalize fileOf ky=fl at *
   generalize hst:ky.take 5=st at *
   have ab1:5≤ky.length→st.length=5:=fun h5=>by rw [←hst,List.length_take];omega
   generalize strOf (st.drop 1)=d1 at *
   generalize hvs:strOf vl=vs at *
   generalize hks:strOf ky=ks at *
   replace hst:=Lib.hid hst
   replace hch:=Lib.hid hch
   replace hvs:=Lib.hid hvs
   replace hks:=Lib.hid hks
   clear hat hmem h16
   replace Xl:=Lib.hid Xl
   replace ab1:=Lib.hid ab1
   by_cases h5:5≤ky.length
   ·have hup':=hup h5
    have afG:=hfr h5
    have hnl:¬(ks.size:Int)<5:=by omega
    have acf:decide ((ks.size:Int)<5)=false:=by simp;omega
    clear hup hfr
    by_cases hsame:st=lt
    ·-- the same object as the row ahead
     have hb1:(st==lt)=true:=by rw [hsame];simp
     rw [hb1] at heq
     have hokr:qH M ⟨ky,vl,gn⟩=true:=by
      rcases hlt0.out with h0 | ⟨c,e1,e2,e3⟩
      ·exfalso
       have:=ab1.out h5
       rw [hsame,h0] at this
       simp at this
      ·rw [hok,decide_eq_true h5,Bool.true_and]
       have e4:qH M c=(decide (5≤c.key.length) && mV (aP M (headB (fileOf c.key)))):=rfl
       rw [e4,Bool.and_eq_true] at e3
       have e5:fileOf c.key=fl:=by unfold fileOf;rw [←e1,←hsame];exact Xl.out
       rw [←e5]
       exact e3.2
     have hn:=hnext hokr
     replace hn:=Lib.hid hn
     clear hnext hbad hnew hb1
     replace hok:=Lib.hid hok
     replace hokr:=Lib.hid hokr
     replace hsame:=Lib.hid hsame
     replace hsz:=Lib.hid hsz
     replace h5:=Lib.hid h5
     generalize strOf st=ss at *
     generalize hls:strOf lt=ls at *
     have aeB:=Lib.hid (congrArg Value.string hls.symm)
     replace hls:=Lib.hid hls
     go_wp2
     go_roundw
     case rel=>exact⟨k+1,lt,by omega,by go_num,aeB.out,hn,hlt0,kr.alloc _⟩
     case measure=>simp [intOf];omega
    ·have hb1:(st==lt)=false:=by rw [beq_eq_false_iff_ne];exact hsame
     rw [hb1] at heq
     have hlc:=fun W (k:Only [] w1 W)=>hload.out W k fl Z8
     have kx:Only [] w1 (wr.alloc (.cells #[.string ks,.string vs,.bool gn] 133)):=k1r.alloc _
     have ky':Only [] w3 (wr.alloc (.cells #[.string ks,.string vs,.bool gn] 133)):=kr.alloc _
     replace hsame:=Lib.hid hsame
     replace hsz:=Lib.hid hsz
     cases hld:mV (aP M (headB fl)) with
     | true=>
      have hokr:qH M ⟨ky,vl,gn⟩=true:=by rw [hok,decide_eq_true h5,hld];rfl
      have hn:=hnext hokr
      have hnw:=hnew h5 hokr
      rw [hld] at hlc
      replace hn:=Lib.hid hn
      replace hnw:=Lib.hid hnw
      replace hlc:=Lib.hid hlc
      clear hnext hbad hnew hb1
      replace hok:=Lib.hid hok
      replace hokr:=Lib.hid hokr
      replace h5:=Lib.hid h5
      replace hld:=Lib.hid hld
      generalize ab2:strOf st=ss at *
      have aee:=Lib.hid (congrArg Value.string ab2.symm)
      replace ab2:=Lib.hid ab2
      generalize strOf lt=ls at *
      go_wp2_with fail
      refine (hnum _).mono ?_;rintro e w5 ⟨rfl,k5⟩
      go_wp2_with fail
      refine (hlc.out _ (kx.trans k5)).mono ?_;rintro e w6 ⟨v6,rfl,hm6⟩
      have k6:=hm6.only
      have dw:=(ky'.trans k5).trans k6
      replace dw:=Lib.hid dw
      clear hm6 k5 k6 kx ky'
      unfold XE
      go_wp2
      go_roundw
      case rel=>exact⟨k+1,st,by omega,by go_num,aee.out,hn,hnw,dw.out⟩
      case measure=>simp [intOf];omega
     | false=>
      have hokr:qH M ⟨ky,vl,gn⟩=false:=by rw [hok,hld,Bool.and_false]
      have hr:=hfin.out false (hbad hokr)
      rw [hld] at hlc
      replace hlc:=Lib.hid hlc
      clear hnext hbad hnew hb1
      replace hok:=Lib.hid hok
      replace hokr:=Lib.hid hokr
      replace h5:=Lib.hid h5
      replace hld:=Lib.hid hld
      subst hr
      generalize strOf st=ss at *
      generalize strOf lt=ls at *
      go_wp2_with fail
      refine (hnum _).mono ?_;rintro e w5 ⟨rfl,k5⟩
      go_wp2_with fail
      refine (hlc.out _ (kx.trans k5)).mono ?_;rintro e w6 ⟨v6,rfl,hm6⟩
      have k6:=hm6.only
      have dw:=(kx.trans k5).trans k6
      replace dw:=Lib.hid dw
      clear hm6 k5 k6 kx ky'
      unfold XE
      go_wp2
      go_ret
      exact⟨rfl,dw.out⟩
   ·have Kz:(ks.size:Int)<5:=by omega
    have aeA:decide ((ks.size:Int)<5)=true:=by simp;omega
    have hokr:qH M ⟨ky,vl,gn⟩=false:=by rw [hok,decide_eq_false h5,Bool.false_and]
    have hr:=hfin.out false (hbad hokr)
    have dw:Only [] w1 (wr.alloc (.cells #[.string ks,.string vs,.bool gn] 133)):=k1r.alloc _
    subst hr
    replace dw:=Lib.hid dw
    clear hnext hbad hnew hup hfr heq hnum
    replace hok:=Lib.hid hok
    replace hokr:=Lib.hid hokr
    replace hsz:=Lib.hid hsz
    go_wp2
    go_ret
    exact⟨rfl,dw.out⟩
  ·have hkn:U.take k=U:=List.take_of_length_le (by have:=HN.out;omega)
   rw [hkn] at hall
   have hr:=hfin.out true (List.all_eq_true.2 hall.out)
   subst hr
   have k1r:=k3.trans kr
   go_wp2
   go_ret
   exact⟨rfl,k1r⟩
end Go.Proofs.YtmelaiefbpdifaaGreatDoor.Srv
namespace Go.Proofs.YtmelaiefbpdifaaGreatDoor.Srv
open Go.RowKit Go.Maps
open Pgs (Pg pgE jm headB ldL mV XE yg mW)
set_option maxRecDepth 100000 in
set_option maxHeartbeats 4000000 in
theorem Rn(w1:World)(rp mb lp:Nat)(M:List Rw)(hR:gy w1 rp mb lp M)(hS:Sorted M)(hM:M.length≤1024)(hsm:∀ r∈M,1≤r.key.length∧r.key.length≤16∧r.val.length≤200):
  Calls Tryz.prog 45 #[.pointer (some ⟨rp,0,none⟩)] w1 fun e w'=>e = .returned (.bool (gI M))∧Only [] w1 w':=by
 have hget:=get_any w1 rp mb lp M bK (by decide) hR
 change Calls _ _ #[_,.string ⟨#[66]⟩] w1 _ at hget
 have zo:=fun W (k:Only [] w1 W)=>mW W rp mb lp M (hR.kept k (by simp) (by simp)) hS (by omega) [69]
 change ∀ W,Only [] w1 W→Calls _ _ #[_,.string ⟨#[69]⟩] W _ at zo
 have hload:=fun W (k:Only [] w1 W)=>Jj W rp mb lp M (hR.kept k (by simp) (by simp)) hS hM hsm
 have hlen:(aP M [69]).length≤1024:=by
  have h3:(aP M [69]).length≤M.length:=by unfold aP;rw [List.length_map];exact List.length_filter_le _ _
  omega
 have hsz:=aj (kF M bK)
 have hsmall:∀ c∈aP M [69],c.key.length≤16∧c.val.length≤200:=fun c hc=>Au hsm hc
 have hdef:gI M=((!((aK M bK).isSome && decide ((kF M bK).length≠4))) && ((aP M [69]).all Kv && LD M)):=rfl
 clear hR hS hM hsm
 generalize hres:gI M=res at *
 generalize (aK M bK).isSome=b at *
 generalize hvl:(kF M bK)=vl at *
 generalize strOf vl=vs at *
 generalize hU:aP M [69]=U at *
 generalize LD M=lb at *
 replace hsmall:=Lib.hid hsmall
 replace hres:=Lib.hid hres
 replace hvl:=Lib.hid hvl
 replace hU:=Lib.hid hU
 replace hload:=Lib.hid hload
 replace zo:=Lib.hid zo
 by_cases hb4:b=true∧vl.length≠4
 ·obtain⟨rfl,h4⟩:=hb4
  have hr:res=false:=by rw [hdef,decide_eq_true h4];rfl
  subst hr
  have d1:((vs.size:Int) != 4)=true:=by rw [bne_iff_ne];omega
  replace hdef:=Lib.hid hdef
  replace hsz:=Lib.hid hsz
  go_enter Tryz.func45,Tryz.ntmps45
  go_wp2_with fail
  refine hget.mono ?_;rintro e w2 ⟨rfl,k2⟩
  go_wp2
  go_ret
  exact⟨rfl,k2⟩
 have aaX:res=(U.all Kv && lb):=by
  rw [hdef]
  cases b with
  | false=>rfl
  | true=>
   have:vl.length=4:=Decidable.byContradiction fun h=>hb4 ⟨rfl,h⟩
   rw [this];rfl
 have hcase:(b=false)∨(b=true∧((vs.size:Int) != 4)=false):=by
  cases b with
  | false=>exact .inl rfl
  | true=>
   refine .inr ⟨rfl,?_⟩
   have:vl.length=4:=Decidable.byContradiction fun h=>hb4 ⟨rfl,h⟩
   rw [bne_eq_false_iff_eq];omega
 replace hdef:=Lib.hid aaX
 clear hb4 aaX
 replace hsz:=Lib.hid hsz
 rcases hcase with rfl | ⟨rfl,d1⟩
 ·go_enter Tryz.func45,Tryz.ntmps45
  go_wp2_with fail
  refine hget.mono ?_;rintro e w2 ⟨rfl,k2⟩
  clear hget
  go_wp2_with fail
  refine (zo.out _ k2).mono ?_;rintro e w3 ⟨v,rfl,hne⟩
  obtain⟨B,cb,rfl,hcb,hB,k3,_⟩:=hne
  obtain⟨n,hn⟩:∃ n,n=U.length:=⟨_,rfl⟩
  rw [←hn] at hlen hcb ⊢
  have HN:=Lib.hid hn
  have k13:=k2.trans k3
  clear hn k2 k3
  go_wp2_with fail
  go_loopw [21] (fun i wr=>∃ (k:Nat),k≤n∧i = .int .i64 k∧Hid (∀ c∈U.take k,Kv c=true)∧Only [] w3 wr) (fun i _=>n-(intOf i).toNat)
  case atStart=>exact⟨0,Nat.zero_le _,rfl,fun c hc=>by simp at hc,Only.refl [] _⟩
  case round=>
   obtain⟨k,hk,rfl,hall,kr⟩:=hrel
   by_cases hlt:k<n
   ·have hk':k<U.length:=by have:=HN.out;omega
    obtain⟨g,off,rfl,_,hat⟩:=hB.get hk'
    obtain⟨c0,c1,c2⟩:=kT (hat.kept kr (by simp)) hk'
    have hmem:U[k]∈U:=List.getElem_mem hk'
    have WV:=hsmall.out _ hmem
    have hnext:=fun (hf:Kv U[k]=true)=>Hy hk' hall.out hf
    have hbad:=fun (hf:Kv U[k]=false)=>Gf hmem hf
    have s0:=aj U[k].key
    have s1:=aj U[k].val
    have hok:Kv U[k]=(decide (U[k].key.length=5) && decide (U[k].val.length=4)):=rfl
    generalize hch:U[k]=ch at *
    obtain⟨ky,vy,gn⟩:=ch
    simp only at c0 c1 c2 s0 s1 hok WV
    generalize strOf vy=vys at *
    generalize strOf ky=ks at *
    replace hch:=Lib.hid hch
    have kx:Only [] w1 (wr.alloc (.cells #[.string ks,.string vys,.bool gn] 133)):=(k13.trans kr).alloc _
    have kx3:Only [] w3 (wr.alloc (.cells #[.string ks,.string vys,.bool gn] 133)):=kr.alloc _
    by_cases h5:ky.length=5
    ·have e1:((ks.size:Int) != 5)=false:=by rw [bne_eq_false_iff_eq];omega
     by_cases h4:vy.length=4
     ·have e2:((vys.size:Int) != 4)=false:=by rw [bne_eq_false_iff_eq];omega
      have hn:=hnext (by rw [hok,decide_eq_true h5,decide_eq_true h4];rfl)
      replace hn:=Lib.hid hn
      clear hnext hbad
      replace hok:=Lib.hid hok
      replace s0:=Lib.hid s0
      replace s1:=Lib.hid s1
      replace h5:=Lib.hid h5
      replace h4:=Lib.hid h4
      clear hat WV hmem kx
      go_wp2
      go_roundw
      case rel=>exact⟨k+1,by omega,by go_num,hn,kx3⟩
      case measure=>simp [intOf];omega
     ·have e2:((vys.size:Int) != 4)=true:=by rw [bne_iff_ne];omega
      have hr:res=false:=by rw [hdef.out,hbad (by rw [hok,decide_eq_false h4,Bool.and_false])];rfl
      subst hr
      clear hnext hbad
      replace hok:=Lib.hid hok
      replace s0:=Lib.hid s0
      replace s1:=Lib.hid s1
      replace h5:=Lib.hid h5
      replace kx:=Lib.hid kx
      clear hat WV hmem kx3
      go_wp2
      go_ret
      exact⟨rfl,kx.out⟩
    ·have e1:((ks.size:Int) != 5)=true:=by rw [bne_iff_ne];omega
     have hr:res=false:=by rw [hdef.out,hbad (by rw [hok,decide_eq_false h5,Bool.false_and])];rfl
     subst hr
     clear hnext hbad
     replace hok:=Lib.hid hok
     replace s0:=Lib.hid s0
     replace s1:=Lib.hid s1
     replace kx:=Lib.hid kx
     clear hat WV hmem kx3
     go_wp2
     go_ret
     exact⟨rfl,kx.out⟩
   ·have hkn:U.take k=U:=List.take_of_length_le (by have:=HN.out;omega)
    rw [hkn] at hall
    have hr:res=lb:=by rw [hdef.out,List.all_eq_true.2 hall.out];rfl
    subst hr
    have k1r:=k13.trans kr
    go_wp2_with fail
    refine (hload.out _ k1r).mono ?_;rintro e w5 ⟨rfl,k5⟩
    have dw:=k1r.trans k5
    go_wp2
    go_ret
    exact⟨rfl,dw⟩
 ·go_enter Tryz.func45,Tryz.ntmps45
  go_wp2_with fail
  refine hget.mono ?_;rintro e w2 ⟨rfl,k2⟩
  clear hget
  go_wp2_with fail
  refine (zo.out _ k2).mono ?_;rintro e w3 ⟨v,rfl,hne⟩
  obtain⟨B,cb,rfl,hcb,hB,k3,_⟩:=hne
  obtain⟨n,hn⟩:∃ n,n=U.length:=⟨_,rfl⟩
  rw [←hn] at hlen hcb ⊢
  have HN:=Lib.hid hn
  have k13:=k2.trans k3
  clear hn k2 k3
  go_wp2_with fail
  go_loopw [21] (fun i wr=>∃ (k:Nat),k≤n∧i = .int .i64 k∧Hid (∀ c∈U.take k,Kv c=true)∧Only [] w3 wr) (fun i _=>n-(intOf i).toNat)
  case atStart=>exact⟨0,Nat.zero_le _,rfl,fun c hc=>by simp at hc,Only.refl [] _⟩
  case round=>
   obtain⟨k,hk,rfl,hall,kr⟩:=hrel
   by_cases hlt:k<n
   ·have hk':k<U.length:=by have:=HN.out;omega
    obtain⟨g,off,rfl,_,hat⟩:=hB.get hk'
    obtain⟨c0,c1,c2⟩:=kT (hat.kept kr (by simp)) hk'
    have hmem:U[k]∈U:=List.getElem_mem hk'
    have WV:=hsmall.out _ hmem
    have hnext:=fun (hf:Kv U[k]=true)=>Hy hk' hall.out hf
    have hbad:=fun (hf:Kv U[k]=false)=>Gf hmem hf
    have s0:=aj U[k].key
    have s1:=aj U[k].val
    have hok:Kv U[k]=(decide (U[k].key.length=5) && decide (U[k].val.length=4)):=rfl
    generalize hch:U[k]=ch at *
    obtain⟨ky,vy,gn⟩:=ch
    simp only at c0 c1 c2 s0 s1 hok WV
    generalize strOf vy=vys at *
    generalize strOf ky=ks at *
    replace hch:=Lib.hid hch
    have kx:Only [] w1 (wr.alloc (.cells #[.string ks,.string vys,.bool gn] 133)):=(k13.trans kr).alloc _
    have kx3:Only [] w3 (wr.alloc (.cells #[.string ks,.string vys,.bool gn] 133)):=kr.alloc _
    by_cases h5:ky.length=5
    ·have e1:((ks.size:Int) != 5)=false:=by rw [bne_eq_false_iff_eq];omega
     by_cases h4:vy.length=4
     ·have e2:((vys.size:Int) != 4)=false:=by rw [bne_eq_false_iff_eq];omega
      have hn:=hnext (by rw [hok,decide_eq_true h5,decide_eq_true h4];rfl)
      replace hn:=Lib.hid hn
      clear hnext hbad
      replace hok:=Lib.hid hok
      replace s0:=Lib.hid s0
      replace s1:=Lib.hid s1
      replace h5:=Lib.hid h5
      replace h4:=Lib.hid h4
      clear hat WV hmem kx
      go_wp2
      go_roundw
      case rel=>exact⟨k+1,by omega,by go_num,hn,kx3⟩
      case measure=>simp [intOf];omega
     ·have e2:((vys.size:Int) != 4)=true:=by rw [bne_iff_ne];omega
      have hr:res=false:=by rw [hdef.out,hbad (by rw [hok,decide_eq_false h4,Bool.and_false])];rfl
      subst hr
      clear hnext hbad
      replace hok:=Lib.hid hok
      replace s0:=Lib.hid s0
      replace s1:=Lib.hid s1
      replace h5:=Lib.hid h5
      replace kx:=Lib.hid kx
      clear hat WV hmem kx3
      go_wp2
      go_ret
      exact⟨rfl,kx.out⟩
    ·have e1:((ks.size:Int) != 5)=true:=by rw [bne_iff_ne];omega
     have hr:res=false:=by rw [hdef.out,hbad (by rw [hok,decide_eq_false h5,Bool.false_and])];rfl
     subst hr
     clear hnext hbad
     replace hok:=Lib.hid hok
     replace s0:=Lib.hid s0
     replace s1:=Lib.hid s1
     replace kx:=Lib.hid kx
     clear hat WV hmem kx3
     go_wp2
     go_ret
     exact⟨rfl,kx.out⟩
   ·have hkn:U.take k=U:=List.take_of_length_le (by have:=HN.out;omega)
    rw [hkn] at hall
    have hr:res=lb:=by rw [hdef.out,List.all_eq_true.2 hall.out];rfl
    subst hr
    have k1r:=k13.trans kr
    go_wp2_with fail
    refine (hload.out _ k1r).mono ?_;rintro e w5 ⟨rfl,k5⟩
    have dw:=k1r.trans k5
    go_wp2
    go_ret
    exact⟨rfl,dw⟩
end Go.Proofs.YtmelaiefbpdifaaGreatDoor.Srv
namespace Go.Proofs.YtmelaiefbpdifaaGreatDoor.Srv
open Go.RowKit Go.Maps
open Pgs (Pg)
def uo:Sat:=⟨0,0,⟨#[]⟩⟩
def DT(N:Nat)(me b:Int)(M:List Rw):Sv:=⟨N,me,b,true,M,[],fun _=>uo⟩
def ac2:List Value:=.int .i64 0 :: .int .u32 0 :: .bool false :: .pointer none :: .map none :: DW (fun _=>uo)
theorem Vo:(Tryz.prog.info? 116).map (fun i=>(i.zero,i.size))=some (some (.agg ac2.toArray),773):=by kernel_rfl
def Kr(N:Nat)(s:St)(me x:Int):Prop:=
 (¬(1≤me∧me≤255)∧x=1)∨((1≤me∧me≤255)∧(Fp s x∨∃ M,aY s=0∧eY (dP (aJ s))=some M ∧
  ((gI M=false∧x=25)∨(gI M=true∧x≠0∧∃ b M' s' n' f',C9 N M (aJ s) (fF s) b x M' s' n' f'))))
def abh(w w1 w':World)(F:List Nat)(dp N:Nat)(s:St)(me:Int)(e:Ending):Prop:=
 (∃ x,Kr N s me x∧e = .returned (.tuple #[.pointer none,.int .i64 x])∧Only [] w w') ∨
 (∃ sb R b M M' s' n' f',(1≤me∧me≤255)∧aY s=0∧eY (dP (aJ s))=some M∧gI M=true∧C9 N M (aJ s) (fF s) b 0 M' s' n' f' ∧
  e = .returned (.tuple #[.pointer (some ⟨sb,0,none⟩),.int .i64 0])∧vO w w' R sb dp (DT N me b M') s' n' f' 0∧Only F w1 w'∧∀ j∈R,j∈F∨w1.heap.size≤j)
theorem Nk{N:Nat}{M M':List Rw}{s s':St}{n n':Nat}{b x:Int}{f':Bool}(h:C9 N M s n b x M' s' n' f'):U b:=by
 rcases h with⟨_,rfl,_⟩ | ⟨h1,_,rfl⟩
 ·unfold U;decide
 ·unfold U
  split<;>omega
theorem U4{N:Nat}{M M':List Rw}{s s':St}{n n':Nat}{b x:Int}{f':Bool}(h:C9 N M s n b x M' s' n' f'):s'.aA.length=s.aA.length:=by
 rcases h with⟨_,_,_,_,rfl,_⟩ | ⟨_,h2,_⟩
 ·rfl
 ·exact zA h2
theorem yG{N:Nat}{M M':List Rw}{s s':St}{n n':Nat}{b x:Int}{f':Bool}(hM:Good N M)(h:C9 N M s n b x M' s' n' f'):Good N M':=by
 rcases h with⟨_,_,_,rfl,_⟩ | ⟨_,h2,_⟩
 ·exact hM
 ·exact xk hM h2
def Vd(w w1 w':World)(F:List Nat)(dp N:Nat)(s:St)(me:Int)(e:Ending):Prop:=
 (∃ x,Kr N s me x∧e = .returned (.tuple #[.pointer none,.int .i64 x])∧Only F w1 w') ∨
 (∃ sb R b M M' s' n' f',(1≤me∧me≤255)∧aY s=0∧eY (dP (aJ s))=some M∧gI M=true∧C9 N M (aJ s) (fF s) b 0 M' s' n' f' ∧
  e = .returned (.tuple #[.pointer (some ⟨sb,0,none⟩),.int .i64 0])∧vO w w' R sb dp (DT N me b M') s' n' f' 0∧Only F w1 w'∧∀ j∈R,j∈F∨w1.heap.size≤j)
section
variable {w w1:World}{F:List Nat}{dp N:Nat}{s:St}
set_option maxRecDepth 100000 in
set_option maxHeartbeats 8000000 in
theorem xH.X9(h:xH w w1 F dp s)(me:Int)(hme:I me)(bY:s.late.length+40≤1048576)(hlen:(aJ s).aA.length=41+N)(rG:(aJ s).late.length+200≤1048576)(hn:fF s<4294967296)
  (hgood:∀ M,eY (dP (aJ s))=some M→Good N M):
  Calls Tryz.prog 15 #[.pointer (some ⟨dp,0,none⟩),.int .i64 me] w1 fun e w'=>Vd w w1 w' F dp N s me e:=by
 have hop:=h.Yf bY
 have aF:=h.only
 have hFw:∀ i∈F,w.heap.size≤i:=fun i hi=>(h.new i hi).1
 have hF1:∀ i∈F,i<w1.heap.size:=fun i hi=>(h.new i hi).2
 clear h
 have hno:∀ W x,Only F w1 W→Kr N s me x→Vd w w1 W F dp N s me (.returned (.tuple #[.pointer none,.int .i64 x])):=fun W x k hr=>.inl ⟨x,hr,rfl,k⟩
 replace hno:=Lib.hid hno
 replace hFw:=Lib.hid hFw
 replace hF1:=Lib.hid hF1
 replace hgood:=Lib.hid hgood
 obtain⟨i1,i2⟩:=hme
 by_cases hlo:me<1
 ·have hfin:=hno.out w1 1 (Only.refl F w1) (.inl ⟨by omega,rfl⟩)
  replace hfin:=Lib.hid hfin
  have d1:decide (me<1)=true:=by simpa using hlo
  clear hop
  go_enter Tryz.func15,Tryz.ntmps15
  go_wp2
  go_ret2
  exact hfin.out
 have d1:decide (me<1)=false:=by simpa using hlo
 by_cases hhi:255<me
 ·have hfin:=hno.out w1 1 (Only.refl F w1) (.inl ⟨by omega,rfl⟩)
  replace hfin:=Lib.hid hfin
  have d2:decide (255<me)=true:=by simpa using hhi
  clear hop hlo
  go_enter Tryz.func15,Tryz.ntmps15
  go_wp2
  go_ret2
  exact hfin.out
 have d2:decide (255<me)=false:=by simpa using hhi
 have hin:1≤me∧me≤255:=⟨by omega,by omega⟩
 replace hin:=Lib.hid hin
 clear hlo hhi
 go_enter Tryz.func15,Tryz.ntmps15
 go_wp2_with fail
 refine hop.mono ?_
 rintro e w2 ⟨F2,k2,hF2,hcase⟩
 have kw2:Only [] w w2:=aF.then k2 (fun i hi=>.inr (hFw.out i hi))
 rcases hcase with⟨x,hf,rfl,_⟩ | ⟨rp,mb,lp,M,ho0,hp,rfl,h5,q1,q2,q3⟩
 ·have hfin:=hno.out w2 x k2 (.inr ⟨hin.out,.inl hf⟩)
  replace hfin:=Lib.hid hfin
  have hx0:x≠0:=by
   rcases hf with⟨h1,rfl⟩ | ⟨_,_,rfl⟩
   ·exact h1
   ·decide
  have hx2:(x==0)=false:=by rw [beq_eq_false_iff_ne];exact hx0
  have hx3:(x != 0)=true:=by rw [bne_iff_ne];exact hx0
  clear hf kw2 k2
  go_wp2
  go_ret2
  exact hfin.out
 ·have hG:=hgood.out M hp
  have hMl:=hG.length
  have hfew:=h5.own.dev.fine.few
  have ZW:=Rn w2 rp mb lp M h5.rows hG.sorted (by omega) hG.small
  cases hs:gI M with
  | false=>
   rw [hs] at ZW
   go_wp2_with fail
   refine ZW.mono ?_;rintro e w3 ⟨rfl,k3⟩
   have hfin:=hno.out w3 25 (k2.then k3 (by simp)) (.inr ⟨hin.out,.inr ⟨M,ho0,hp,.inl ⟨hs,rfl⟩⟩⟩)
   replace hfin:=Lib.hid hfin
   clear hs hp h5 k2 k3 ZW
   go_wp2
   go_ret2
   exact hfin.out
  | true=>
   rw [hs] at ZW
   have hbg:=fun W (k:Only [] w2 W)=>U5 (h5.keep k) hlen hG hn rG
   replace hbg:=Lib.hid hbg
   replace hs:=Lib.hid hs
   replace hp:=Lib.hid hp
   replace ho0:=Lib.hid ho0
   replace hlen:=Lib.hid hlen
   replace hG:=Lib.hid hG
   go_wp2_with fail
   refine ZW.mono ?_;rintro e w3 ⟨rfl,k3⟩
   have afH:=h5.rows.hdr.lt
   clear ZW
   go_wp2_with fail
   refine (hbg.out _ k3).mono ?_
   rintro e w4 ⟨b,x,M',s',n',f',F',rfl,hb,h54,k4,hF4⟩
   have hbr:=Nk hb
   have kw4:Only [] w w4:=h54.own.only
   have k14:Only (F++(mb :: lp :: F2)) w1 w4:=((k2.more (T:=F++(mb :: lp :: F2)) (fun i hi=>.inl (List.mem_append.2 (.inl hi)))).then k3 (by simp)).then k4 (fun i hi=>.inl (List.mem_append.2 (.inr hi)))
   by_cases hx:x=0
   ·subst hx
    have Uk:∀ i∈mb :: lp :: F2,i∈F∨w1.heap.size≤i:=fun i hi=>by
     simp only [List.mem_cons] at hi
     rcases hi with rfl | rfl | hi
     ·exact .inr q2
     ·exact .inr q3
     ·exact hF2 i hi
    have abn:Only F w1 w4:=k14.more (fun i hi=>by
     rcases List.mem_append.1 hi with hi | hi
     ·exact .inl hi
     ·exact Uk i hi)
    have adZ:∀ j∈F',j∈F∨w1.heap.size≤j:=fun j hj=>by
     rcases hF4 j hj with h' | h'
     ·exact Uk j (by simp [h'])
     ·have h1:=k2.size
      have h2:=k3.size
      exact .inr (by omega)
    have hz0:=(zero_of_info Vo).1
    unfold ac2 at hz0
    obtain⟨rest,hrest⟩:∃ rest,rest=DW (fun _=>uo):=⟨_,rfl⟩
    rw [←hrest] at hz0
    have hcs:jK (DT N me b M') rp w4.heap.size = .int .i64 me :: .int .u32 b :: .bool true :: .pointer (some ⟨rp,0,none⟩) :: .map (some w4.heap.size) :: rest:=by
     rw [hrest];rfl
    replace hrest:=Lib.hid hrest
    have km:Only [] w4 (w4.alloc (.map #[] 0)):=(Only.refl [] w4).alloc _
    have hl5:=fD.new w4 (fun _=>.slice none 0 0)
    have kb:Only [] w4 ((w4.alloc (.map #[] 0)).alloc (.cells (jK (DT N me b M') rp w4.heap.size).toArray 116)):=km.alloc _
    have hb6:Blk ((w4.alloc (.map #[] 0)).alloc (.cells (jK (DT N me b M') rp w4.heap.size).toArray 116)) (w4.heap.size+1) 116 (jK (DT N me b M') rp w4.heap.size).toArray:=by
     have:=Blk.new (w4.alloc (.map #[] 0)) 116 (jK (DT N me b M') rp w4.heap.size).toArray
     rwa [show (w4.alloc (.map #[] 0)).heap.size=w4.heap.size+1 by simp] at this
    have hl6:=hl5.kept ((Only.refl [] (w4.alloc (.map #[] 0))).alloc (.cells (jK (DT N me b M') rp w4.heap.size).toArray 116)) (by simp)
    have h56:=h54.keep kb
    have aff:rp<w4.heap.size:=h54.rows.hdr.lt
    have afo:mb<w4.heap.size:=h54.rows.map.lt
    have afr:lp<w4.heap.size:=h54.own.lt
    have hnF:∀ i∈F',w.heap.size≤i∧i<w4.heap.size:=h54.own.new
    have adb:((w4.alloc (.map #[] 0)).alloc (.cells (jK (DT N me b M') rp w4.heap.size).toArray 116)).heap.size=w4.heap.size+2:=by simp
    have hNd:N≤983:=by
     have:=hlen.out
     omega
    have hfin:vO w ((w4.alloc (.map #[] 0)).alloc (.cells (jK (DT N me b M') rp w4.heap.size).toArray 116)) ((w4.heap.size+1) :: w4.heap.size :: rp :: mb :: lp :: F') (w4.heap.size+1) dp (DT N me b M') s' n' f' 0:=by
     refine⟨rp,mb,lp,w4.heap.size,F',_,_,h56,hb6,hl6,fun x o hx=>(by cases hx),by omega,?_,?_,fun i hi=>hi,fun i hi=> ?_,?_,?_,by omega⟩
     ·simp only [List.mem_cons,not_or]
      exact⟨by omega,by omega,by omega,fun hm=>by have:=(hnF _ hm).2;omega⟩
     ·simp only [List.mem_cons,not_or]
      exact⟨by omega,by omega,by omega,fun hm=>by have:=(hnF _ hm).2;omega⟩
     ·rw [adb]
      have hw4:=kw4.size
      simp only [List.mem_cons] at hi
      rcases hi with rfl | rfl | rfl | rfl | rfl | hi
      ·exact⟨by omega,by omega⟩
      ·exact⟨by omega,by omega⟩
      ·exact⟨h54.Vh,by omega⟩
      ·exact⟨h54.SI,by omega⟩
      ·exact⟨h54.own.old,by omega⟩
      ·have:=hnF i hi;exact⟨this.1,by omega⟩
     ·show s'.aA.length=41+N
      rw [U4 hb]
      exact hlen.out
     ·refine⟨yG hG.out hb,hNd,Vq,fun q hq=>(by cases hq),Nat.le_refl _,fun k=> ?_,hin.out,hbr⟩
      exact⟨⟨(by show U 0;unfold U;decide),(by show U 0;unfold U;decide)⟩,(by show (0:Nat)≤400;decide)⟩
    have hend:Vd w w1 ((w4.alloc (.map #[] 0)).alloc (.cells (jK (DT N me b M') rp w4.heap.size).toArray 116)) F dp N s me (.returned (.tuple #[.pointer (some ⟨w4.heap.size+1,0,none⟩),.int .i64 0])):=by
     refine .inr ⟨w4.heap.size+1,_,b,M,M',s',n',f',hin.out,ho0.out,hp.out,hs.out,hb,rfl,hfin,abn.then kb (by simp),fun j hj=> ?_⟩
     have h14:=k14.size
     simp only [List.mem_cons] at hj
     rcases hj with rfl | rfl | rfl | rfl | rfl | hj
     ·exact .inr (by omega)
     ·exact .inr (by omega)
     ·exact .inr q1
     ·exact .inr q2
     ·exact .inr q3
     ·exact adZ j hj
    rw [hcs] at hend
    replace hend:=Lib.hid hend
    clear hfin hb6 hl6 h56 km hl5 kb hcs h54 k4 k3 k2 h5 hb hF4 adZ k14 abn Uk hnF adb hop hbg
    have hmm:=@run_makeMap Tryz.prog 111
    go_wp2
    go_ret2
    exact hend.out
   ·have Uk:∀ i∈mb :: lp :: F2,i∈F∨w1.heap.size≤i:=fun i hi=>by
     simp only [List.mem_cons] at hi
     rcases hi with rfl | rfl | hi
     ·exact .inr q2
     ·exact .inr q3
     ·exact hF2 i hi
    have abn:Only F w1 w4:=k14.more (fun i hi=>by
     rcases List.mem_append.1 hi with hi | hi
     ·exact .inl hi
     ·exact Uk i hi)
    have hfin:=hno.out w4 x abn (.inr ⟨hin.out,.inr ⟨M,ho0.out,hp.out,.inr ⟨hs.out,hx,b,M',s',n',f',hb⟩⟩⟩)
    replace hfin:=Lib.hid hfin
    have hx2:(x==0)=false:=by rw [beq_eq_false_iff_ne];exact hx
    have hx3:(x != 0)=true:=by rw [bne_iff_ne];exact hx
    clear hb h54 h5 k4 k3 k2 hF4 hbg hop k14
    go_wp2
    go_ret2
    exact hfin.out
theorem xH.aaj(h:xH w w1 F dp s)(me:Int)(hme:I me)(bY:s.late.length+40≤1048576)(hlen:(aJ s).aA.length=41+N)(rG:(aJ s).late.length+200≤1048576)(hn:fF s<4294967296)
  (hgood:∀ M,eY (dP (aJ s))=some M→Good N M):
  Calls Tryz.prog 15 #[.pointer (some ⟨dp,0,none⟩),.int .i64 me] w1 fun e w'=>abh w w1 w' F dp N s me e:=(xH.X9 h me hme bY hlen rG hn hgood).mono fun e w' hS=>by
 rcases hS with⟨x,a,b,k⟩ | hS
 ·exact .inl ⟨x,a,b,h.only.then k (fun i hi=>.inr (h.new i hi).1)⟩
 ·exact .inr hS
end
end Go.Proofs.YtmelaiefbpdifaaGreatDoor.Srv
