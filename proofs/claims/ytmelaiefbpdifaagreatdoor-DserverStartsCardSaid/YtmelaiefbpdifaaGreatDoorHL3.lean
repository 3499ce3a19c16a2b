/- Joined: Sd13, Se13, Sf13 -/
import Derived.Test.YtmelaiefbpdifaaGreatDoorHL2
import Derived.Test.YtmelaiefbpdifaaGreatDoorHL0
namespace Go.Proofs.YtmelaiefbpdifaaGreatDoor.Srv
open Go.RowKit Go.Maps
theorem UJ{s:St}(hf:Fine s):∀ d∈dP s,d.length=248:=by
 intro d hd
 unfold dP at hd
 obtain⟨j,hj,rfl⟩:=List.mem_map.1 hd
 have:=hf.blk (k:=41+j) (by have:=List.mem_range.1 hj;omega)
 rw [List.length_drop,this]
theorem ZH{α:Type}{enc:α→List Value}{k g:Nat}{w:World}{ty:TypeId}{x:α}(h:Blk w g ty (enc x).toArray):Els enc k w (some ⟨g,0,none⟩) [x]:=.inr ⟨g,0,rfl,h.lt,fun i hi j v hv=>by
 obtain rfl:i=0:=by simpa using hi
 have:=h.cell j
 simp only [Nat.zero_mul,Nat.zero_add]
 rw [this]
 simpa using hv⟩
def Fj(N:Nat)(M:List Rw)(s:St)(n:Nat)(b x:Int)(M':List Rw)(s':St)(n':Nat)(f':Bool):Prop:=
 (eu M=4294967295∧b=0∧x=16∧M'=M∧s'=s∧n'=n∧f'=false) ∨
 (eu M<4294967295∧QC N M s n (uz (eu M+1)) x M' s' n' f'∧b=(eu M:Int)+1)
def Hz(N:Nat)(s:St)(me x:Int):Prop:=
 (¬(1≤me∧me≤255)∧x=1)∨((1≤me∧me≤255)∧(Fp s x∨∃ M,aY s=0∧eY (dP (aJ s))=some M ∧
  ((gI M=false∧x=25)∨(gI M=true∧x≠0∧∃ b M' s' n' f',Fj N M (aJ s) (fF s) b x M' s' n' f'))))
def CX(w w':World)(G:List Nat)(p N:Nat)(s:St)(me:Int)(e:Ending):Prop:=
 (∃ x,Hz N s me x∧e = .returned (.tuple #[.pointer none,.int .i64 x])∧Only G w w') ∨
 (∃ sb lp G' b M M' s' n' f',(1≤me∧me≤255)∧aY s=0∧eY (dP (aJ s))=some M∧gI M=true∧Fj N M (aJ s) (fF s) b 0 M' s' n' f' ∧
  e = .returned (.tuple #[.pointer (some ⟨sb,0,none⟩),.int .i64 0])∧RSv w' G' sb lp p me b s' n' f' M'∧Only G w w'∧w.heap.size≤sb∧∀ j∈G',j∈G∨w.heap.size≤j)
set_option maxRecDepth 100000 in
set_option maxHeartbeats 8000000 in
theorem O8(w:World)(p N:Nat)(G:List Nat)(s:St)(me:Int)(hd:Ref w p G s)(hme:I me)(bY:s.late.length+100≤1048576)(hlen:(aJ s).aA.length=41+N)(hN1:1≤N)(hN2:N≤1024)(rG:(aJ s).late.length+200≤1048576)(hn:fF s<4294967296)
  (hgood:∀ M,eY (dP (aJ s))=some M→Good N M∧∀ now out,tZ N M (uz (eu M+1))=some (now,out)→(∀ x∈out,x.okay)∧out.length≤40):
  Calls Tryz.prog 16 #[.pointer (some ⟨p,0,none⟩),.int .i64 me] w fun e w'=>CX w w' G p N s me e:=by
 have hop:=RN w p G s bY hd
 have hno:∀ W x,Only G w W→Hz N s me x→CX w W G p N s me (.returned (.tuple #[.pointer none,.int .i64 x])):=fun W x k hr=>.inl ⟨x,hr,rfl,k⟩
 replace hno:=Lib.hid hno
 replace hgood:=Lib.hid hgood
 obtain⟨i1,i2⟩:=hme
 go_enter Tryz.func16,Tryz.ntmps16
 by_cases hlo:me<1
 ·have d1:decide (me<1)=true:=by simpa using hlo
  clear hd hop
  go_wp2_with fail
  go_ret2
  exact hno.out _ _ (Only.refl _ _) (.inl ⟨by omega,rfl⟩)
 by_cases hhi:255<me
 ·have d2:decide (255<me)=true:=by simpa using hhi
  clear hd hop
  go_wp2_with fail
  go_ret2
  exact hno.out _ _ (Only.refl _ _) (.inl ⟨by omega,rfl⟩)
 have hr:1≤me∧me≤255:=by omega
 go_wp2_with fail
 refine hop.mono ?_
 rintro e w3 ⟨G3,hr3,k3,hG3,ho3⟩
 clear hop
 rcases ho3 with⟨g0,rfl⟩ | ⟨g0,lp,rfl,hrl,hxp,hxG⟩
 ·have hq:∀ W,Only [] w3 W→CX w W G p N s me (.returned (.tuple #[.pointer none,.int .i64 (aY s)])):=fun W k=>hno.out W _ (k3.then k (by simp)) (.inr ⟨hr,.inl (.inl ⟨g0,rfl⟩)⟩)
  replace hq:=Lib.hid hq
  generalize aY s=oe at *
  have g1:(oe != 0)=true:=by rw [bne_iff_ne];exact g0
  replace g0:=Lib.hid g0
  clear hd
  go_wp2_with fail
  go_ret2
  exact hq.out _ (Only.refl [] _)
 ·have hal:=En g0
  have hds:=Pm w3 lp p (fF s) G3 (aJ s) hrl hr3 hal.1 (by omega) (by omega)
  have hdl:(dP (aJ s)).length≤1024:=by rw [nN];omega
  have hd8:=UJ hr3.fine
  replace hds:=Lib.hid hds
  have abI:=hG3.out
  clear hal hG3
  go_wp2_with fail
  refine hds.out.mono ?_
  rintro e w7 ⟨v7,rfl,A7,c7,rfl,hstr,k7,_⟩
  have hrs:=RF w7 A7 c7 _ hstr hdl hd8
  replace hrs:=Lib.hid hrs
  clear hds hdl hd8 hstr
  obtain⟨nd,hnd⟩:∃ nd,nd=(dP (aJ s)).length:=⟨_,rfl⟩
  rw [←hnd] at hrs
  rw [←hnd]
  replace hnd:=Lib.hid hnd
  go_wp2_with fail
  refine hrs.out.mono ?_
  intro e w8 hrw
  have k37:Only G w w7:=k3.then k7 (by simp)
  cases hpar:eY (dP (aJ s)) with
  | none=>
   rw [hpar] at hrw
   obtain⟨rfl,k8⟩:=hrw
   have hq:=hno.out w8 25 (k37.then k8 (by simp)) (.inr ⟨hr,.inl (.inr ⟨g0,hpar,rfl⟩)⟩)
   replace hq:=Lib.hid hq
   clear hrs hrl hr3 hd
   go_wp2_with fail
   go_ret2
   exact hq.out
  | some M=>
   rw [hpar] at hrw
   obtain⟨v8,rfl,hmi⟩:=hrw
   obtain⟨A8,c8,rfl,hc8,hE8,k8,hA8⟩:=hmi.els bH
   obtain⟨hG,hok⟩:=hgood.out M hpar
   have hso:=O9 w8 A8 c8 M hE8 hG.sorted (by have:=hG.length;omega) hG.small
   have k38:Only [] w3 w8:=k7.trans k8
   obtain⟨m,hm⟩:∃ m,m=M.length:=⟨_,rfl⟩
   rw [←hm] at hso
   rw [←hm]
   replace hm:=Lib.hid hm
   replace hok:=Lib.hid hok
   replace hpar:=Lib.hid hpar
   clear hmi hrs hgood hd
   cases hsb:gI M with
   | false=>
    rw [hsb] at hso
    simp only [Bool.false_eq_true,if_false] at hso
    have hq:=fun W k=>hno.out W 25 k (.inr ⟨hr,.inr ⟨M,g0,hpar.out,.inl ⟨hsb,rfl⟩⟩⟩)
    replace hq:=Lib.hid hq
    replace hso:=Lib.hid hso
    replace hsb:=Lib.hid hsb
    go_wp2_with fail
    refine hso.out.mono ?_;rintro e w9 ⟨rfl,k9⟩
    go_wp2_with fail
    go_ret2
    exact hq.out _ (k3.then (k38.trans k9) (by simp))
   | true=>
    rw [hsb] at hso
    simp only [if_true] at hso
    have hbt:=zQ (kF M bK)
    change eu M<_ at hbt
    by_cases hmx:eu M=4294967295
    ·rw [hmx] at hso
     have hq:=fun W k=>hno.out W 16 k (.inr ⟨hr,.inr ⟨M,g0,hpar.out,.inr ⟨hsb,by decide,0,M,aJ s,fF s,false,.inl ⟨hmx,rfl,rfl,rfl,rfl,rfl,rfl⟩⟩⟩⟩)
     replace hq:=Lib.hid hq
     replace hso:=Lib.hid hso
     replace hsb:=Lib.hid hsb
     replace hmx:=Lib.hid hmx
     replace hbt:=Lib.hid hbt
     go_wp2_with fail
     refine hso.out.mono ?_;rintro e w9 ⟨rfl,k9⟩
     go_wp2_with fail
     go_ret2
     exact hq.out _ (k3.then (k38.trans k9) (by simp))
    ·obtain⟨bo,hbo⟩:∃ bo,bo=eu M:=⟨_,rfl⟩
     rw [←hbo] at hso hmx hbt
     have hok':=hok.out
     rw [←hbo] at hok'
     have nb:((bo:Int)==4294967295)=false:=by rw [beq_eq_false_iff_ne];omega
     have hw1:IntKind.u32.wrap ((bo:Int)+1)=(bo:Int)+1:=by rw [IntKind.wrap_u32];omega
     have hnum:=fun W=>iW W ((bo:Int)+1) (bo+1) (by omega) (by omega)
     replace hnum:=Lib.hid hnum
     replace hso:=Lib.hid hso
     replace hsb:=Lib.hid hsb
     replace hbo:=Lib.hid hbo
     replace hok':=Lib.hid hok'
     clear hok
     go_wp2_with fail
     refine hso.out.mono ?_;rintro e w9 ⟨rfl,k9⟩
     clear hso
     go_wp2_with fail
     have bw:=Blk.new w9 130 (aap me ((bo:Int)+1) lp (.slice A8 m c8))
     have ka:Only [] w9 (w9.alloc (.cells (aap me ((bo:Int)+1) lp (.slice A8 m c8)) 130)):=(Only.refl [] w9).alloc _
     generalize w9.alloc (.cells (aap me ((bo:Int)+1) lp (.slice A8 m c8)) 130)=wa at *
     obtain⟨sb,abp⟩:∃ sb,sb=w9.heap.size:=⟨_,rfl⟩
     rw [←abp] at bw
     rw [←abp]
     have aei:w9.heap.size≤sb:=by omega
     replace abp:=Lib.hid abp
     refine (hnum.out _).mono ?_;rintro e w10 ⟨rfl,k10⟩
     clear hnum
     go_wp2_with fail
     have bc:Blk (w10.alloc (.cells #[.string ⟨#[66]⟩,.string (strOf (be4 (bo+1))),.bool false] 133)) w10.heap.size 133 (chE ⟨bK,be4 (bo+1),false⟩).toArray:=Blk.new w10 _ _
     have kc:Only [] w10 (w10.alloc (.cells #[.string ⟨#[66]⟩,.string (strOf (be4 (bo+1))),.bool false] 133)):=(Only.refl [] w10).alloc _
     generalize w10.alloc (.cells #[.string ⟨#[66]⟩,.string (strOf (be4 (bo+1))),.bool false] 133)=wb at *
     have k8b:Only [] w8 wb:=k9.trans ((ka.trans k10).trans kc)
     have k3b:=k38.trans k8b
     have s37:=k7.size
     have s78:=k8.size
     have s89:=k9.size
     have s3w:=k3.size
     have afs:lp<w3.heap.size:=Blk.lt hrl
     have adk:RSv wb G3 sb lp p me ((bo:Int)+1) (aJ s) (fF s) false M:=by
      refine⟨⟨A8,c8,?_,hE8.kept k8b (by simp),fun hl a ha=> ?_⟩,Blk.kept hrl k3b (by simp),hr3.kept k3b (by simp),fun hmm=>by have:=(abI _ hmm).2;omega,hxG,by omega⟩
      ·have:=bw.kept (k10.trans kc) (by simp)
       rw [←hm.out]
       exact this
      ·have h1:=hA8 a ha
       have h2:=UD hE8 hl a ha
       exact⟨fun hmm=>by have:=(abI _ hmm).2;omega,by omega,by omega⟩
     have hcom:=VW wb G3 sb lp p N (fF s) me ((bo:Int)+1) (aJ s) M adk (some ⟨w10.heap.size,0,none⟩) 1 (uz (bo+1)) (ZH bc) (by show 1≤40;decide) (fun c hc=>by obtain rfl:=List.mem_singleton.1 hc;exact⟨by show bK.length≤16;decide,by show (be4 (bo+1)).length≤200;rw [aU];decide⟩) hlen hN1 hN2 hG.sorted hG.jE hG.length hok'.out hn rG
     change Calls _ _ #[_,.slice _ 1 1] wb _ at hcom
     have k3G:=k3.then k3b (by simp)
     clear adk bw bc hE8 hA8 hrl hr3 k9 ka k10 kc k8b k3b k7 k8 k38
     refine hcom.mono ?_
     rintro e w12 ⟨x,M',s',n',f',G',rfl,hrc,hrs,k12,hG'⟩
     have kw:Only G w w12:=k3G.then k12 (fun i hi=>by
      rcases List.mem_cons.1 hi with rfl | hi
      ·exact .inr (by omega)
      ·rcases List.mem_cons.1 hi with rfl | hi
       ·exact .inr hxp
       ·exact (abI _ hi).1)
     have hj:∀ j∈G',j∈G∨w.heap.size≤j:=fun j hj=>by
      rcases hG' j hj with h | h
      ·exact (abI _ h).1
      ·have:=k3G.size
       exact .inr (by omega)
     have hlt:bo<4294967295:=by omega
     have hbe:Fj N M (aJ s) (fF s) ((bo:Int)+1) x M' s' n' f':=.inr ⟨by rw [←hbo.out];exact hlt,by rw [←hbo.out];exact hrc,by rw [←hbo.out]⟩
     by_cases hx:x=0
     ·subst hx
      have hfin:∀ W,Only [] w12 W→CX w W G p N s me (.returned (.tuple #[.pointer (some ⟨sb,0,none⟩),.int .i64 0])):=fun W k=>
       .inr ⟨sb,lp,G',(bo:Int)+1,M,M',s',n',f',hr,g0,hpar.out,hsb.out,hbe,rfl,hrs.keep k,kw.then k (by simp),by omega,hj⟩
      replace hfin:=Lib.hid hfin
      clear hcom hrc hrs hbe kw hj hG' k12
      go_wp2_with fail
      go_ret2
      exact hfin.out _ (Only.refl [] _)
     ·have hx':(x != 0)=true:=by rw [bne_iff_ne];exact hx
      have hfin:∀ W,Only [] w12 W→CX w W G p N s me (.returned (.tuple #[.pointer none,.int .i64 x])):=fun W k=>
       hno.out W x (kw.then k (by simp)) (.inr ⟨hr,.inr ⟨M,g0,hpar.out,.inr ⟨hsb.out,hx,_,M',s',n',f',hbe⟩⟩⟩)
      replace hfin:=Lib.hid hfin
      replace hx:=Lib.hid hx
      clear hcom hrc hrs hbe kw hj hG' k12
      go_wp2_with fail
      go_ret2
      exact hfin.out _ (Only.refl [] _)
end Go.Proofs.YtmelaiefbpdifaaGreatDoor.Srv
namespace Go.Proofs.YtmelaiefbpdifaaGreatDoor.Srv
open Go.RowKit Go.Maps
section
variable {N:Nat}{M M':List Rw}{s s':St}{n n':Nat}{f f':Bool}{l:List Ch}{x:Int}
theorem MO(h:dN N M s n f l x M' s' n' f')(hF:zF l)(hg:(N:Int)-(M.length:Int)<bf M (aC M l)):x=6∧Vb M s n f M' s' n' f':=by
 rcases h with⟨a,_⟩ | ⟨_,_,a,b⟩ | ⟨_,a,_⟩ | ⟨_,a,_⟩
 ·exact absurd hF a
 ·exact⟨a,b⟩
 ·omega
 ·omega
theorem J5(h:dN N M s n f l x M' s' n' f')(hF:zF l)(hg:bf M (aC M l)≤(N:Int)-(M.length:Int))(h0:aC M l = []):x=0∧Vb M s n f M' s' n' f':=by
 rcases h with⟨a,_⟩ | ⟨_,a,_⟩ | ⟨_,_,_,a,b⟩ | ⟨_,_,a,_⟩
 ·exact absurd hF a
 ·omega
 ·exact⟨a,b⟩
 ·exact absurd h0 a
theorem MP(h:dN N M s n f l x M' s' n' f')(hF:zF l)(hg:bf M (aC M l)≤(N:Int)-(M.length:Int))(h0:aC M l≠[]):
  ∃ ss,Does N M (aC M l) ss∧ss.Pairwise (fun a b=>ltS b a=false)∧bV s n f (ss.map tN) x s' n' f'∧M'=if x=0 then jH M (aC M l) ss else M:=by
 rcases h with⟨a,_⟩ | ⟨_,a,_⟩ | ⟨_,_,a,_⟩ | ⟨_,_,_,a⟩
 ·exact absurd hF a
 ·omega
 ·exact absurd a h0
 ·exact a
end
theorem YD(b:Nat):zF (uz b):=by
 refine⟨by show 1≤40;decide,fun i hi=> ?_⟩
 obtain rfl:i=0:=by simpa [uz] using hi
 intro x hx
 obtain rfl:⟨bK,be4 b,false⟩=x:=by injection hx
 refine⟨show oM bK=true by decide,by show (be4 b).length≤200;rw [aU];decide,(fun h=>by cases h),?_⟩
 rintro⟨j,y,hj,_⟩
 omega
theorem Wh{N:Nat}{M:List Rw}{l:List Ch}(hM:Good N M)(hl:Fits l)(hN:N≤1024):∀ now out,tZ N M l=some (now,out)→(∀ x∈out,x.okay)∧out.length≤40:=by
 intro now out hp
 rcases Sr hM hl with⟨h,_⟩ | ⟨now',out',h,hg,hnil,hgo⟩
 ·rw [h] at hp;cases hp
 rw [h] at hp
 obtain⟨rfl,rfl⟩:now'=now∧out'=out:=by injection hp with hp;exact⟨congrArg Prod.fst hp,congrArg Prod.snd hp⟩
 by_cases h0:aC M l = []
 ·obtain⟨_,rfl⟩:=hnil h0
  exact⟨by simp,by simp⟩
 have hsame:=(hgo h0).2
 have hnf:=hl.news (M:=M)
 have hng:=ru (M:=M) (l:=l)
 have hroom:=room hM hnf hng hg
 have hraw:=G5 hM hnf hng hroom
 have hms:=List.mergeSort_perm (H7 M N (aC M l)) (fun a b=>decide (a.at_≤b.at_))
 have hsd:Does N M (aC M l) ((H7 M N (aC M l)).mergeSort fun a b=>decide (a.at_≤b.at_)):=hraw.perm hms
 have hsp:((H7 M N (aC M l)).mergeSort fun a b=>decide (a.at_≤b.at_)).Pairwise (fun a b=>ltS b a=false):=by
  have:=List.pairwise_mergeSort (le:=fun a b:Sp=>decide (a.at_≤b.at_)) (fun a b c h1 h2=>by simp at *;omega) (fun a b=>by simp;omega) (H7 M N (aC M l))
  refine this.imp ?_
  intro a b h
  simp [ltS] at h ⊢
  omega
 obtain⟨_,rfl⟩:=hsame _ hsd hsp
 refine⟨fun x hx=> ?_,by rw [List.length_map];have:=hsd.few;have:=hnf.few;omega⟩
 obtain⟨q,hq,rfl⟩:=List.mem_map.1 hx
 have h1:=hsd.jE q hq
 have h2:=(hnf.small _ (hsd.yF q hq)).2
 have h3:=Fe h2.1 h2.2
 refine⟨?_,by omega⟩
 show -9223372036854775808≤(q.at_:Int)∧(q.at_:Int)≤9223372036854775807
 omega
theorem UO{N:Nat}{M M1 M2:List Rw}{s s1 t t2:St}{n n1 n2:Nat}{f1 f2:Bool}{l:List Ch}{x y:Int}(hM:Good N M)(hF:zF l)(hN:s.aA.length=41+N)(like:Like s t)
  (hp:dN N M s n false l x M1 s1 n1 f1) (hr:QC N M t n l y M2 t2 n2 f2):x=y∧M1=M2:=by
 have hl:=nZ hF
 rcases Sr hM hl with⟨h,hg⟩ | ⟨now,out,h,hg,hnil,hgo⟩
 ·obtain⟨rfl,rfl,_⟩:=MO hp hF hg
  rcases hr with⟨_,rfl,rfl,_⟩ | ⟨now,out,a,_⟩
  ·exact⟨rfl,rfl⟩
  ·rw [h] at a;cases a
 rcases hr with⟨a,_⟩ | ⟨now',out',a,hr⟩
 ·rw [h] at a;cases a
 rw [h] at a
 obtain⟨rfl,rfl⟩:now=now'∧out=out':=by injection a with a;exact⟨congrArg Prod.fst a,congrArg Prod.snd a⟩
 by_cases h0:aC M l = []
 ·obtain⟨rfl,rfl⟩:=hnil h0
  obtain⟨rfl,rfl,_⟩:=J5 hp hF hg h0
  rcases hr with⟨_,rfl,rfl,_⟩ | ⟨b,_⟩
  ·exact⟨rfl,rfl⟩
  ·exact absurd rfl b
 obtain⟨hne,hsame⟩:=hgo h0
 rcases hr with⟨b,_⟩ | ⟨_,hc2,rfl⟩
 ·exact absurd b hne
 have hnf:=hl.news (M:=M)
 obtain⟨ss,hd,hs,hc,rfl⟩:=MP hp hF hg h0
 obtain⟨rfl,rfl⟩:=hsame ss hd hs
 have hsm:∀ q∈ss,q.ch.key.length≤16∧q.ch.val.length≤200:=fun q hq=>(hnf.small _ (hd.yF q hq)).2
 have hright:=ni hnf hd h0
 have hc3:=MN hsm (by rw [show (s.aA.length:Int)-41=(N:Int) by omega];exact hright) hc
 obtain⟨rfl,_,_,_⟩:=like.commits hc3 hc2
 exact⟨rfl,rfl⟩
theorem tX{N:Nat}{M M1 M2:List Rw}{s s1 t t2:St}{n n1 n2:Nat}{f1 f2:Bool}{b c x y:Int}(hM:Good N M)(hN:s.aA.length=41+N)(like:Like s t)
  (hp:C9 N M s n b x M1 s1 n1 f1) (hr:Fj N M t n c y M2 t2 n2 f2):x=y∧M1=M2∧(x=0→b=c):=by
 rcases hp with⟨a,rfl,rfl,rfl,_⟩ | ⟨a,hc,hb⟩
 ·rcases hr with⟨_,rfl,rfl,rfl,_⟩ | ⟨a',_⟩
  ·exact⟨rfl,rfl,fun _=>rfl⟩
  ·omega
 ·rcases hr with⟨a',_⟩ | ⟨_,hc2,rfl⟩
  ·omega
  ·obtain⟨rfl,rfl⟩:=UO hM (YD _) hN like hc hc2
   exact⟨rfl,rfl,fun h=>by rw [hb,if_pos h]⟩
theorem KO{N:Nat}{s t:St}{me:Int}(hN:(aJ s).aA.length=41+N)(like:Like s t)(hgood:∀ M,eY (dP (aJ s))=some M→Good N M){x y:Int}(hp:Kr N s me x)(hr:Hz N t me y):x=y:=by
 obtain⟨q1,q2,q3⟩:=like.opens
 have hd:=q2.dP
 rcases hp with⟨a,rfl⟩ | ⟨a,hp⟩
 ·rcases hr with⟨_,rfl⟩ | ⟨b,_⟩
  ·rfl
  ·exact absurd b a
 rcases hr with⟨b,_⟩ | ⟨_,hr⟩
 ·exact absurd a b
 unfold Fp at hp hr
 rw [←q1,←hd] at hr
 rcases hp with (⟨a1,rfl⟩ | ⟨a1,a2,rfl⟩) | ⟨M,a1,a2,a3⟩
 ·rcases hr with (⟨b1,rfl⟩ | ⟨b1,_⟩) | ⟨_,b1,_⟩
  ·rfl
  ·exact absurd b1 a1
  ·exact absurd b1 a1
 ·rcases hr with (⟨b1,_⟩ | ⟨_,_,rfl⟩) | ⟨M,_,b2,_⟩
  ·exact absurd a1 b1
  ·rfl
  ·rw [a2] at b2;cases b2
 ·rcases hr with (⟨b1,_⟩ | ⟨_,b2,_⟩) | ⟨M',b1,b2,b3⟩
  ·exact absurd a1 b1
  ·rw [a2] at b2;cases b2
  ·obtain rfl:M=M':=by rw [a2] at b2;injection b2
   rcases a3 with⟨a3,rfl⟩ | ⟨a3,_,b,M1,s1,n1,f1,a4⟩
   ·rcases b3 with⟨_,rfl⟩ | ⟨b3,_⟩
    ·rfl
    ·rw [a3] at b3;cases b3
   ·rcases b3 with⟨b3,_⟩ | ⟨_,_,c,M2,t2,n2,f2,b4⟩
    ·rw [a3] at b3;cases b3
    ·rw [←q3] at b4
     exact (tX (hgood M a2) hN q2 a4 b4).1
theorem VD{N:Nat}{s t:St}{me:Int}(hN:(aJ s).aA.length=41+N)(like:Like s t)(hgood:∀ M,eY (dP (aJ s))=some M→Good N M){x b:Int}{M M':List Rw}{s':St}{n':Nat}{f':Bool}
  (hp:Kr N s me x) (h0:1≤me∧me≤255) (h1:aY t=0) (h2:eY (dP (aJ t))=some M) (h3:gI M=true) (h4:Fj N M (aJ t) (fF t) b 0 M' s' n' f'):False:=by
 obtain⟨q1,q2,q3⟩:=like.opens
 have hd:=q2.dP
 rw [←q1] at h1
 rw [←hd] at h2
 rcases hp with⟨a,_⟩ | ⟨_,hp⟩
 ·exact a h0
 unfold Fp at hp
 rcases hp with (⟨a1,_⟩ | ⟨_,a2,_⟩) | ⟨M0,a1,a2,a3⟩
 ·exact a1 h1
 ·rw [a2] at h2;cases h2
 ·obtain rfl:M0=M:=by rw [a2] at h2;injection h2
  rcases a3 with⟨a3,_⟩ | ⟨_,hx,c,M1,s1,n1,f1,a4⟩
  ·rw [a3] at h3;cases h3
  ·rw [←q3] at h4
   exact hx (tX (hgood M0 a2) hN q2 a4 h4).1
theorem RD{N:Nat}{s t:St}{me:Int}(hN:(aJ s).aA.length=41+N)(like:Like s t)(hgood:∀ M,eY (dP (aJ s))=some M→Good N M){x b:Int}{M M':List Rw}{s':St}{n':Nat}{f':Bool}
  (hr:Hz N t me x) (h0:1≤me∧me≤255) (h1:aY s=0) (h2:eY (dP (aJ s))=some M) (h3:gI M=true) (h4:C9 N M (aJ s) (fF s) b 0 M' s' n' f'):False:=by
 obtain⟨q1,q2,q3⟩:=like.opens
 have hd:=q2.dP
 rcases hr with⟨a,_⟩ | ⟨_,hr⟩
 ·exact a h0
 unfold Fp at hr
 rw [←q1,←hd] at hr
 rcases hr with (⟨a1,_⟩ | ⟨_,a2,_⟩) | ⟨M0,a1,a2,a3⟩
 ·exact a1 h1
 ·rw [a2] at h2;cases h2
 ·obtain rfl:M0=M:=by rw [a2] at h2;injection h2
  rcases a3 with⟨a3,_⟩ | ⟨_,hx,c,M1,s1,n1,f1,a4⟩
  ·rw [a3] at h3;cases h3
  ·rw [←q3] at a4
   exact hx (tX (hgood M0 a2) hN q2 h4 a4).1.symm
end Go.Proofs.YtmelaiefbpdifaaGreatDoor.Srv
namespace Go.Proofs.YtmelaiefbpdifaaGreatDoor.Srv
open Go.RowKit Go.Maps
open Pgs (Pg pgE headB ldL mV)
theorem RSv.cells{w:World}{G:List Nat}{sb lp p n:Nat}{me b:Int}{s:St}{f:Bool}{M:List Rw}(h:RSv w G sb lp p me b s n f M):∃ A c,w.cell? ⟨sb,1,none⟩=some (.int .u32 b)∧w.cell? ⟨sb,2,none⟩=some (.pointer (some ⟨lp,0,none⟩))∧w.cell? ⟨sb,3,none⟩=some (.slice A M.length c)∧w.cell? ⟨sb,4,none⟩=some (.slice none 0 0)∧w.cell? ⟨sb,6,none⟩=some (.bool false)∧Els rwE 3 w A M:=by
 obtain⟨A,c,hb,hA,_⟩:=h.blk
 exact⟨A,c,(hb.cell 1).trans rfl,(hb.cell 2).trans rfl,(hb.cell 3).trans rfl,(hb.cell 4).trans rfl,(hb.cell 6).trans rfl,hA⟩
section
variable {w:World}{G:List Nat}{sb lp p n:Nat}{me b:Int}{s:St}{f:Bool}{M:List Rw}
set_option maxRecDepth 100000 in
set_option maxHeartbeats 4000000 in
theorem RSv.sure(h:RSv w G sb lp p me b s n f M)(hM:M.length≤1024)(hsm:∀ r∈M,1≤r.key.length∧r.key.length≤16∧r.val.length≤200)(x:Nat)(hx:x<4294967296):
  Calls Tryz.prog 56 #[.pointer (some ⟨sb,0,none⟩),.int .u32 (x:Int)] w fun e w'=>∃ v,e = .returned v∧Mine pgE 2 138 w w' v (dU M x):=by
 obtain⟨A,c,_,_,b3,_,_,hA⟩:=h.cells
 have P9:=yS w A c M hA (by omega)
 have hload:=fun W B d (h:Els chE 3 W B (M.map oU))=>Pgs.IQ W B d (M.map oU) h (by simpa using hM) (fun e he=>by obtain⟨r,hr,rfl⟩:=List.mem_map.1 he;exact (hsm r hr).2.1) x hx
 have hml:(M.map oU).length=M.length:=by rw [List.length_map]
 rw [hml,CU] at hload
 obtain⟨m,hm⟩:∃ m,m=M.length:=⟨_,rfl⟩
 rw [←hm] at hload P9 b3 hml
 change ∀ (W:World) (B:Option Addr) (d:Nat),_→Calls _ _ _ W fun e w'=>∃ v,_∧Mine pgE 2 _ W w' v (dU M x) at hload
 generalize mV (aP M (headB x))=lk at *
 generalize dU M x=S at *
 replace hload:=Lib.hid hload
 replace hm:=Lib.hid hm
 replace hml:=Lib.hid hml
 clear h hA
 go_enter Tryz.func56,Tryz.ntmps56
 go_wp2_with fail
 refine P9.mono ?_;rintro e w4 ⟨v,rfl,hne⟩
 obtain⟨B,cb,rfl,hcb,hBe,k4,_⟩:=hne
 rw [hml.out]
 have hld:=hload.out w4 B cb hBe
 clear P9
 go_wp2_with fail
 refine hld.mono ?_;rintro e w5 ⟨v5,rfl,hmi⟩
 have hq:=hmi.from k4
 replace hq:=Lib.hid hq
 clear hmi hBe
 go_wp2_with fail
 go_ret
 exact⟨_,rfl,hq.out⟩
set_option maxRecDepth 100000 in
set_option maxHeartbeats 4000000 in
theorem RSv.now(h:RSv w G sb lp p me b s n f M)(hM:M.length≤1024)(hsm:∀ r∈M,1≤r.key.length∧r.key.length≤16∧r.val.length≤200)(x:Nat)(hx:x<4294967296):
  Calls Tryz.prog 55 #[.pointer (some ⟨sb,0,none⟩),.int .u32 (x:Int)] w fun e w'=>∃ v,e = .returned v∧Mine pgE 2 138 w w' v (dU M x):=by
 obtain⟨A,c,_,_,_,b4,_,_⟩:=h.cells
 have uX:=h.sure hM hsm x hx
 clear h
 go_enter Tryz.func55,Tryz.ntmps55
 go_wp2_with fail
 go_loopw [5] (fun i wx=>i = .int .i64 0∧wx=w) (fun _ _=>0)
 case atStart=>exact⟨rfl,rfl⟩
 case round=>
  obtain⟨rfl,rfl⟩:=hrel
  go_wp2_with fail
  refine uX.mono ?_;rintro e w4 ⟨v,rfl,hmi⟩
  replace hmi:=Lib.hid hmi
  go_wp2_with fail
  go_ret
  exact⟨_,rfl,hmi.out⟩
theorem abe(x:Nat):(⟨#[69]⟩:ByteArray)++strOf (be4 x)=strOf (eK x):=by
 show _=strOf (69 :: be4 x)
 apply ByteArray.ext
 simp [strOf,be4]
set_option maxRecDepth 100000 in
set_option maxHeartbeats 4000000 in
theorem RSv.epoch(h:RSv w G sb lp p me b s n f M)(hS:Sorted M)(hM:M.length≤1024)(hsm:∀ r∈M,1≤r.key.length∧r.key.length≤16∧r.val.length≤200)(hE:∀ r∈M,r.key.getD 0 0=69→r.val.length=4)(x:Nat)(hx:x<4294967296):
  Calls Tryz.prog 54 #[.pointer (some ⟨sb,0,none⟩),.int .u32 (x:Int)] w fun e w'=>e = .returned (.int .u32 (epN M x:Int))∧Only [] w w':=by
 obtain⟨A,c,_,_,b3,_,_,hA⟩:=h.cells
 have hnum:=fun W=>iW W (x:Int) x rfl hx
 have hfind:=fun W (k:Only [] w W)=>wu W A c M (eK x) (hA.kept k (by simp)) (by omega)
 have abC:=abe x
 have hns:(strOf (be4 x)).size=4:=by rw [aj,aU]
 have hyes:∀ r∈M,r.key=eK x→rP r.val=epN M x:=fun r hr hk=>by
  have h4:=hE r hr (by rw [hk];rfl)
  have hf:=nM hS hr
  rw [hk] at hf
  unfold rP epN jD
  rw [if_pos h4,hf]
  rfl
 have hnone:(∀ r∈M,r.key≠eK x)→epN M x=0:=fun hno=>by
  unfold epN jD
  rw [dJ.2 hno]
  rfl
 obtain⟨m,hm⟩:∃ m,m=M.length:=⟨_,rfl⟩
 have hm2:m≤1024:=by omega
 rw [←hm] at hfind b3
 generalize epN M x=E at *
 generalize strOf (eK x)=es at *
 generalize strOf (be4 x)=ns at *
 replace hnum:=Lib.hid hnum
 replace hfind:=Lib.hid hfind
 replace hyes:=Lib.hid hyes
 replace hnone:=Lib.hid hnone
 replace hm:=Lib.hid hm
 replace hS:=Lib.hid hS
 replace hE:=Lib.hid hE
 replace hsm:=Lib.hid hsm
 clear h
 go_enter Tryz.func54,Tryz.ntmps54
 go_wp2_with fail
 have kd:Only [] w w.drew:=(Only.refl [] w).drew
 have z0:=kd.cell b3 (by simp)
 refine wp_region_held_drew (S:=fun w'=>w'.cell? ⟨sb,3,none⟩=some (.slice A m c)) (by kernel_rfl) z0 (fun hHeld=> ?_)
 clear z0
 generalize w.drew=wd at *
 refine rwT 0 (.pointer (some ⟨sb,0,none⟩)) hHeld ?_;simp only [rwA]
 refine rwT 1 (.pointer (some ⟨sb,0,none⟩)) hHeld ?_;simp only [rwA]
 refine rwT 2 (.pointer (some ⟨sb,3,none⟩)) hHeld ?_;simp only [rwA]
 refine rwY 3 (.slice A m c) hHeld ?_ (hy:=Or.inl ⟨by rfl,fun w' hSw=>by (try dsimp only at hSw);go_simp⟩);simp only [rwA]
 refine rwT 4 (.int .u32 (x:Int)) hHeld ?_;simp only [rwA]
 refine ah 5 rfl (by kernel_rfl) (fun K hK=> ?_)
 go_simp
 refine (hnum.out _).mono ?_;rintro e v1 ⟨rfl,k1⟩
 have q1:=kd.trans k1
 go_wp2_with fail
 refine hK.out _ _ (q1.cell b3 (by simp)) (fun hHeld=> ?_)
 clear hK K
 refine rwT 6 (.string es) hHeld ?_;simp only [rwA]
 refine ah 7 rfl (by kernel_rfl) (fun K hK=> ?_)
 go_simp
 refine (hfind.out _ q1).mono ?_;rintro e v2 ⟨hf,k2⟩
 have q2:=q1.trans k2
 rcases hf with⟨i,r,hi,hk,rfl⟩ | ⟨hno,rfl⟩
 ·obtain⟨hi',hri⟩:=List.getElem?_eq_some_iff.1 hi
  have hrM:r∈M:=by rw [←hri];exact List.getElem_mem hi'
  have hval:=hyes.out r hrM hk
  have hr2:=(hsm.out r hrM).2.2
  obtain⟨g,o,rfl,hg,hat⟩:=hA.get hi'
  obtain⟨_,e1,_⟩:=wo (hat.kept q2 (by simp)) hi'
  rw [hri] at e1
  have him:i<m:=by have:=hm.out;omega
  have b3':=q2.cell b3 (by simp)
  have fZ:=fun W=>AP W r.val (by omega)
  rw [hval] at fZ
  generalize decide (r.val.length=4)=d4 at fZ
  generalize strOf r.val=vs at *
  replace fZ:=Lib.hid fZ
  replace hk:=Lib.hid hk
  replace hi:=Lib.hid hi
  replace hri:=Lib.hid hri
  clear hat
  go_wp2_with fail
  refine hK.out _ _ b3' (fun hHeld=> ?_)
  clear hK K
  refine rwT 8 (.int .i64 (i:Int)) hHeld ?_;simp only [rwA]
  refine wpAnyH_done (by kernel_rfl) ?_ _
  clear hHeld
  go_wp2_with fail
  refine (fZ.out _).mono ?_;rintro e w3 ⟨rfl,k3,rfl⟩
  go_wp2_with fail
  go_ret
  exact⟨rfl,q2.drewN _⟩
 ·have hz:=hnone.out hno
  subst hz
  go_wp2_with fail
  refine hK.out _ _ (q2.cell b3 (by simp)) (fun hHeld=> ?_)
  clear hK K
  refine rwT 8 (.int .i64 (-1)) hHeld ?_;simp only [rwA]
  refine wpAnyH_done (by kernel_rfl) ?_ _
  clear hHeld
  go_wp2_with fail
  go_ret
  exact⟨rfl,q2⟩
set_option maxRecDepth 100000 in
set_option maxHeartbeats 4000000 in
theorem RSv.room{N:Nat}(h:RSv w G sb lp p me b s n f M)(hM:M.length≤N)(hN:s.aA.length=41+N)(hN2:N≤1024):
  Calls Tryz.prog 53 #[.pointer (some ⟨sb,0,none⟩)] w fun e w'=>e = .returned (.int .i64 ((N:Int)-(M.length:Int)-40+((aP M [69]).length:Int)))∧Only [] w w':=by
 obtain⟨A,c,_,b2,b3,b4,_,hA⟩:=h.cells
 obtain⟨l0,_,_⟩:=h.log.cells
 obtain⟨gf,cf,A1,cl,c0,_,_,_,_⟩:=h.dev.cells (by omega)
 have zo:=fun W (k:Only [] w W)=>O4 W A c M [69] (hA.kept k (by simp)) (by omega)
 obtain⟨u,hu⟩:∃ u,u=(aP M [69]).length:=⟨_,rfl⟩
 have hul:(M.filter fun r=>um [69] r.key).length=u:=by rw [hu];unfold aP;rw [List.length_map]
 have hum:u≤M.length:=by rw [←hul];exact List.length_filter_le _ _
 rw [←hu]
 obtain⟨m,hm⟩:∃ m,m=M.length:=⟨_,rfl⟩
 rw [←hm] at zo b3 hum hM
 rw [←hm]
 obtain⟨nF,hnF⟩:∃ nF,nF=s.aA.length:=⟨_,rfl⟩
 rw [←hnF] at c0
 have hw1:IntKind.i64.wrap ((nF:Int)-41)=(N:Int):=by rw [IntKind.wrap_i64];omega
 have hw2:IntKind.i64.wrap ((N:Int)-(m:Int))=(N:Int)-(m:Int):=by rw [IntKind.wrap_i64];omega
 have hw3:IntKind.i64.wrap ((N:Int)-(m:Int)-40)=(N:Int)-(m:Int)-40:=by rw [IntKind.wrap_i64];omega
 have hw4:IntKind.i64.wrap ((N:Int)-(m:Int)-40+(u:Int))=(N:Int)-(m:Int)-40+(u:Int):=by rw [IntKind.wrap_i64];omega
 replace zo:=Lib.hid zo
 replace hul:=Lib.hid hul
 replace hm:=Lib.hid hm
 replace hnF:=Lib.hid hnF
 replace hu:=Lib.hid hu
 clear h hA
 go_enter Tryz.func53,Tryz.ntmps53
 go_wp2_with fail
 have kd:Only [] w w.drew:=(Only.refl [] w).drew
 have z0:=kd.cell b3 (by simp)
 have z1:=kd.cell b2 (by simp)
 have z2:=kd.cell l0 (by simp)
 have z3:=kd.cell c0 (by simp)
 refine wp_region_held_drew (S:=fun w'=>w'.cell? ⟨sb,3,none⟩=some (.slice A m c)∧w'.cell? ⟨sb,2,none⟩=some (.pointer (some ⟨lp,0,none⟩))∧w'.cell? ⟨lp,0,none⟩=some (.pointer (some ⟨p,0,none⟩))∧w'.cell? ⟨p,0,none⟩=some (.slice (some ⟨gf,0,none⟩) nF cf)) (by kernel_rfl) ⟨z0,z1,z2,z3⟩ (fun hHeld=> ?_)
 clear z0 z1 z2 z3
 generalize w.drew=wd at *
 refine rwT 0 (.pointer (some ⟨sb,0,none⟩)) hHeld ?_;simp only [rwA]
 refine rwT 1 (.pointer (some ⟨sb,0,none⟩)) hHeld ?_;simp only [rwA]
 refine rwT 2 (.pointer (some ⟨sb,2,none⟩)) hHeld ?_;simp only [rwA]
 refine rwY 3 (.pointer (some ⟨lp,0,none⟩)) hHeld ?_ (hy:=Or.inl ⟨by rfl,fun w' hSw=>by obtain⟨_,hc,_,_⟩:=hSw;go_simp⟩);simp only [rwA]
 refine rwT 4 (.pointer (some ⟨lp,0,none⟩)) hHeld ?_;simp only [rwA]
 refine rwT 5 (.pointer (some ⟨lp,0,none⟩)) hHeld ?_;simp only [rwA]
 refine rwY 6 (.pointer (some ⟨p,0,none⟩)) hHeld ?_ (hy:=Or.inl ⟨by rfl,fun w' hSw=>by obtain⟨_,_,hc,_⟩:=hSw;go_simp⟩);simp only [rwA]
 refine rwT 7 (.pointer (some ⟨p,0,none⟩)) hHeld ?_;simp only [rwA]
 refine rwT 8 (.pointer (some ⟨p,0,none⟩)) hHeld ?_;simp only [rwA]
 refine rwY 9 (.slice (some ⟨gf,0,none⟩) nF cf) hHeld ?_ (hy:=Or.inl ⟨by rfl,fun w' hSw=>by obtain⟨_,_,_,hc⟩:=hSw;go_simp⟩);simp only [rwA]
 refine rwT 10 (.int .i64 (nF:Int)) hHeld ?_;simp only [rwA]
 refine rwT 11 (.int .i64 (N:Int)) hHeld ?_;simp only [rwA]
 refine rwT 12 (.pointer (some ⟨sb,0,none⟩)) hHeld ?_;simp only [rwA]
 refine rwT 13 (.pointer (some ⟨sb,0,none⟩)) hHeld ?_;simp only [rwA]
 refine rwT 14 (.pointer (some ⟨sb,3,none⟩)) hHeld ?_;simp only [rwA]
 refine rwY 15 (.slice A m c) hHeld ?_ (hy:=Or.inl ⟨by rfl,fun w' hSw=>by obtain⟨hc,_,_,_⟩:=hSw;go_simp⟩);simp only [rwA]
 refine rwT 16 (.int .i64 (m:Int)) hHeld ?_;simp only [rwA]
 refine rwT 17 (.int .i64 ((N:Int)-(m:Int))) hHeld ?_;simp only [rwA]
 refine rwT 18 (.int .i64 ((N:Int)-(m:Int)-40)) hHeld ?_;simp only [rwA]
 refine rwT 19 (.pointer (some ⟨sb,0,none⟩)) hHeld ?_;simp only [rwA]
 refine rwT 20 (.pointer (some ⟨sb,0,none⟩)) hHeld ?_;simp only [rwA]
 refine rwT 21 (.pointer (some ⟨sb,3,none⟩)) hHeld ?_;simp only [rwA]
 refine rwY 22 (.slice A m c) hHeld ?_ (hy:=Or.inl ⟨by rfl,fun w' hSw=>by obtain⟨hc,_,_,_⟩:=hSw;go_simp⟩);simp only [rwA]
 refine ah 23 rfl (by kernel_rfl) (fun K hK=> ?_)
 go_simp
 refine (zo.out _ kd).mono ?_;rintro e v1 ⟨v,rfl,A2,c2,rfl,_,_,k1,_⟩
 have q1:=kd.trans k1
 rw [hul.out]
 have b4':=q1.cell b4 (by simp)
 go_wp2_with fail
 refine hK.out _ _ ⟨q1.cell b3 (by simp),q1.cell b2 (by simp),q1.cell l0 (by simp),q1.cell c0 (by simp)⟩ (fun hHeld=> ?_)
 clear hK K
 refine rwT 24 (.int .i64 (u:Int)) hHeld ?_;simp only [rwA]
 refine rwT 25 (.int .i64 ((N:Int)-(m:Int)-40+(u:Int))) hHeld ?_;simp only [rwA]
 refine rwT 26 (.int .i64 ((N:Int)-(m:Int)-40+(u:Int))) hHeld ?_;simp only [rwA]
 refine wpAnyH_done (by kernel_rfl) ?_ _
 clear hHeld
 clear b3 b2 l0 c0 zo
 go_wp2_with fail
 go_loopw [3,4] (fun v i wx=>v = .int .i64 ((N:Int)-(m:Int)-40+(u:Int))∧i = .int .i64 0∧wx=v1) (fun _ _ _=>0)
 case atStart=>exact⟨rfl,rfl,rfl⟩
 case round=>
  obtain⟨rfl,rfl,rfl⟩:=hrel
  go_wp2_with fail
  go_ret
  exact⟨rfl,q1⟩
end
end Go.Proofs.YtmelaiefbpdifaaGreatDoor.Srv
