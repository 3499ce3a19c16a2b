/- DserverStarts: the walk. -/
import Derived.Test.YtmelaiefbpdifaaGreatDoorHL4
import Derived.Test.YtmelaiefbpdifaaGreatDoorHAw13
import Derived.Test.YtmelaiefbpdifaaGreatDoorHK0
import Derived.Test.YtmelaiefbpdifaaGreatDoorHK5
namespace Go.Proofs.YtmelaiefbpdifaaGreatDoor.Srv
open Go.RowKit Go.Maps
def stK(f:List (List UInt8))(k:Nat):St:=⟨f.take k++List.replicate (100-k) (rep 256 0),[], -1,false⟩
theorem Rj{f:List (List UInt8)}(hf:f.length=100){k:Nat}(hk:k≤100):(stK f k).aA.length=100:=by
 simp [stK,hf]
 omega
theorem VE(f:List (List UInt8)):stK f 0=fresh 100:=by simp [stK,fresh]
theorem YL{f:List (List UInt8)}(hf:f.length=100):stK f 100=⟨f,[], -1,false⟩:=by
 simp [stK,List.take_of_length_le (Nat.le_of_eq hf)]
theorem YK{f:List (List UInt8)}(hf:f.length=100){k:Nat}(hk:k<100):{ stK f k with aA:=(stK f k).aA.set k (f.getD k []) }=stK f (k+1):=by
 have hkf:k<f.length:=by omega
 have h1:(f.take k).length=k:=by rw [List.length_take];omega
 have h2:(f.take k++List.replicate (100-k) (rep 256 0)).set k (f.getD k [])=f.take (k+1)++List.replicate (100-(k+1)) (rep 256 0):=by
  have e:f.take (k+1)=f.take k++[f[k]]:=by
   rw [List.take_add_one,List.getElem?_eq_getElem hkf]
   rfl
  rw [e,List.set_append_right _ _ (by omega),h1,Nat.sub_self,show 100-k=(100-(k+1))+1 by omega,List.replicate_succ,List.set_cons_zero,List.getD_eq_getElem?_getD,List.getElem?_eq_getElem hkf,List.append_assoc]
  rfl
 exact congrArg (fun x=>(⟨x,[], -1,false⟩:St)) h2
theorem Pn{N:Nat}{M M':List Rw}{s s':St}{n n':Nat}{b x:Int}{f':Bool}(h:Fj N M s n b x M' s' n' f'):s'.aA.length=s.aA.length:=by
 rcases h with⟨_,_,_,_,rfl,_⟩ | ⟨_,hc,_⟩
 ·rfl
 ·rcases hc with⟨_,_,_,rfl,_⟩ | ⟨now,out,_,⟨_,_,_,rfl,_⟩ | ⟨_,hc,_⟩⟩
  ·rfl
  ·rfl
  ·exact (DC hc).2.1
theorem Nl{N:Nat}{M M':List Rw}{s s':St}{n n':Nat}{b:Int}{f':Bool}(hM:Good N M)(hb:C9 N M s n b 0 M' s' n' f'):∀ k,jD M' k=dX (uz (eu M+1)) M k:=by
 intro k
 rcases hb with⟨_,_,h,_⟩ | ⟨_,hc,_⟩
 ·exact absurd h (by decide)
 rcases hc with⟨_,h,_⟩ | ⟨_,_,h,_⟩ | ⟨h1,h2,h3,_,hst⟩ | ⟨h1,h2,h3,ss,hd,_,hc,hM'⟩
 ·exact absurd h (by decide)
 ·exact absurd h (by decide)
 ·obtain⟨rfl,_⟩:=hst
  have:=kZ (ss:=[]) hM (nZ h1) (by rw [h3];exact Om _ _) k
  rw [h3] at this
  exact this
 ·rw [if_pos rfl] at hM'
  subst hM'
  exact kZ hM (nZ h1) hd k
theorem ZG{N:Nat}{M M':List Rw}{s s':St}{n n':Nat}{b:Int}{f':Bool}(hM:Good N M)(hso:gI M=true)(hb:C9 N M s n b 0 M' s' n' f'):∀ r∈M',r.key.getD 0 0=69→r.val.length=4:=by
 intro r hr h69
 have hG:=yG hM hb
 have h1:jD M' r.key=some r.val:=by
  unfold jD
  rw [nM hG.sorted hr]
  rfl
 rw [Nl hM hb] at h1
 unfold dX at h1
 cases hh:yu (uz (eu M+1)) r.key with
 | some c=>
  obtain⟨hc,hk⟩:=BL hh
  obtain rfl:=List.mem_singleton.1 hc
  rw [←hk] at h69
  exact absurd h69 (by show ¬(bK.getD 0 0=69);decide)
 | none=>
  rw [hh] at h1
  obtain⟨r0,_,h2,h3,h4⟩:=JM h1
  rw [Aq hM.sorted (fun r hr=>(hM.small r hr).1),List.all_eq_true] at hso
  have:=(AB.1 (hso r0 h2)).2.1 (by rw [h3];exact h69)
  unfold Kv at this
  rw [Bool.and_eq_true,decide_eq_true_eq,decide_eq_true_eq] at this
  rw [←h4]
  exact this.2
set_option maxRecDepth 100000 in
set_option maxHeartbeats 8000000 in
theorem xg(w:World)(A:Option Addr)(c:Nat)(l:List Ch)(hA:Els chE 3 w A l)(hok:wJ l)(hl:l.length≤9223372036854775807)(hc:l.length≤c)(me:Int)(hme:I me):
  Calls Tryz.prog 3 #[.slice A l.length c,.int .i64 me] w fun e w'=>e = .returned (.bool true)∧Only [] w w':=by
 obtain⟨n,hn⟩:∃ n,n=l.length:=⟨_,rfl⟩
 rw [←hn]
 have hn9:(n:Int)≤9223372036854775807:=by omega
 replace hn:=Lib.hid hn
 replace hok:=Lib.hid hok
 replace hme:=Lib.hid hme
 replace hl:=Lib.hid hl
 replace hc:=Lib.hid hc
 go_enter Tryz.func3,Tryz.ntmps3
 go_wp2_with fail
 refine (alive_any _).mono ?_;rintro e w1 ⟨rfl,k01⟩
 have hnew:=Ei w1 w1 100 (by decide) (by decide) (Only.refl _ _)
 replace hnew:=Lib.hid hnew
 go_wp2_with fail
 refine hnew.out.mono ?_;rintro e w2 ⟨dp,F,rfl,hd2,k2,_⟩
 have hrn:=VP w2 100 (by decide) (by decide)
 replace hrn:=Lib.hid hrn
 clear hnew
 go_wp2_with fail
 refine hrn.out.mono ?_;rintro e w3 ⟨p,G,rfl,hr3,k3,hG⟩
 have hop:=(hd2.keep k3).aa1 (by decide)
 have hF2:=hd2.new
 replace hop:=Lib.hid hop
 replace hG:=Lib.hid hG
 replace hF2:=Lib.hid hF2
 clear hrn hd2
 go_wp2_with fail
 refine hop.out.mono ?_;rintro e w4 ⟨rp,mb,lp,F4,rfl,h5,k4,hF4,_,_,_⟩
 have hr4:=hr3.kept k4 (fun i hi hf=>by have:=(hG.out i hi).1;have:=(hF2.out i hf).2;omega)
 have k14:Only [] w1 w4:=h5.own.only
 clear hop hr3
 by_cases hgt:40<(n:Int)
 ·have dg:decide (40<(n:Int))=true:=by simpa using hgt
  clear h5 hr4
  go_wp2_with fail
  go_ret
  exact⟨rfl,k01.trans k14⟩
 have hcom:=h5.commit A c l (N:=59) rfl (Good.nil _) (by decide) (hA.kept (k01.trans k14) (by simp)) hok.out hl.out hc.out (by decide)
 rw [←hn.out] at hcom
 replace hcom:=Lib.hid hcom
 clear h5
 go_wp2_with fail
 refine hcom.out.mono ?_;rintro e w5 ⟨x,M5,s5,n5,f5,F5,rfl,hC,h5,k5,hF5⟩
 clear hcom
 have k15:Only [] w1 w5:=h5.own.only
 obtain⟨hput,acr,hlen5,aeG,rfl,hn5⟩:=FQ (EN _) rfl (Good.nil _) (by decide) hC
 have Xq:=h5.own.dev
 have hfl:s5.aA.length=100:=hlen5
 have abA:s5.late = []:=List.eq_nil_of_length_eq_zero (by have:(fresh 100).late.length=0:=rfl;omega)
 have hFG:∀ j∈F5,j∉G:=fun j hj hg=>by
  have hg2:=hG.out j hg
  have s4:=k4.size
  rcases hF5 j hj with h | h
  ·rcases hF4 j h with h | h
   ·have:=(hF2.out j h).2;omega
   ·omega
  ·omega
 have hr5:Ref w5 p G (fresh 100):=hr4.kept k5 (fun i hi hm=>by
  have hg2:=hG.out i hi
  rcases List.mem_cons.1 hm with rfl | hm
  ·omega
  ·rcases List.mem_cons.1 hm with rfl | hm
   ·omega
   ·rcases hF4 i hm with h | h
    ·have:=(hF2.out i h).2;omega
    ·omega)
 have acF:=Xq.fine
 have hread:∀ W,Only G w5 W→∀ k:Nat,k<100→Calls Tryz.prog 14 #[.pointer (some ⟨dp,0,none⟩),.int .i64 (k:Int)] W fun e w'=>e = .returned (.tuple #[.string (strOf (s5.aA.getD k [])),.int .i64 0])∧w'=W:=fun W kk k hk=>by
  have h:=wC W dp F5 s5 (k:Int) (Xq.kept kk hFG)
  obtain⟨h1,h2⟩:=wE s5 k (by omega) acr.1
  rw [h1,h2,Nj abA] at h
  exact h
 replace hread:=Lib.hid hread
 replace hFG:=Lib.hid hFG
 replace hF4:=Lib.hid hF4
 replace hF5:=Lib.hid hF5
 clear hr4
 by_cases hx:x=0
 case neg=>
  have hx':(x != 0)=true:=by rw [bne_iff_ne];exact hx
  clear hC h5 hput
  go_wp2_with fail
  refine (alive_any _).mono ?_;rintro e w6 ⟨rfl,k6⟩
  go_wp2_with fail
  go_ret
  exact⟨rfl,k01.trans (k15.trans k6)⟩
 subst hx
 go_wp2_with fail
 go_loopw [9] (fun i wx=>∃ k:Nat,k≤100∧i = .int .i64 k∧Ref wx p G (stK s5.aA k)∧Only G w5 wx) (fun i _=>100-(intOf i).toNat)
 case atStart=>exact⟨0,by omega,rfl,by rw [VE];exact hr5,Only.refl G _⟩
 case round=>
  obtain⟨k,hk,rfl,hrk,kk⟩:=hrel
  by_cases hlt:k<100
  ·have hb256:(s5.aA.getD k []).length=256:=by
    rw [List.getD_eq_getElem?_getD,List.getElem?_eq_getElem (by omega)]
    exact acF.aA _ (List.getElem_mem _)
   obtain⟨gf,cf,c0,⟨u,cu⟩,fr,gl,gG,hnext⟩:=Ref.lay hrk (k:=k) (by rw [Rj hfl hk];exact hlt) (s5.aA.getD k []) hb256
   rw [YK hfl hlt] at hnext
   rw [Rj hfl hk] at c0
   have hrd:=hread.out wr kk k hlt
   generalize strOf (s5.aA.getD k [])=bs at *
   replace hnext:=Lib.hid hnext
   replace hrd:=Lib.hid hrd
   clear hrk hb256 h5 hC hput
   go_wp2_with fail
   refine hrd.out.mono ?_;rintro e w6 ⟨rfl,rfl⟩
   go_wp2_with fail
   go_roundw
   case rel=>exact⟨k+1,by omega,by go_num,hnext.out,kk.setCell (.inl gG) _⟩
   case measure=>simp [intOf];omega
  obtain rfl:k=100:=by omega
  rw [YL hfl] at hrk
  have like:Like s5 ⟨s5.aA,[], -1,false⟩:=⟨rfl,abA,acr.1,.inr ⟨acr.2,(by decide:(-1:Int)<0)⟩⟩
  have hGw:∀ i∈G,w1.heap.size≤i:=fun i hi=>by have:=(hG.out i hi).1;have:=k2.size;omega
  have k1r:Only [] w1 wr:=k15.then kk (fun i hi=>.inr (hGw i hi))
  have own:xH w1 wr F5 dp s5:=⟨Xq.kept kk hFG.out,k1r,fun j hj=>⟨(h5.own.new j hj).1,Nat.lt_of_lt_of_le (h5.own.new j hj).2 kk.size⟩⟩
  obtain⟨z1,z2⟩:=Lp s5
  rw [abA] at z1
  have hgood:∀ M,eY (dP (aJ s5))=some M→Good 59 M:=fun M h=>by
   have:=PD h
   rwa [nN,z2,hfl] at this
  have hst:=xH.X9 (N:=59) own me hme.out (by rw [abA];decide) (by rw [z2];exact hlen5) (by have:([]:List (Nat × List UInt8)).length=0:=rfl;omega) (FZ _) hgood
  have q:=like.opens
  have hFn:∀ i∈F5,w1.heap.size≤i:=fun i hi=>(own.new i hi).1
  have hFr:∀ i∈F5,i<wr.heap.size:=fun i hi=>(own.new i hi).2
  replace hst:=Lib.hid hst
  replace like:=Lib.hid like
  replace hgood:=Lib.hid hgood
  replace hGw:=Lib.hid hGw
  replace hFr:=Lib.hid hFr
  replace hread:=Lib.hid hread
  clear hread own h5 hC hput
  go_wp2_with fail
  refine hst.out.mono ?_;intro e w7 hS
  clear hst
  have k77:Only F5 wr w7:=by
   rcases hS with⟨x,_,rfl,k⟩ | ⟨sb,R,b,M,M',s',n',f',_,_,_,_,_,rfl,_,k,_⟩
   ·exact k
   ·exact k
  have hr7:Ref w7 p G ⟨s5.aA,[], -1,false⟩:=hrk.kept k77 (fun i hi hf=>hFG.out i hf hi)
  have hrs:=O8 w7 p 59 G ⟨s5.aA,[], -1,false⟩ me hr7 hme.out (by show 0+100≤1048576;decide) (by rw [←q.2.1.1,z2];exact hlen5) (by decide) (by decide) (by rw [←q.2.1.2.1];have:([]:List (Nat × List UInt8)).length=0:=rfl;omega) (FZ _) (fun M hM=>by
   rw [←q.2.1.dP] at hM
   exact⟨hgood.out M hM,Wh (hgood.out M hM) (nZ (YD _)) (by decide)⟩)
  replace hrs:=Lib.hid hrs
  replace q:=Lib.hid q
  clear hrk hr7
  rcases hS with⟨x,hx,rfl,_⟩ | ⟨sb,R,b,M,M',s',n',f',hm1,ho1,hp1,hs1,hb1,rfl,adf,_,hR⟩
  ·go_wp2_with fail
   refine hrs.out.mono ?_;intro e w8 hT
   rcases hT with⟨y,hy,rfl,k8⟩ | ⟨xb,lp',G',b',M,M',s',n',f',hm2,ho2,hp2,hs2,hb2,rfl,_,_,_,_⟩
   ·have hxy:x=y:=KO (N:=59) (by rw [z2];exact hlen5) like.out hgood.out hx hy
    subst hxy
    have k18:Only [] w1 w8:=(k1r.then k77 (fun i hi=>.inr (hFn i hi))).then k8 (fun i hi=>.inr (hGw.out i hi))
    clear hx hy hrs
    go_wp2_with fail
    refine (alive_any _).mono ?_;rintro e w9 ⟨rfl,k9⟩
    go_wp2_with fail
    refine (VI _).mono ?_;rintro e w10 ⟨rfl,k10⟩
    go_wp2_with fail
    go_ret
    exact⟨rfl,k01.trans ((k18.trans k9).trans k10)⟩
   ·exact absurd (VD (N:=59) (by rw [z2];exact hlen5) like.out hgood.out hx hm2 ho2 hp2 hs2 hb2) id
  ·go_wp2_with fail
   refine hrs.out.mono ?_;intro e w8 hT
   rcases hT with⟨y,hy,rfl,k8⟩ | ⟨xb,lp',G',b',M2,M2',s'',n'',f'',hm2,ho2,hp2,hs2,hb2,rfl,hX,k8,hxb,hG'⟩
   ·exact absurd (RD (N:=59) (by rw [z2];exact hlen5) like.out hgood.out hy hm1 ho1 hp1 hs1 hb1) id
   ·rw [←q.out.2.1.dP,hp1] at hp2
    obtain rfl:M=M2:=by injection hp2
    rw [←q.out.2.2] at hb2
    obtain⟨_,rfl,hbb⟩:=tX (hgood.out M hp1) (by rw [z2];exact hlen5) q.out.2.1 hb1 hb2
    obtain rfl:=hbb rfl
    have k17:Only [] w1 w7:=k1r.then k77 (fun i hi=>.inr (hFn i hi))
    have k18:Only [] w1 w8:=k17.then k8 (fun i hi=>.inr (hGw.out i hi))
    have WU:=adf.beside k8 k18 (fun i hi hR'=>by
     have hg2:=hG.out i hi
     have e1:=k4.size
     have e2:=k5.size
     have e3:=kk.size
     rcases hR i hR' with h | h
     ·exact hFG.out i h hi
     ·omega)
    replace WU:=Lib.hid WU
    replace hX:=Lib.hid hX
    clear hrs adf
    go_wp2_with fail
    refine (alive_any _).mono ?_;rintro e w9 ⟨rfl,k9⟩
    have ab3:=WU.out.keep k9
    have hX9:=hX.out.keep k9
    have hGd:=yG (hgood.out M hp1) hb1
    have hEr:=ZG (hgood.out M hp1) hs1 hb1
    obtain⟨rp9,mb9,lp9,lb9,F9,vs9,D9,h9⟩:=ab3
    have hlM:M'.length≤59:=hGd.length
    have hroom:FP (DT 59 me b M')=((59:Nat):Int)-(M'.length:Int)-40+((aP M' [69]).length:Int):=by
     show ((59:Nat):Int)-(M'.length:Int)-40+((aP M' [69]).length:Int)-((0:Nat):Int)=_
     omega
    have adi:s''.aA.length=41+59:=by
     rw [Pn hb2,←q.out.2.1.1,z2]
     exact hlen5
    obtain⟨_,_,c1,_,_,_,c6,_⟩:=hX9.cells
    have hsame:=VH w9 sb xb b (((59:Nat):Int)-(M'.length:Int)-40+((aP M' [69]).length:Int)) (epN M') (dU M') (dU M') (fun y=>Pgs.eU (oJ h9.ok y)) (fun y=>Pgs.eU (oJ h9.ok y))
     (fun W kw=>(h9.keep kw).abf) (fun W kw=>(h9.keep kw).aa7) (fun W kw=>by rw [←hroom];exact (h9.keep kw).room) (fun W kw=>(hX9.keep kw).room hlM adi (by decide))
     (fun W kw y hy=>(h9.keep kw).epoch (y:Int) (by unfold U;omega)) (fun W kw y hy=>(hX9.keep kw).epoch hGd.sorted (by omega) hGd.small hEr y (by omega))
     (fun W kw y hy=>(h9.keep kw).object (y:Int) y rfl (by omega)) (fun W kw y hy=>((hX9.keep kw).now (by omega) hGd.small y (by omega)).mono fun _ _ ⟨v,h1,h2⟩=>⟨v,h1,h2.els Pgs.cO⟩)
     (fun W kw y hy=>(h9.keep kw).sure (y:Int) y rfl (by omega)) (fun W kw y hy=>((hX9.keep kw).sure (by omega) hGd.small y (by omega)).mono fun _ _ ⟨v,h1,h2⟩=>⟨v,h1,h2.els Pgs.cO⟩) c1 c6
    replace hsame:=Lib.hid hsame
    clear hX9 h9 WU hEr hGd hroom adi hb1 hb2 hX c1 c6
    go_wp2_with fail
    refine hsame.out.mono ?_;rintro e w10 ⟨rfl,k10⟩
    go_wp2_with fail
    go_ret
    exact⟨rfl,k01.trans ((k18.trans k9).trans k10)⟩
end Go.Proofs.YtmelaiefbpdifaaGreatDoor.Srv
