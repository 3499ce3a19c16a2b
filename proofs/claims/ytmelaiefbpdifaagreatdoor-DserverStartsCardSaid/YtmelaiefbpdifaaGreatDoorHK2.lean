/- Joined: Rlog1, Rlog2, Rlog3 -/
import Derived.Test.YtmelaiefbpdifaaGreatDoorHGe
namespace Go.Proofs.YtmelaiefbpdifaaGreatDoor
open Go.RowKit
theorem F7(w:World)(p:Nat)(G:List Nat)(s:St)(k:Nat)(hk:k<s.aA.length)(bY:s.late.length<1048576)(hd:Ref w p G s):
  Calls Tryz.prog 95 #[.pointer (some ⟨p,0,none⟩),.int .i64 (k:Int)] w fun e w'=>e = .returned (.string (strOf (bI s k)))∧w'=w:=YW w p G s k hk bY hd
def yK(s:St)(e:Ending):Prop:=(fA s≠[]∧e = .returned (.tuple #[.int .i64 (kK (bI s 0):Int),.bool true]))∨(fA s = []∧e = .returned (.tuple #[.int .i64 0,.bool false]))
theorem yK.no{s:St}(h:fA s = []):yK s (.returned (.tuple #[.int .i64 0,.bool false])):=.inr ⟨h,rfl⟩
theorem Ref.cells{w:World}{p:Nat}{G:List Nat}{s:St}(h:Ref w p G s)(hN:0<s.aA.length):∃ gf cf A cl,w.cell? ⟨p,0,none⟩=some (.slice (some ⟨gf,0,none⟩) s.aA.length cf)∧w.cell? ⟨p,1,none⟩=some (.slice A s.late.length cl)∧w.cell? ⟨p,2,none⟩=some (.int .i64 s.fuse)∧w.cell? ⟨p,3,none⟩=some (.bool s.dead)∧∀ k,k<s.aA.length→w.cell? ⟨gf,k,none⟩=some (.string (strOf (s.aA.getD k []))):=by
 obtain⟨vf,vl,hb,o1,o2,_⟩:=h
 obtain⟨gf,cf,rfl,_,_⟩:=o1.form hN
 obtain⟨A,cl,rfl⟩:∃ A c,vl = .slice A s.late.length c:=by
  rcases o2.2 with⟨rfl,h0⟩ | ⟨g,cap,cur,rfl,_⟩
  ·exact⟨_,_,by rw [h0]⟩
  ·exact⟨_,_,rfl⟩
 have c0:=hb.cell 0
 have c1:=hb.cell 1
 have c2:=hb.cell 2
 have c3:=hb.cell 3
 simp only [List.getElem?_toArray,List.getElem?_cons_zero,List.getElem?_cons_succ] at c0 c1 c2 c3
 refine⟨gf,cf,A,cl,c0,c1,c2,c3,fun k hk=> ?_⟩
 have:=o1.cells rfl k (.string (strOf (s.aA.getD k []))) (by simp [strCells,hk])
 rwa [addr_add,Nat.zero_add] at this
set_option maxRecDepth 100000 in
set_option maxHeartbeats 2000000 in
theorem O1(w:World)(p:Nat)(G:List Nat)(s:St)(hN:42≤s.aA.length)(bY:s.late.length<1048576)(hd:Ref w p G s):
  Calls Tryz.prog 97 #[.pointer (some ⟨p,0,none⟩)] w fun e w'=>yK s e∧Only [] w w':=by
 have fine:=hd.fine
 have hb0:=fine.blk (k:=0) (by omega)
 have Kw:=fun W (k:Only [] w W) j (hj:j<s.aA.length)=>F7 W p G s j hj bY (hd.kept k (by simp))
 have hcut:=gZ (P:=Tryz.prog) 9 Tryz.underlying9 (bI s 0) 4 4 .i64 rfl (by omega)
 have hn0:=Kw w (Only.refl _ _) 0 (by omega)
 by_cases hm:(bI s 0).take 4=pq
 ·have hmk:kK (bI s 0)=jg (bI s 0) 8:=by rw [kK,if_pos hm]
  have hmn:iT (bI s 0)=jg (bI s 0) 4:=by rw [iT,if_pos hm]
  have hopen:fA s=gK s (jg (bI s 0) 4) (jg (bI s 0) 8):=by rw [fA,hmk,hmn]
  have h8:=fun W=>Fg W (bI s 0) 8 (by omega) (by omega)
  have h4:=fun W=>Fg W (bI s 0) 4 (by omega) (by omega)
  have lt8:=jP (bI s 0) 8
  have lt4:=jP (bI s 0) 4
  rw [hm] at hcut
  have heq:((strOf pq).toList==[76,67,79,77])=true:=by
   rw [show (strOf pq).toList=pq from ByteArray.toList_mk _]
   rfl
  generalize strOf pq=X at *
  have hwi:∀ e,yK s e↔((gK s (jg (bI s 0) 4) (jg (bI s 0) 8)≠[]∧e = .returned (.tuple #[.int .i64 (jg (bI s 0) 8:Int),.bool true]))∨(gK s (jg (bI s 0) 4) (jg (bI s 0) 8) = []∧e = .returned (.tuple #[.int .i64 0,.bool false]))):=fun e=>by
   unfold yK
   rw [hopen,hmk]
  generalize jg (bI s 0) 8=kk at *
  generalize jg (bI s 0) 4=n at *
  generalize hB0:strOf (bI s 0)=B at *
  obtain⟨y,hy⟩:∃ y:Int,y=(kk:Int):=⟨_,rfl⟩
  obtain⟨z,hz⟩:∃ z:Int,z=(n:Int):=⟨_,rfl⟩
  have y0:0≤y:=by omega
  have y1:y<4294967296:=by omega
  have z0:0≤z:=by omega
  have z1:z<4294967296:=by omega
  rw [←hy] at h8
  rw [←hz] at h4
  replace hn0:=Lib.hid hn0
  replace hopen:=Lib.hid hopen
  replace hwi:=Lib.hid hwi
  replace hB0:=Lib.hid hB0
  replace h8:=Lib.hid h8
  replace h4:=Lib.hid h4
  replace hy:=Lib.hid hy
  replace hz:=Lib.hid hz
  replace lt8:=Lib.hid lt8
  replace lt4:=Lib.hid lt4
  replace Kw:=Lib.hid Kw
  replace hb0:=Lib.hid hb0
  have hm':=Lib.hid hm
  clear hm hmk hmn
  by_cases hk1:y<1
  ·have hno:Hid (gK s n kk = []):=by
    have:kk=0:=by have:=hy.out;omega
    subst this
    exact sO _ _
   go_enter Tryz.func97,Tryz.ntmps97
   go_wp2_with fail
   refine hn0.out.mono ?_
   rintro e w1 ⟨rfl,rfl⟩
   go_wp2_with fail
   refine (h8.out _).mono ?_
   rintro e w2 ⟨rfl,k2⟩
   go_wp2
   go_ret2
   exact⟨(hwi.out _).2 (.inr ⟨hno.out,rfl⟩),k2⟩
  by_cases hk2:40<y
  ·have hno:Hid (gK s n kk = []):=by
    unfold gK
    exact if_neg (fun h=>by have:=h.1;have:=hy.out;omega)
   go_enter Tryz.func97,Tryz.ntmps97
   go_wp2_with fail
   refine hn0.out.mono ?_
   rintro e w1 ⟨rfl,rfl⟩
   go_wp2_with fail
   refine (h8.out _).mono ?_
   rintro e w2 ⟨rfl,k2⟩
   go_wp2
   go_ret2
   exact⟨(hwi.out _).2 (.inr ⟨hno.out,rfl⟩),k2⟩
  have hkk:Hid (1≤kk∧kk≤40):=by have:=hy.out;exact (show 1≤kk∧kk≤40 by omega)
  have y2:y≤40:=by omega
  clear y1
  go_enter Tryz.func97,Tryz.ntmps97
  go_wp2_with fail
  refine hn0.out.mono ?_
  rintro e w1 ⟨rfl,rfl⟩
  go_wp2_with fail
  refine (h8.out _).mono ?_
  rintro e w2 ⟨rfl,k2⟩
  go_wp2_with fail
  go_loopw [6] (fun i wr=>∃ j:Nat,j≤kk∧i = .int .i64 (1+(j:Int))∧Hid (∀ i,i<j→qF s n i)∧Only [] w1 wr) (fun i _=>kk+1-(intOf i).toNat)
  case atStart=>exact⟨0,Nat.zero_le _,rfl,fun i hi=>by omega,k2⟩
  case round=>
   obtain⟨j,hj,rfl,hok,aF⟩:=hrel
   have afy:=hkk.out.1
   have aeI:=hkk.out.2
   by_cases hlt:j<kk
   ·have hjy:1+(j:Int)≤y:=by have:=hy.out;omega
    have hbl:=fine.blk (k:=1+j) (by omega)
    have hr:=Kw.out wr aF (1+j) (by omega)
    rw [show ((1+j:Nat):Int)=1+(j:Int) by omega] at hr
    have a0:=fun W=>Fg W (bI s (1+j)) 0 (by omega) (by omega)
    have a4:=fun W=>Fg W (bI s (1+j)) 4 (by omega) (by omega)
    have l0:=jP (bI s (1+j)) 0
    have l4:=jP (bI s (1+j)) 4
    have BN:qF s n j↔(41≤jg (bI s (1+j)) 0∧jg (bI s (1+j)) 0<s.aA.length∧jg (bI s (1+j)) 4=n):=Iff.rfl
    have hnil:Hid (¬qF s n j→gK s n kk = []):=fun h=>by
     unfold gK
     exact if_neg (fun h'=>h (h'.2 j hlt))
    obtain⟨gf,cf,A,cl,c0,_⟩:=(hd.kept aF (by simp)).cells (by omega)
    generalize jg (bI s (1+j)) 0=m0 at *
    generalize jg (bI s (1+j)) 4=m4 at *
    generalize strOf (bI s (1+j))=bs at *
    obtain⟨x0,hx0⟩:∃ x:Int,x=(m0:Int):=⟨_,rfl⟩
    obtain⟨x4,hx4⟩:∃ x:Int,x=(m4:Int):=⟨_,rfl⟩
    rw [←hx0] at a0
    rw [←hx4] at a4
    have x00:0≤x0:=by omega
    have x01:x0<4294967296:=by omega
    have x40:0≤x4:=by omega
    have x41:x4<4294967296:=by omega
    have hjk:(j:Int)≤40:=by omega
    generalize hNN:s.aA.length=N at *
    replace hx0:=Lib.hid hx0
    replace hx4:=Lib.hid hx4
    replace l0:=Lib.hid l0
    replace l4:=Lib.hid l4
    replace hr:=Lib.hid hr
    replace a0:=Lib.hid a0
    replace a4:=Lib.hid a4
    replace BN:=Lib.hid BN
    replace hbl:=Lib.hid hbl
    replace fine:=Lib.hid fine
    replace hNN:=Lib.hid hNN
    go_wp2_with fail
    refine hr.out.mono ?_
    rintro e w3 ⟨rfl,rfl⟩
    go_wp2_with fail
    refine (a0.out _).mono ?_
    rintro e w4 ⟨rfl,k4⟩
    have d0:=k4.cell c0 (by simp)
    have k04:=aF.trans k4
    by_cases t1:x0<41
    ·have hno:Hid (gK s n kk = []):=hnil.out (fun h=>by have:=(BN.out.1 h).1;have:=hx0.out;omega)
     clear k4 c0
     go_wp2
     go_ret2
     exact⟨(hwi.out _).2 (.inr ⟨hno.out,rfl⟩),k04⟩
    by_cases t2:(N:Int)≤x0
    ·have hno:Hid (gK s n kk = []):=hnil.out (fun h=>by have:=(BN.out.1 h).2.1;have:=hx0.out;omega)
     clear k4 c0
     go_wp2
     go_ret2
     exact⟨(hwi.out _).2 (.inr ⟨hno.out,rfl⟩),k04⟩
    go_wp2_with fail
    refine (a4.out _).mono ?_
    rintro e w5 ⟨rfl,k5⟩
    go_wp2_with fail
    refine (h4.out _).mono ?_
    rintro e w6 ⟨rfl,k6⟩
    have k06:=(k04.trans k5).trans k6
    clear k4 k5 k6 c0 d0 k04
    by_cases t3:x4=z
    ·have hok2:Hid (∀ i,i<j+1→qF s n i):=fun i hi=>by
      by_cases hij:i=j
      ·subst hij
       exact BN.out.2 ⟨by have:=hx0.out;omega,by have:=hx0.out;omega,by have:=hx4.out;have:=hz.out;omega⟩
      ·exact hok.out i (by omega)
     have t3':(x4 != z)=false:=by simp [t3]
     replace t3:=Lib.hid t3
     clear hok
     go_wp2
     go_roundw
     case rel=>exact⟨j+1,by omega,by go_num,hok2,k06⟩
     case measure=>simp [intOf];omega
    ·have hno:Hid (gK s n kk = []):=hnil.out (fun h=>by have:=(BN.out.1 h).2.2;have:=hx4.out;have:=hz.out;omega)
     have t3':(x4 != z)=true:=by simpa using t3
     replace t3:=Lib.hid t3
     clear hok
     go_wp2
     go_ret2
     exact⟨(hwi.out _).2 (.inr ⟨hno.out,rfl⟩),k06⟩
   ·have hjk:j=kk:=by omega
    have hyes:Hid (gK s n kk≠[]):=by
     have hr:Fh s n kk:=⟨aeI,fun i hi=>hok.out i (by omega)⟩
     unfold gK
     rw [if_pos hr]
     exact (show dV s kk≠[] from fun h=>by
      have:=congrArg List.length h
      rw [iM] at this
      simp at this
      omega)
    have hge:¬ 1+(j:Int)≤y:=by have:=hy.out;omega
    have hyk:Hid (y=(kk:Int)):=hy.out
    clear hok hjk
    go_wp2
    go_ret2
    exact⟨(hwi.out _).2 (.inl ⟨hyes.out,by rw [←hyk.out];rfl⟩),aF⟩
 ·have hno:fA s = []:=by
   unfold fA
   rw [show kK (bI s 0)=0 by rw [kK,if_neg hm]]
   exact sO _ _
  have hne:((strOf ((bI s 0).take 4)).toList==pq)=false:=by
   rw [show (strOf ((bI s 0).take 4)).toList=(bI s 0).take 4 from ByteArray.toList_mk _,beq_eq_false_iff_ne]
   exact hm
  generalize strOf ((bI s 0).take 4)=X at *
  generalize strOf (bI s 0)=B at *
  unfold pq at hne
  replace hn0:=Lib.hid hn0
  replace hno:=Lib.hid hno
  clear fine hb0 Kw hm
  go_enter Tryz.func97,Tryz.ntmps97
  go_wp2_with fail
  refine hn0.out.mono ?_
  rintro e w1 ⟨rfl,rfl⟩
  go_wp2
  go_ret2
  exact⟨yK.no hno.out,Only.refl _ _⟩
end Go.Proofs.YtmelaiefbpdifaaGreatDoor
namespace Go.Proofs.YtmelaiefbpdifaaGreatDoor
open Go.RowKit
def jB(w:World)(lp p:Nat)(n:Nat)(f:Bool):Prop:=Blk w lp 187 #[.pointer (some ⟨p,0,none⟩),.int .u32 (n:Int),.bool f]
def jA(w w':World)(p:Nat)(G:List Nat)(s:St)(e:Ending):Prop:=
 ∃ G',Ref w' p G' (aJ s)∧Only G w w'∧Hid (∀ j∈G',(j∈G∨w.heap.size≤j)∧j<w'.heap.size) ∧
  ((aY s≠0∧e = .returned (.tuple #[.pointer none,.int .i64 (aY s)])) ∨
   (aY s=0∧∃ lp,e = .returned (.tuple #[.pointer (some ⟨lp,0,none⟩),.int .i64 0])∧jB w' lp p (fF s) false∧w.heap.size≤lp∧lp∉G'))
theorem jA.mono{w w':World}{p:Nat}{F G:List Nat}{s:St}{e:Ending}(h:jA w w' p F s e)(hG:∀ i∈F,i∈G):jA w w' p G s e:=by
 obtain⟨F',h1,h2,h3,h4⟩:=h
 exact⟨F',h1,h2.more (fun i hi=>.inl (hG i hi)),fun j hj=>⟨(h3.out j hj).1.imp (hG j) id,(h3.out j hj).2⟩,h4⟩
theorem Qx(s:St)(k:Int)(b:List UInt8)(i:Nat)(h:k.toNat≠i):bI (written s k b) i=bI s i:=by
 unfold written
 split
 ·rfl
 ·split
  ·unfold bI
   rw [dK,iC]
  ·unfold bI
   simp only [dK,lF]
   rw [if_neg h]
theorem xR{w w1 w':World}{p:Nat}{G:List Nat}{s:St}(k1:Only [] w w1)(hd:eF w1 w' p G (aJ s))(h:aY s=5):jA w w' p G s (.returned (.tuple #[.pointer none,.int .i64 5])):=by
 obtain⟨G',h1,h2,h3⟩:=hd
 refine⟨G',h1,(k1.more (T:=G) (by simp)).then h2 (fun i hi=>.inl hi),fun j hj=>⟨(h3 j hj).1.imp id (fun h=>Nat.le_trans k1.size h),(h3 j hj).2⟩,.inl ⟨by rw [h];decide,by rw [h]⟩⟩
theorem uN{w w1 w':World}{p lp:Nat}{G:List Nat}{s:St}(k1:Only [] w w1)(hd:eF w1 w' p G (aJ s))(h:aY s=0)(tu:jB w1 lp p (fF s) false)(hlp:w.heap.size≤lp)(hout:lp∉G):
  jA w w' p G s (.returned (.tuple #[.pointer (some ⟨lp,0,none⟩),.int .i64 0])):=by
 obtain⟨G',h1,h2,h3⟩:=hd
 refine⟨G',h1,(k1.more (T:=G) (by simp)).then h2 (fun i hi=>.inl hi),fun j hj=>⟨(h3 j hj).1.imp id (fun h=>Nat.le_trans k1.size h),(h3 j hj).2⟩,.inr ⟨h,lp,rfl,Blk.kept tu h2 hout,hlp,fun hm=> ?_⟩⟩
 rcases (h3 lp hm).1 with h' | h'
 ·exact hout h'
 ·have:=Blk.lt tu;omega
set_option maxRecDepth 100000 in
set_option maxHeartbeats 4000000 in
theorem RN(w:World)(p:Nat)(G:List Nat)(s:St)(bY:s.late.length+100≤1048576)(hd:Ref w p G s):
  Calls Tryz.prog 47 #[.pointer (some ⟨p,0,none⟩)] w fun e w'=>jA w w' p G s e:=by
 obtain⟨G0,hd0,hsub,hG0⟩:=hd.trim
 refine Calls.mono (R:=fun e w'=>jA w w' p G0 s e) ?_ (fun e w' h=>h.mono hsub)
 clear hd hsub G
 rename List Nat=>G
 rename Ref w p G s=>hd
 have fine:=hd.fine
 obtain⟨gf,cf,A,cl,c0,c1,c2,c3,_⟩:=hd.cells (by have:=fine.pos;omega)
 have hself:eF w w p G s:=iY.did ⟨hd,Only.refl G w⟩
 by_cases hA:s.aA.length≤41
 ·have e1:aY s=1:=by rw [aY,if_pos hA]
  have e2:aJ s=s:=by rw [aJ,if_pos hA]
  have hfin:jA w w p G s (.returned (.tuple #[.pointer none,.int .i64 1])):=by
   obtain⟨G',h1,h2,h3⟩:=hself
   exact⟨G',by rw [e2];exact h1,h2,fun j hj=>h3 j hj,.inl ⟨by rw [e1];decide,by rw [e1]⟩⟩
  replace hfin:=Lib.hid hfin
  have hA':(s.aA.length:Int)<42:=by omega
  clear e1 e2 hself hd fine hA
  generalize s.aA.length=N at *
  go_enter Tryz.func47,Tryz.ntmps47
  go_wp2
  go_ret2
  exact hfin.out
 have hA':¬(s.aA.length:Int)<42:=by omega
 by_cases hB:s.dead=true
 ·have e1:aY s=5:=by rw [aY,if_neg hA,if_pos hB]
  have e2:aJ s=s:=by rw [aJ,if_neg hA,if_pos hB]
  have hfin:jA w w p G s (.returned (.tuple #[.pointer none,.int .i64 5])):=xR (Only.refl _ _) (by rw [e2];exact hself) e1
  replace hfin:=Lib.hid hfin
  rw [hB] at c3
  clear e1 e2 hself hd fine hA hB
  generalize s.aA.length=N at *
  go_enter Tryz.func47,Tryz.ntmps47
  go_wp2
  go_ret2
  exact hfin.out
 have hB':s.dead=false:=by simpa using hB
 rw [hB'] at c3
 have adX:42≤s.aA.length:=by omega
 have hb0:=fine.blk (k:=0) (by omega)
 have Ze:=fun W (k:Only [] w W)=>F7 W p G s 0 (by omega) (by omega) (hd.kept k (by simp))
 have hcut:=gZ (P:=Tryz.prog) 9 Tryz.underlying9 (bI s 0) 4 4 .i64 rfl (by omega)
 have h4:=fun W=>Fg W (bI s 0) 4 (by omega) (by omega)
 have lt4:=jP (bI s 0) 4
 have hNn:fF s=if (bI s 0).take 4=pq then jg (bI s 0) 4 else 0:=rfl
 have hwhole:=fun W (k:Only [] w W)=>O1 W p G s adX (by omega) (hd.kept k (by simp))
 generalize hXX:strOf (bI s 0)=B at *
 have hXe:(bI s 0).take 4=pq→((strOf ((bI s 0).take 4)).toList==[76,67,79,77])=true:=fun h=>by
  rw [h,show (strOf pq).toList=pq from ByteArray.toList_mk _]
  rfl
 have hXn:¬(bI s 0).take 4=pq→((strOf ((bI s 0).take 4)).toList==[76,67,79,77])=false:=fun h=>by
  rw [show (strOf ((bI s 0).take 4)).toList=(bI s 0).take 4 from ByteArray.toList_mk _,beq_eq_false_iff_ne]
  exact h
 generalize strOf ((bI s 0).take 4)=X at *
 generalize hn4:jg (bI s 0) 4=n4 at *
 obtain⟨y,hy⟩:∃ y:Int,y=(n4:Int):=⟨_,rfl⟩
 have y0:0≤y:=by omega
 have y1:y<4294967296:=by omega
 rw [←hy] at h4
 replace hXX:=Lib.hid hXX
 replace hn4:=Lib.hid hn4
 replace hy:=Lib.hid hy
 replace lt4:=Lib.hid lt4
 replace hNn:=Lib.hid hNn
 replace hwhole:=Lib.hid hwhole
 replace Ze:=Lib.hid Ze
 replace h4:=Lib.hid h4
 replace hb0:=Lib.hid hb0
 replace fine:=Lib.hid fine
 replace hXe:=Lib.hid hXe
 replace hXn:=Lib.hid hXn
 have ka:Only [] w (w.alloc (.cells #[.pointer (some ⟨p,0,none⟩),.int .u32 0,.bool false] 187)):=(Only.refl [] w).alloc _
 have ba:Blk (w.alloc (.cells #[.pointer (some ⟨p,0,none⟩),.int .u32 0,.bool false] 187)) w.heap.size 187 #[.pointer (some ⟨p,0,none⟩),.int .u32 0,.bool false]:=Blk.new _ _ _
 obtain⟨lp,hlp⟩:∃ lp,lp=w.heap.size:=⟨_,rfl⟩
 rw [←hlp] at ba
 have aco:lp∉G:=fun hm=>by have:=hG0 lp hm;omega
 have JD:w.heap.size≤lp:=by omega
 go_enter Tryz.func47,Tryz.ntmps47
 go_wp2_with fail
 simp only [←hlp]
 generalize w.alloc (.cells #[.pointer (some ⟨p,0,none⟩),.int .u32 0,.bool false] 187)=W at *
 replace hlp:=Lib.hid hlp
 replace hG0:=Lib.hid hG0
 refine (Ze.out W ka).mono ?_
 rintro e w1 ⟨rfl,rfl⟩
 by_cases hm:(bI s 0).take 4=pq
 ·have hX:=hXe.out hm
  have hnn:fF s=n4:=by rw [hNn.out,if_pos hm]
  replace hm:=Lib.hid hm
  have f1:=ba.free 1
  have l1:=ba.cell 1
  simp only [List.getElem?_toArray,List.getElem?_cons_zero,List.getElem?_cons_succ] at l1
  go_wp2_with fail
  refine (h4.out _).mono ?_
  rintro e w2 ⟨rfl,k2⟩
  have ba2:=ba.kept k2 (by simp)
  have f1':=ba2.free 1
  have l1':=ba2.cell 1
  simp only [List.getElem?_toArray,List.getElem?_cons_zero,List.getElem?_cons_succ] at l1'
  have ks:Only [lp] w2 (w2.setCell ⟨lp,1,none⟩ (.int .u32 y)):=Only.set w2 [lp] (by simp) _
  have P7:jB (w2.setCell ⟨lp,1,none⟩ (.int .u32 y)) lp p (fF s) false:=by
   have:=Blk.set ba2 1 (.int .u32 y)
   rw [hnn]
   unfold jB
   rw [←hy.out]
   simpa using this
  have k03:Only [] w (w2.setCell ⟨lp,1,none⟩ (.int .u32 y)):=(ka.trans k2).then ks (by simp;exact JD)
  clear f1 l1 ba ba2 ks k2 ka
  go_wp2_with fail
  generalize w2.setCell ⟨lp,1,none⟩ (.int .u32 y)=w3 at *
  refine (hwhole.out _ k03).mono ?_
  rintro e w4 ⟨hwi,k4⟩
  have k04:=k03.trans k4
  have oO:jB w4 lp p (fF s) false:=Blk.kept P7 k4 (by simp)
  have hd4:=hd.kept k04 (by simp)
  have e1:aY s=if fA s = [] then 0 else (au s (fA s)).1:=by rw [aY,if_neg hA,if_neg hB]
  have e2:aJ s=if fA s = [] then s else (au s (fA s)).2:=by rw [aJ,if_neg hA,if_neg hB]
  clear k4 k03 P7 f1' l1'
  rcases hwi with⟨hne,rfl⟩ | ⟨hnil,rfl⟩
  ·rw [if_neg hne] at e1 e2
   have hlist:Fh s (iT (bI s 0)) (kK (bI s 0))∧fA s=dV s (kK (bI s 0)):=by
    unfold fA at hne ⊢
    unfold gK at hne ⊢
    by_cases hr:Fh s (iT (bI s 0)) (kK (bI s 0))
    ·rw [if_pos hr];exact⟨hr,rfl⟩
    ·rw [if_neg hr] at hne;exact absurd rfl hne
   obtain⟨ab6,hLL⟩:=hlist
   have hkk:=ab6.1
   have rD:=Lr fine.out adX
   generalize kK (bI s 0)=kk at *
   generalize iT (bI s 0)=nn at *
   have hlenL:(fA s).length=kk:=by rw [hLL,iM]
   have hget:∀ j,j<kk→(fA s)[j]?=some ⟨(jg (bI s (1+j)) 0:Nat),bI s (1+j)⟩:=fun j hj=>by
    simp [hLL,dV,hj]
   generalize fA s=L at *
   have afx:(kk:Int)≤40:=by omega
   replace ab6:=Lib.hid ab6
   replace hLL:=Lib.hid hLL
   replace rD:=Lib.hid rD
   replace hlenL:=Lib.hid hlenL
   replace hget:=Lib.hid hget
   replace e1:=Lib.hid e1
   replace e2:=Lib.hid e2
   replace hne:=Lib.hid hne
   replace oO:=Lib.hid oO
   go_wp2_with fail
   go_loopw [8] (fun i wr=>∃ (j:Nat) (sj:St) (Gj:List Nat),j≤kk∧i = .int .i64 (1+(j:Int))∧Hid (au s L=au sj (L.drop j))∧Hid (∀ i,i≤40→bI sj i=bI s i)∧sj.aA=s.aA∧sj.late.length≤s.late.length+j∧Ref wr p Gj sj∧Only G w4 wr∧Hid (∀ i∈Gj,(i∈G∨w4.heap.size≤i)∧i<wr.heap.size)) (fun i _=>kk+1-(intOf i).toNat)
   case atStart=>exact⟨0,s,G,Nat.zero_le _,rfl,by rw [List.drop_zero];exact rfl,fun i _=>rfl,rfl,by omega,hd4,Only.refl _ _,fun i hi=>⟨.inl hi,by have:=hG0.out i hi;have:=k04.size;omega⟩⟩
   case round=>
    obtain⟨j,sj,Gj,hj,rfl,hset,hsame,JE,Yq,hdj,aF,hGj⟩:=hrel
    by_cases hlt:j<kk
    ·have hjk:1+(j:Int)≤(kk:Int):=by omega
     have hr:=F7 wr p Gj sj (1+j) (by rw [JE];omega) (by omega) hdj
     rw [hsame.out (1+j) (by omega)] at hr
     rw [show ((1+j:Nat):Int)=1+(j:Int) by omega] at hr
     have hbl:=fine.out.blk (k:=1+j) (by omega)
     have a0:=fun W=>Fg W (bI s (1+j)) 0 (by omega) (by omega)
     have l0:=jP (bI s (1+j)) 0
     have hgj:L[j]'(by rw [hlenL.out];exact hlt)=⟨(jg (bI s (1+j)) 0:Nat),bI s (1+j)⟩:=by
      have h:=hget.out j hlt
      rw [List.getElem?_eq_getElem (by rw [hlenL.out];exact hlt)] at h
      injection h
     have hth:=rD.out (L[j]'(by rw [hlenL.out];exact hlt)) (List.getElem_mem _)
     rw [hgj] at hth
     have hdr:L.drop j=⟨(jg (bI s (1+j)) 0:Nat),bI s (1+j)⟩ :: L.drop (j+1):=by
      rw [List.drop_eq_getElem_cons (by rw [hlenL.out];exact hlt),hgj]
     have rE:au s L=if aI sj (jg (bI s (1+j)) 0:Nat) (bI s (1+j))=0 then au (written sj (jg (bI s (1+j)) 0:Nat) (bI s (1+j))) (L.drop (j+1)) else (aI sj (jg (bI s (1+j)) 0:Nat) (bI s (1+j)),written sj (jg (bI s (1+j)) 0:Nat) (bI s (1+j))):=by
      rw [hset.out,hdr,au]
     have herr:aI sj (jg (bI s (1+j)) 0:Nat) (bI s (1+j))=0∨aI sj (jg (bI s (1+j)) 0:Nat) (bI s (1+j))=5:=by
      rw [aI,JE]
      rw [if_neg (by
       have h1:=hth.1.1
       simp only at h1
       rw [h1,hbl]
       decide)]
      split
      ·exact .inr rfl
      ·exact .inl rfl
     have Uc:=iZ sj (jg (bI s (1+j)) 0:Nat) (bI s (1+j))
     have EG:=fH sj (jg (bI s (1+j)) 0:Nat) (bI s (1+j))
     generalize hBB:bI s (1+j)=BB at *
     generalize jg BB 0=m0 at *
     obtain⟨x0,hx0⟩:∃ x:Int,x=(m0:Int):=⟨_,rfl⟩
     rw [←hx0] at a0 rE herr Uc EG hth
     have x00:0≤x0:=by omega
     have x01:x0<4294967296:=by omega
     have hwr:=fun W (h:Ref W p Gj sj)=>sJ W p Gj sj x0 BB (by omega) (by omega) (by omega) h
     have ae5:41≤x0:=hth.2
     have hother:=fun i (hi:i≤40)=>Qx sj x0 BB i (by omega)
     generalize hbs:strOf BB=bs at *
     replace hbs:=Lib.hid hbs
     replace hBB:=Lib.hid hBB
     replace hx0:=Lib.hid hx0
     replace l0:=Lib.hid l0
     replace hr:=Lib.hid hr
     replace a0:=Lib.hid a0
     replace hwr:=Lib.hid hwr
     replace rE:=Lib.hid rE
     replace hother:=Lib.hid hother
     replace hth:=Lib.hid hth
     clear hgj
     replace hdr:=Lib.hid hdr
     replace hbl:=Lib.hid hbl
     have hjI:(j:Int)≤40:=by omega
     go_wp2_with fail
     refine hr.out.mono ?_
     rintro e w5 ⟨rfl,rfl⟩
     go_wp2_with fail
     refine (a0.out _).mono ?_
     rintro e w6 ⟨rfl,k6⟩
     go_wp2_with fail
     refine (hwr.out _ (hdj.kept k6 (by simp))).mono ?_
     rintro e w7 ⟨rfl,G7,hd7,k7,hG7⟩
     have k47:Only G w4 w7:=(aF.trans (k6.more (by simp))).then k7 (fun i hi=>(hGj.out i hi).1)
     have MG:Hid (∀ i∈G7,(i∈G∨w4.heap.size≤i)∧i<w7.heap.size):=fun i hi=>⟨by
      rcases (hG7 i hi).1 with h | h
      ·exact (hGj.out i h).1
      ·have:=aF.size;have:=k6.size;exact .inr (by omega),(hG7 i hi).2⟩
     clear hG7 k7 k6 hdj aF hGj
     rcases herr with herr | herr
     ·have dF:=rE.out
      rw [if_pos herr] at dF
      have TW:Hid (∀ i,i≤40→bI (written sj x0 BB) i=bI s i):=fun i hi=>by rw [hother.out i hi,hsame.out i hi]
      rw [herr]
      replace dF:=Lib.hid dF
      replace herr:=Lib.hid herr
      go_wp2
      go_roundw
      case rel=>exact⟨j+1,written sj x0 BB,G7,by omega,by go_num,dF,TW,by rw [EG];exact JE,by omega,hd7,k47,MG⟩
      case measure=>simp [intOf];omega
     ·have dF:=rE.out
      rw [if_neg (by rw [herr];decide),herr] at dF
      have hfin:jA w w7 p G s (.returned (.tuple #[.pointer none,.int .i64 5])):=xR k04 ⟨G7,by rw [e2.out,dF];exact hd7,k47,MG.out⟩ (by rw [e1.out,dF])
      rw [herr]
      replace dF:=Lib.hid dF
      replace herr:=Lib.hid herr
      replace hfin:=Lib.hid hfin
      go_wp2
      go_ret2
      exact hfin.out
    ·have hjk:j=kk:=by omega
     have dF:=hset.out
     rw [hjk,←hlenL.out,List.drop_of_length_le (Nat.le_refl _),au] at dF
     have hge:¬ 1+(j:Int)≤(kk:Int):=by omega
     replace dF:=Lib.hid dF
     clear hset hjk
     go_wp2_with fail
     refine (ny wr p Gj sj (by omega) hdj).mono ?_
     rintro e w7 ⟨rfl,hs7⟩
     have wS:eF w4 w7 p G (bD sj):=⟨Gj,hs7.1,aF.then hs7.2 (fun i hi=>(hGj.out i hi).1),fun i hi=>⟨(hGj.out i hi).1,Nat.lt_of_lt_of_le (hGj.out i hi).2 hs7.2.size⟩⟩
     clear hs7 hdj aF hGj
     by_cases hbe:dW sj=0
     ·have hfin:jA w w7 p G s (.returned (.tuple #[.pointer (some ⟨lp,0,none⟩),.int .i64 0])):=uN k04 (by rw [e2.out,dF.out];exact wS) (by rw [e1.out,dF.out];exact hbe) oO.out JD aco
      rw [hbe]
      replace hbe:=Lib.hid hbe
      replace hfin:=Lib.hid hfin
      clear wS
      go_wp2
      go_ret2
      exact hfin.out
     ·have hb5:dW sj=5:=by
       unfold dW at hbe ⊢
       split at hbe
       ·rename_i h;rw [if_pos h]
       ·exact absurd rfl hbe
      have hfin:jA w w7 p G s (.returned (.tuple #[.pointer none,.int .i64 5])):=xR k04 (by rw [e2.out,dF.out];exact wS) (by rw [e1.out,dF.out];exact hb5)
      rw [hb5]
      replace hbe:=Lib.hid hbe
      replace hb5:=Lib.hid hb5
      replace hfin:=Lib.hid hfin
      clear wS
      go_wp2
      go_ret2
      exact hfin.out
  ·rw [if_pos hnil] at e1 e2
   have hfin:jA w w4 p G s (.returned (.tuple #[.pointer (some ⟨lp,0,none⟩),.int .i64 0])):=uN k04 (by rw [e2];exact iY.did ⟨hd4,Only.refl G w4⟩) e1 oO JD aco
   replace hfin:=Lib.hid hfin
   replace hnil:=Lib.hid hnil
   replace e1:=Lib.hid e1
   replace e2:=Lib.hid e2
   clear hd4 oO
   go_wp2
   go_ret2
   exact hfin.out
 ·have hX:=hXn.out hm
  have hnn:fF s=0:=by rw [hNn.out,if_neg hm]
  have hnil:fA s = []:=by
   unfold fA
   rw [show kK (bI s 0)=0 by rw [kK,if_neg hm]]
   exact sO _ _
  have e1:aY s=0:=by rw [aY,if_neg hA,if_neg hB,if_pos hnil]
  have e2:aJ s=s:=by rw [aJ,if_neg hA,if_neg hB,if_pos hnil]
  replace hm:=Lib.hid hm
  go_wp2_with fail
  refine (hwhole.out _ ka).mono ?_
  rintro e w4 ⟨hwi,k4⟩
  have k04:=ka.trans k4
  have oO:jB w4 lp p (fF s) false:=by
   rw [hnn]
   exact Blk.kept ba k4 (by simp)
  rcases hwi with⟨hne,_⟩ | ⟨_,rfl⟩
  ·exact absurd hnil hne
  ·have hfin:jA w w4 p G s (.returned (.tuple #[.pointer (some ⟨lp,0,none⟩),.int .i64 0])):=uN k04 (by rw [e2];exact iY.did ⟨hd.kept k04 (by simp),Only.refl G w4⟩) e1 oO JD aco
   replace hfin:=Lib.hid hfin
   replace hnil:=Lib.hid hnil
   replace e1:=Lib.hid e1
   replace e2:=Lib.hid e2
   clear oO k4 ba
   go_wp2
   go_ret2
   exact hfin.out
end Go.Proofs.YtmelaiefbpdifaaGreatDoor
namespace Go.Proofs.YtmelaiefbpdifaaGreatDoor
open Go.RowKit
theorem jB.cells{w:World}{lp p n:Nat}{f:Bool}(h:jB w lp p n f):w.cell? ⟨lp,0,none⟩=some (.pointer (some ⟨p,0,none⟩))∧w.cell? ⟨lp,1,none⟩=some (.int .u32 (n:Int))∧w.cell? ⟨lp,2,none⟩=some (.bool f):=by
 have c0:=Blk.cell h 0
 have c1:=Blk.cell h 1
 have c2:=Blk.cell h 2
 simp only [List.getElem?_toArray,List.getElem?_cons_zero,List.getElem?_cons_succ] at c0 c1 c2
 exact⟨c0,c1,c2⟩
set_option maxRecDepth 100000 in
theorem Ph(w:World)(lp p n:Nat)(f:Bool)(G:List Nat)(s:St)(k:Int)(h:jB w lp p n f)(hd:Ref w p G s)(bY:s.late.length<1048576)(hN:42≤s.aA.length):
  Calls Tryz.prog 100 #[.pointer (some ⟨lp,0,none⟩),.int .i64 k] w fun e w'=>e = .returned (.tuple #[.string (strOf (iE s f k)),.int .i64 (dG s f k)])∧w'=w:=by
 obtain⟨l0,_,l2⟩:=h.cells
 obtain⟨gf,cf,A,cl,c0,_,_,c3,_⟩:=hd.cells (by omega)
 have hfew:=hd.fine.few
 have hwN:wrap64 ((s.aA.length:Int)-41)=(s.aA.length:Int)-41:=by simp only [wrap64];omega
 by_cases hk:gV s.aA.length k=false
 ·have e1:dG s f k=1:=by rw [dG,if_pos hk]
  have e2:iE s f k = []:=by rw [iE,if_pos hk]
  rw [e1,e2]
  have hkk:k<0∨(0≤k∧(s.aA.length:Int)-41≤k):=by
   simp only [gV,decide_eq_false_iff_not] at hk
   omega
  clear e1 e2 hk h hd hfew bY hN
  generalize s.aA.length=N at *
  rcases hkk with hk | ⟨hk,hk2⟩
  ·go_enter Tryz.func100,Tryz.ntmps100
   go_wp2
   go_ret2
   exact⟨rfl,rfl⟩
  ·have hk':¬k<0:=by omega
   go_enter Tryz.func100,Tryz.ntmps100
   go_wp2
   go_ret2
   exact⟨rfl,rfl⟩
 ·have hk1:gV s.aA.length k=true:=by simpa using hk
  have hkk:0≤k∧k<(s.aA.length:Int)-41:=by simpa [gV] using hk1
  obtain⟨k,rfl⟩:=Int.eq_ofNat_of_zero_le hkk.1
  have hk2:¬(s.aA.length:Int)-41≤(k:Int):=by omega
  have hk3:¬(k:Int)<0:=by omega
  cases hf:f with
  | true=>
   have e1:dG s true (k:Int)=5:=by rw [dG,if_neg hk,if_pos rfl]
   have e2:iE s true (k:Int) = []:=by rw [iE,if_neg hk,if_pos rfl]
   rw [e1,e2]
   rw [hf] at l2
   clear e1 e2 hk h hd hfew bY hN hk1 hkk
   generalize s.aA.length=N at *
   go_enter Tryz.func100,Tryz.ntmps100
   go_wp2
   go_ret2
   exact⟨rfl,rfl⟩
  | false=>
   rw [hf] at l2
   cases fG:s.dead with
   | true=>
    have e1:dG s false (k:Int)=5:=by rw [dG,if_neg hk,if_neg (by decide),if_pos fG]
    have e2:iE s false (k:Int) = []:=by rw [iE,if_neg hk,if_neg (by decide),if_pos fG]
    rw [e1,e2]
    rw [fG] at c3
    clear e1 e2 hk h hd hfew bY hN hk1 hkk
    generalize s.aA.length=N at *
    go_enter Tryz.func100,Tryz.ntmps100
    go_wp2
    go_ret2
    exact⟨rfl,rfl⟩
   | false=>
    have e1:dG s false (k:Int)=0:=by rw [dG,if_neg hk,if_neg (by decide),if_neg (by rw [fG];decide)]
    have e2:iE s false (k:Int)=(bI s (41+k)).drop 8:=by rw [iE,if_neg hk,if_neg (by decide),if_neg (by rw [fG];decide)];rfl
    rw [fG] at c3
    have hl:=hd.fine.blk (k:=41+k) (by omega)
    have Kw:=F7 w p G s (41+k) (by omega) bY hd
    rw [show ((41+k:Nat):Int)=41+(k:Int) by omega] at Kw
    have hw:wrap64 (41+(k:Int))=41+(k:Int):=by simp only [wrap64];omega
    rw [e1,e2]
    have hcut:=iy (P:=Tryz.prog) 9 Tryz.underlying9 (bI s (41+k)) 8 8 .i64 rfl (by omega)
    generalize strOf ((bI s (41+k)).drop 8)=y at *
    generalize strOf (bI s (41+k))=x at *
    clear e1 e2 hk h hd hfew bY hN hk1 hkk hl
    generalize s.aA.length=N at *
    go_enter Tryz.func100,Tryz.ntmps100
    go_wp2_with fail
    refine Kw.mono ?_
    rintro e w1 ⟨rfl,rfl⟩
    go_wp2
    go_ret2
    exact⟨rfl,rfl⟩
end Go.Proofs.YtmelaiefbpdifaaGreatDoor
