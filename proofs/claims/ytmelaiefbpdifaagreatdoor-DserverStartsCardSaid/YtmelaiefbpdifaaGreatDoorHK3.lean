/- Joined: Rlog4, Rlog5, Fr5, Ps5 -/
import Derived.Test.YtmelaiefbpdifaaGreatDoorHK2
import Derived.Test.YtmelaiefbpdifaaGreatDoorHGb
import Derived.IntWalk
import Derived.Test.YtmelaiefbpdifaaGreatDoorHK0
namespace Go.Proofs.YtmelaiefbpdifaaGreatDoor
open Go.RowKit
def YB(n:Nat)(i:Nat)(x:Bk):Bk:=⟨(1+i:Nat),jo n x⟩
theorem CG(n:Nat)(l:List Bk)(j:Nat)(h:j<l.length):(aB (homesOf n l)).drop j=YB n j l[j] :: (aB (homesOf n l)).drop (j+1):=by
 have hl:j<(aB (homesOf n l)).length:=by rw [gW,dM];exact h
 rw [List.drop_eq_getElem_cons hl]
 congr 1
 simp [aB,homesOf,YB]
theorem EF(n:Nat)(l:List Bk)(j:Nat)(h:j<l.length):(homesOf n l).drop j=⟨41+l[j].at_,jo n l[j]⟩ :: (homesOf n l).drop (j+1):=by
 have hl:j<(homesOf n l).length:=by rw [dM];exact h
 rw [List.drop_eq_getElem_cons hl]
 congr 1
 simp [homesOf]
def jZ(n:Nat)(l:List Bk):List (List UInt8):=l.map fun x=>jo n x
theorem Dx(n:Nat)(l:List Bk)(k:Nat)(h:k<l.length):jZ n (l.take (k+1))=jZ n (l.take k)++[jo n l[k]]:=by
 rw [List.take_succ_eq_append_getElem h,jZ,List.map_append]
 rfl
theorem eF.trans'{w w1 w2:World}{p:Nat}{G G1:List Nat}{t:St}(h:Only G w w1)(hG1:Hid (∀ i∈G1,(i∈G∨w.heap.size≤i)∧i<w1.heap.size))(k:eF w1 w2 p G1 t):eF w w2 p G t:=by
 obtain⟨G2,h1,h2,h3⟩:=k
 refine⟨G2,h1,h.then h2 (fun i hi=>(hG1.out i hi).1),fun j hj=>⟨?_,(h3 j hj).2⟩⟩
 rcases (h3 j hj).1 with h' | h'
 ·exact (hG1.out j h').1
 ·exact .inr (Nat.le_trans h.size h')
set_option maxRecDepth 100000 in
set_option maxHeartbeats 4000000 in
theorem O7(w:World)(lp p n:Nat)(G:List Nat)(s:St)(A:Option Addr)(c:Nat)(l:List Bk)(hn:n+1<4294967296)(h:jB w lp p n false)(hd:Ref w p G s)(hlp:lp∉G)(hb:Fq w A l)(hA:∀ a,A=some a→a.block∉G)(hr:dn l ((s.aA.length:Int)-41))(bY:s.late.length+200≤1048576):
  Calls Tryz.prog 154 #[.pointer (some ⟨lp,0,none⟩),.slice A l.length c] w fun e w'=>e = .returned (.bool (decide ((aH s n l).1=0)))∧eF w w' p G (aH s n l).2:=by
 obtain⟨G0,hd0,hsub,hG0⟩:=hd.trim
 refine Calls.mono (R:=fun e w'=>e = .returned (.bool (decide ((aH s n l).1=0)))∧eF w w' p G0 (aH s n l).2) ?_ (fun e w' h=>⟨h.1,h.2.mono hsub⟩)
 have zU:lp∉G0:=fun hm=>hlp (hsub _ hm)
 have hA0:∀ a,A=some a→a.block∉G0:=fun a ha hm=>hA a ha (hsub _ hm)
 clear hd hlp hA hsub G
 rename List Nat=>G
 rename Ref w p G s=>hd
 obtain⟨l0,l1,_⟩:=h.cells
 have hall:=lQ hr
 have hN:=lq hr
 have hl1:=hr.1
 have Yt:=hr.2.1
 have JD:=Blk.lt h
 obtain⟨z,hz⟩:∃ z:Int,z=(n:Int):=⟨_,rfl⟩
 rw [←hz] at l1
 have hz0:0≤z:=by omega
 have hz1:z<4294967295:=by omega
 have hzz:IntKind.u32.wrap (z+1)=z+1:=by rw [IntKind.wrap_u32];omega
 have hz2:z+1=((n+1:Nat):Int):=by omega
 have hnum:=fun W=>iW W (z+1) (n+1) hz2 hn
 have Zu:(aB (homesOf (n+1) l)).length=l.length:=by rw [gW,dM]
 have Zk:=dM (n+1) l
 have rD:=qQ (n:=n+1) hr
 have LY:=uG (n:=n+1) hr
 obtain⟨ti,ht1,ht2,ht3,ht4⟩:=info_parts wR
 replace ht1:=Lib.hid ht1
 replace ht2:=Lib.hid ht2
 replace ht3:=Lib.hid ht3
 replace ht4:=Lib.hid ht4
 have hll:(l.length:Int)≤40:=by omega
 replace hn:=Lib.hid hn
 replace hz:=Lib.hid hz
 replace hz2:=Lib.hid hz2
 replace hnum:=Lib.hid hnum
 replace hall:=Lib.hid hall
 replace hr:=Lib.hid hr
 replace Zu:=Lib.hid Zu
 replace Zk:=Lib.hid Zk
 replace rD:=Lib.hid rD
 replace LY:=Lib.hid LY
 replace hG0:=Lib.hid hG0
 replace hA0:=Lib.hid hA0
 go_enter Tryz.func154,Tryz.ntmps154
 go_wp2_with fail
 go_loopw [6,7] (fun v i wr=>∃ (j:Nat) (sj:St) (Gj:List Nat) (vf:Value),j≤l.length∧i = .int .i64 (j:Int)∧vf=v∧Hid (au s (aB (homesOf (n+1) l))=au sj ((aB (homesOf (n+1) l)).drop j))∧sj.aA=s.aA∧sj.late.length≤s.late.length+j∧Ref wr p Gj sj∧Only G w wr∧Hid (∀ i∈Gj,(i∈G∨w.heap.size≤i)∧i<wr.heap.size)∧wr.ownsRow 0 9 1 vf j (strCells (jZ (n+1) (l.take j)))∧Hid (∀ g,vf.ownBlock=some g→w.heap.size≤g∧g∉Gj)) (fun _ i _=>l.length-(intOf i).toNat)
 case atStart=>exact⟨0,s,G,_,Nat.zero_le _,rfl,rfl,by rw [List.drop_zero];exact rfl,rfl,by omega,hd,Only.refl _ _,fun i hi=>⟨.inl hi,hG0.out i hi⟩,World.ownsRow_nil _ 0 _ 1,fun g hg=>by simp [Value.ownBlock] at hg⟩
 case round=>
  obtain⟨j,sj,Gj,vf,hj,rfl,hvf,hset,JE,Yq,hdj,aF,hGj,hown,hnew⟩:=hrel
  subst hvf
  by_cases hlt:j<l.length
  ·obtain⟨g,o,rfl,hg,hat⟩:=hb.get hlt
   have hgG:g∉G:=hA0.out _ rfl
   have c0:=aF.cell (hat j hlt).1 hgG
   have c1:=aF.cell (hat j hlt).2 hgG
   have hx:=hall.out l[j] (List.getElem_mem hlt)
   have hth:There s.aA.length ⟨((1+j:Nat):Int),jo (n+1) l[j]⟩:=rD.out _ (by
    have h1:=CG (n+1) l j hlt
    exact List.mem_of_mem_drop (h1 ▸ List.mem_cons_self))
   have rE:au s (aB (homesOf (n+1) l))=if aI sj ((1+j:Nat):Int) (jo (n+1) l[j])=0 then au (written sj ((1+j:Nat):Int) (jo (n+1) l[j])) ((aB (homesOf (n+1) l)).drop (j+1)) else (aI sj ((1+j:Nat):Int) (jo (n+1) l[j]),written sj ((1+j:Nat):Int) (jo (n+1) l[j])):=by
    rw [hset.out,CG (n+1) l j hlt,au]
    rfl
   have hcp:=Dx (n+1) l j hlt
   have hhl:(jo (n+1) l[j]).length=256:=nJ _ _ hx.2
   have Gw:jo (n+1) l[j]=oQ (be4 (41+l[j].at_.toNat)++be4 (n+1)++l[j].data):=rfl
   generalize l[j]=x at *
   obtain⟨at_,data⟩:=x
   simp only at c0 c1 hx Gw
   obtain⟨⟨x0,x1⟩,x2⟩:=hx
   obtain⟨a,rfl⟩:=Int.eq_ofNat_of_zero_le x0
   rw [Int.toNat_natCast] at Gw
   have hfew:=hdj.fine.few
   have haI:(a:Int)≤1048576:=by rw [JE] at hfew;omega
   have Zd:=fun W=>iW W (41+(a:Int)) (41+a) (by omega) (by omega)
   have hfil:=fun W=>Oj W (be4 (41+a)++be4 (n+1)++data) (by simp [aU];omega)
   rw [←Gw] at hfil
   obtain⟨HL,hHL⟩:∃ HL,HL=jo (n+1) ⟨(a:Int),data⟩:=⟨_,rfl⟩
   rw [←hHL] at rE hth hcp hhl Gw hfil
   replace hHL:=Lib.hid hHL
   generalize hbs:strOf data=bs at *
   have hlen1:(be4 (41+a)++be4 (n+1)).length=8:=rfl
   generalize Zz:be4 (41+a)++be4 (n+1)=a8 at *
   generalize hH:strOf HL=H at *
   replace hH:=Lib.hid hH
   replace hbs:=Lib.hid hbs
   replace Zz:=Lib.hid Zz
   replace hlen1:=Lib.hid hlen1
   replace Zd:=Lib.hid Zd
   replace hfil:=Lib.hid hfil
   replace hcp:=Lib.hid hcp
   replace rE:=Lib.hid rE
   replace hth:=Lib.hid hth
   replace Gw:=Lib.hid Gw
   replace hhl:=Lib.hid hhl
   replace hset:=Lib.hid hset
   have aaB:IntKind.i64.wrap (41+(a:Int))=41+(a:Int):=by rw [IntKind.wrap_i64];omega
   have aed:IntKind.u32.wrap (41+(a:Int))=41+(a:Int):=by clear aaB;rw [IntKind.wrap_u32];omega
   have kd:Only [] wr wr.drew:=(Only.refl [] wr).drew
   have c0d:=kd.cell c0 (by simp)
   have c1d:=kd.cell c1 (by simp)
   go_wp2_with fail
   refine wp_region_held_drew (S:=fun w'=>w'.cell? ⟨g,o+j*2,none⟩=some (.int .i64 (a:Int))∧w'.cell? ⟨g,o+j*2+1,none⟩=some (.string bs)) (by kernel_rfl) ⟨c0d,c1d⟩ (fun hHeld=> ?_)
   refine rwT 0 (.slice (some ⟨g,o,none⟩) l.length c) hHeld ?_;simp only [rwA]
   refine rwT 1 (.int .i64 (j:Int)) hHeld ?_;simp only [rwA]
   refine rwT 2 (.pointer (some ⟨g,o+j*2,none⟩)) hHeld ?_;simp only [rwA]
   refine rwT 3 (.pointer (some ⟨g,o+j*2,none⟩)) hHeld ?_;simp only [rwA]
   refine rwT 4 (.int .i64 (a:Int)) hHeld ?_;simp only [rwA]
   refine rwT 5 (.int .i64 (41+(a:Int))) hHeld ?_;simp only [rwA]
   refine rwT 6 (.int .u32 (41+(a:Int))) hHeld ?_;simp only [rwA]
   clear aaB aed
   refine rwT 8 (.int .u32 (z+1)) hHeld ?_;simp only [rwA]
   refine rwT 11 (.slice (some ⟨g,o,none⟩) l.length c) hHeld ?_;simp only [rwA]
   refine rwT 12 (.int .i64 (j:Int)) hHeld ?_;simp only [rwA]
   refine rwT 13 (.pointer (some ⟨g,o+j*2,none⟩)) hHeld ?_;simp only [rwA]
   refine rwT 14 (.pointer (some ⟨g,o+j*2+1,none⟩)) hHeld ?_;simp only [rwA]
   refine rwT 15 (.string bs) hHeld ?_;simp only [rwA]
   refine ah 7 rfl (by kernel_rfl) (fun K hK=> ?_)
   go_simp
   go_at_call 52
   refine (Zd.out _).mono ?_
   rintro e w3 ⟨rfl,k3⟩
   go_wp2_with fail
   refine hK.out _ _ ⟨k3.cell c0d (by simp),k3.cell c1d (by simp)⟩ (fun hHeld=> ?_)
   clear hK K
   refine ah 9 rfl (by kernel_rfl) (fun K hK=> ?_)
   go_simp
   go_at_call 52
   refine (hnum.out _).mono ?_
   rintro e w4 ⟨rfl,k4⟩
   have k34:=k3.trans k4
   go_wp2_with fail
   refine hK.out _ _ ⟨k34.cell c0d (by simp),k34.cell c1d (by simp)⟩ (fun hHeld=> ?_)
   clear hK K
   refine rwY 10 (.string (strOf a8)) hHeld ?_ (hy:=Or.inl ⟨by rfl,fun w' hSw=>Zz.out ▸ lZ 9 9 (.tmp 28) (.tmp 30) rfl (be4 (41+a)) (be4 (n+1)) rfl rfl (by simp [aU]) w'⟩);simp only [rwA]
   refine rwY 16 (.string (strOf (a8++data))) hHeld ?_ (hy:=Or.inl ⟨by rfl,fun w' hSw=>lZ 9 9 (.tmp 31) (.tmp 36) rfl a8 data rfl (congrArg Value.string hbs.out.symm) (by have:=hlen1.out;omega) w'⟩);simp only [rwA]
   refine ah 17 rfl (by kernel_rfl) (fun K hK=> ?_)
   go_simp
   go_at_call 200
   refine (hfil.out _).mono ?_
   rintro e w5 ⟨rfl,rfl⟩
   go_wp2_with fail
   refine hK.out _ _ ⟨k34.cell c0d (by simp),k34.cell c1d (by simp)⟩ (fun hHeld=> ?_)
   clear hK K
   refine rwT 18 (.string H) hHeld ?_;simp only [rwA]
   refine wpAnyH_done (by kernel_rfl) ?_ _
   clear hHeld
   have k05:=kd.trans k34
   have ac6:=ay hown k05 (by simp)
   have hd5:=hdj.kept k05 (by simp)
   have adx:=aF.trans (k05.more (by simp))
   have hG5:Hid (∀ i∈Gj,(i∈G∨w.heap.size≤i)∧i<w5.heap.size):=fun i hi=>⟨(hGj.out i hi).1,Nat.lt_of_lt_of_le (hGj.out i hi).2 k05.size⟩
   have ae6:=aF.size
   have news:=World.news_of_block (Blk.new w5 9 #[.string H])
   have ka:Only [] w5 (w5.alloc (.cells #[.string H] 9)):=(Only.refl [] w5).alloc _
   have zJ:=ay ac6 ka (by simp)
   have hone:∀ u∈[Value.string H],u.oneCell'=true:=by
    intro u hu
    simp at hu
    subst hu
    rfl
   clear hown hdj aF hGj c0 c1 c0d c1d k3 k4 k34 kd
   go_wp2_with (at_builtin;go_must (refine wpList_append_lies _ rfl (.tmp 39) (.tmp 41) 35 rfl 0 9 ti (.string ⟨#[]⟩) 1 16 Tryz.underlying35 ht1.out ht2.out ht3.out ht4.out rfl (by decide) vf j _ rfl zJ ⟨w5.heap.size,0,none⟩ 1 1 [.string H] rfl rfl news hone (by decide) (by unfold maxLen;omega) (by omega) (Nat.zero_le _) _ rfl ?go))
   case go=>
    intro g6 cp w6 hown6 hgrow aa0 aeA
    have k56:Only vf.ownBlock.toList w5 w6:=(ka.more (T:=vf.ownBlock.toList) (by simp)).grown hgrow (fun q hq=>.inl (by simp [hq]))
    have hd6:=hd5.kept k56 (fun i hi hm=>(hnew.out i (by simpa using hm)).2 hi)
    have hg6:w.heap.size≤g6∧g6∉Gj:=by
     rcases aa0 with h' | h'
     ·exact hnew.out g6 h'
     ·have:=k05.size
      refine⟨by omega,fun hm=> ?_⟩
      have:=(hG5.out g6 hm).2
      omega
    have abv:Only G w w6:=adx.then k56 (fun i hi=>.inr (hnew.out i (by simpa using hi)).1)
    have Dw:w6.ownsRow 0 9 1 (.slice (some ⟨g6,0,none⟩) (j+1) cp) (j+1) (strCells (jZ (n+1) (l.take (j+1)))):=by
     rw [hcp.out,vT,hH.out]
     exact hown6
    have hwr:=sJ w6 p Gj sj (1+(j:Int)) HL (by omega) (by omega) (by omega) hd6
    have Uc:=iZ sj (1+(j:Int)) HL
    have EG:=fH sj (1+(j:Int)) HL
    have W9:au s (aB (homesOf (n+1) l))=if aI sj (1+(j:Int)) HL=0 then au (written sj (1+(j:Int)) HL) ((aB (homesOf (n+1) l)).drop (j+1)) else (aI sj (1+(j:Int)) HL,written sj (1+(j:Int)) HL):=by
     have e:((1+j:Nat):Int)=1+(j:Int):=by omega
     have h':=rE.out
     rw [e] at h'
     exact h'
    have herr:aI sj (1+(j:Int)) HL=0∨aI sj (1+(j:Int)) HL=5:=by
     rw [aI,JE]
     rw [if_neg (by
      have h1:=hth.out.1
      have e:((1+j:Nat):Int)=1+(j:Int):=by omega
      simp only [e] at h1
      rw [h1,hhl.out]
      decide)]
     split
     ·exact .inr rfl
     ·exact .inl rfl
    have acS:Hid (∀ i∈Gj,(i∈G∨w.heap.size≤i)∧i<w6.heap.size):=fun i hi=>⟨(hG5.out i hi).1,Nat.lt_of_lt_of_le (hG5.out i hi).2 k56.size⟩
    rw [←hH.out] at hown6 news zJ
    clear hown6 hgrow aa0 zJ news ka ac6 hd5 adx hG5 k05 k56 hd6
    rw [hH.out] at hwr
    replace hwr:=Lib.hid hwr
    replace Dw:=Lib.hid Dw
    replace W9:=Lib.hid W9
    have hjI:(j:Int)≤40:=by omega
    have l06:=abv.cell l0 zU
    go_wp2_with fail
    refine hwr.out.mono ?_
    rintro e w7 ⟨rfl,G7,hd7,k7,hG7⟩
    have Xf:Only G w w7:=abv.then k7 (fun i hi=>(acS.out i hi).1)
    have MG:Hid (∀ i∈G7,(i∈G∨w.heap.size≤i)∧i<w7.heap.size):=fun i hi=>⟨by
     rcases (hG7 i hi).1 with h' | h'
     ·exact (acS.out i h').1
     ·have:=abv.size;exact .inr (by omega),(hG7 i hi).2⟩
    have Xe:=ay Dw.out k7 (fun q hq=>by simp only [Value.ownBlock,Option.some.injEq] at hq;subst hq;exact hg6.2)
    have acg:Hid (∀ q,(Value.slice (some ⟨g6,0,none⟩) (j+1) cp).ownBlock=some q→w.heap.size≤q∧q∉G7):=fun q hq=>by
     simp only [Value.ownBlock,Option.some.injEq] at hq
     subst hq
     refine⟨hg6.1,fun hm=> ?_⟩
     rcases (hG7 _ hm).1 with h' | h'
     ·exact hg6.2 h'
     ·omega
    clear hG7 k7 abv Dw acS
    rcases herr with herr | herr
    ·have dF:=W9.out
     rw [if_pos herr] at dF
     rw [herr]
     replace dF:=Lib.hid dF
     replace herr:=Lib.hid herr
     replace Xe:=Lib.hid Xe
     go_wp2
     go_roundw
     case rel=>exact⟨j+1,written sj (1+(j:Int)) HL,G7,_,by omega,by go_num,rfl,dF,by rw [EG];exact JE,by omega,hd7,Xf,MG,Xe.out,acg⟩
     case measure=>simp [intOf];omega
    ·have dF:=W9.out
     rw [if_neg (by rw [herr];decide),herr] at dF
     have hcw:aH s n l=(5,written sj (1+(j:Int)) HL):=CS dF (by decide)
     have hfin:eF w w7 p G (aH s n l).2:=by
      rw [hcw]
      exact⟨G7,hd7,Xf,MG.out⟩
     have hbo:decide ((aH s n l).1=0)=false:=by rw [hcw];rfl
     rw [herr]
     replace dF:=Lib.hid dF
     replace herr:=Lib.hid herr
     replace hfin:=Lib.hid hfin
     replace hcw:=Lib.hid hcw
     replace hbo:=Lib.hid hbo
     clear Xe
     go_wp2
     go_ret
     exact⟨by rw [hbo.out];rfl,hfin.out⟩
  ·have hjl:j=l.length:=by omega
   have dF:=hset.out
   rw [hjl,←Zu.out,List.drop_of_length_le (Nat.le_refl _),au] at dF
   rw [hjl,List.take_of_length_le (Nat.le_refl _)] at hown
   have hge:(l.length:Int)≤(j:Int):=by omega
   have acv:sj.late.length≤s.late.length+40:=by omega
   have l0r:=aF.cell l0 zU
   have kd:Only [] wr wr.drew:=(Only.refl [] wr).drew
   have l0d:=kd.cell l0r (by simp)
   have hbar:=ny wr.drew p Gj sj (by omega) (hdj.kept kd (by simp))
   have abz:lp∉Gj:=fun hm=>by
    rcases (hGj.out lp hm).1 with h' | h'
    ·exact zU h'
    ·omega
   clear hset Yq hjl
   replace dF:=Lib.hid dF
   replace hbar:=Lib.hid hbar
   by_cases hb1:dW sj=0
   ·replace dF:=dF.out
    replace hbar:=hbar.out
    have BO:iY wr.drew wr.drew p Gj sj:=⟨hdj.kept kd (by simp),Only.refl _ _⟩
    clear BO
    have hul:IntKind.u32.wrap (l.length:Int)=(l.length:Int):=by rw [IntKind.wrap_u32];omega
    have Yr:(bD sj).late.length≤s.late.length+40:=by have:=vH sj;omega
    have Yv:(bD sj).aA.length=s.aA.length:=by rw [mM,JE]
    have Zc:=fun W=>iW W (l.length:Int) l.length rfl (by omega)
    have Xm:=fun W=>Oj W (pq++be4 (n+1)++be4 l.length) (by simp [pq,aU])
    have hMM:dY (n+1) l.length=oQ (pq++be4 (n+1)++be4 l.length):=by rw [dY,List.append_assoc]
    rw [←hMM] at Xm
    have hml:=nH (n+1) l.length
    have uY:aI (bD sj) 0 (dY (n+1) l.length)=0∨aI (bD sj) 0 (dY (n+1) l.length)=5:=by
     rw [aI,Yv]
     rw [if_neg (by
      have:bF s.aA.length 0=true:=by simp only [bF,decide_eq_true_eq];omega
      rw [this,hml]
      decide)]
     split
     ·exact .inr rfl
     ·exact .inl rfl
    have WZ:au (bD sj) [⟨0,dY (n+1) l.length⟩]=if aI (bD sj) 0 (dY (n+1) l.length)=0 then (dW (written (bD sj) 0 (dY (n+1) l.length)),bD (written (bD sj) 0 (dY (n+1) l.length))) else (aI (bD sj) 0 (dY (n+1) l.length),written (bD sj) 0 (dY (n+1) l.length)):=rfl
    have rG:(written (bD sj) 0 (dY (n+1) l.length)).late.length≤s.late.length+41:=by have:=iZ (bD sj) 0 (dY (n+1) l.length);omega
    have Yu:(written (bD sj) 0 (dY (n+1) l.length)).aA.length=s.aA.length:=by rw [fH];exact Yv
    rw [hb1] at dF
    have dF:=dF
    generalize hML:dY (n+1) l.length=ML at *
    generalize hMs:strOf ML=MS at *
    have abo:=fun W Gx (h':Ref W p Gx (bD sj))=>sJ W p Gx (bD sj) 0 ML (by decide) (by decide) (by omega) h'
    rw [hMs] at abo
    rw [hb1] at hbar
    replace Zc:=Lib.hid Zc
    replace Xm:=Lib.hid Xm
    replace abo:=Lib.hid abo
    replace WZ:=Lib.hid WZ
    replace hMM:=Lib.hid hMM
    replace hML:=Lib.hid hML
    replace hMs:=Lib.hid hMs
    replace hb1:=Lib.hid hb1
    replace dF:=Lib.hid dF
    replace hbar:=Lib.hid hbar
    go_wp2_with fail
    refine wp_region_held_drew (S:=fun w'=>w'.cell? ⟨lp,0,none⟩=some (.pointer (some ⟨p,0,none⟩))) (by kernel_rfl) l0d (fun hHeld=> ?_)
    refine rwT 0 (.pointer (some ⟨lp,0,none⟩)) hHeld ?_;simp only [rwA]
    refine rwT 1 (.pointer (some ⟨lp,0,none⟩)) hHeld ?_;simp only [rwA]
    refine rwT 2 (.pointer (some ⟨lp,0,none⟩)) hHeld ?_;simp only [rwA]
    refine rwT 3 (.pointer (some ⟨p,0,none⟩)) hHeld ?_;simp only [rwA]
    refine ah 4 rfl (by kernel_rfl) (fun K hK=> ?_)
    go_simp
    go_at_call 99
    refine hbar.out.mono ?_
    rintro e w3 ⟨rfl,hs3⟩
    go_wp2_with fail
    refine hK.out _ _ (hs3.2.cell l0d abz) (fun hHeld=> ?_)
    clear hK K
    have l03:=hs3.2.cell l0d abz
    refine rwT 5 (.bool false) hHeld ?_;simp only [rwA]
    refine rwT 6 (.bool false) hHeld ?_;simp only [rwA]
    refine rwT 7 (.pointer (some ⟨lp,0,none⟩)) hHeld ?_;simp only [rwA]
    refine rwT 8 (.pointer (some ⟨lp,0,none⟩)) hHeld ?_;simp only [rwA]
    refine rwT 9 (.pointer (some ⟨lp,0,none⟩)) hHeld ?_;simp only [rwA]
    refine rwT 10 (.pointer (some ⟨p,0,none⟩)) hHeld ?_;simp only [rwA]
    refine rwT 11 (.int .u32 (z+1)) hHeld ?_;simp only [rwA]
    refine rwT 14 (.slice A l.length c) hHeld ?_;simp only [rwA]
    refine rwT 15 (.int .i64 (l.length:Int)) hHeld ?_;simp only [rwA]
    refine rwT 16 (.int .u32 (l.length:Int)) hHeld ?_;simp only [rwA]
    refine ah 12 rfl (by kernel_rfl) (fun K hK=> ?_)
    go_simp
    go_at_call 52
    refine (hnum.out _).mono ?_
    rintro e w4 ⟨rfl,k4⟩
    go_wp2_with fail
    refine hK.out _ _ (k4.cell l03 (by simp)) (fun hHeld=> ?_)
    clear hK K
    refine rwY 13 (.string (strOf (pq++be4 (n+1)))) hHeld ?_ (hy:=Or.inl ⟨by rfl,fun w' hSw=>lZ 9 9 (.const (.string ⟨#[76,67,79,77]⟩)) (.tmp 64) rfl pq (be4 (n+1)) rfl rfl (by simp [pq,aU]) w'⟩);simp only [rwA]
    refine ah 17 rfl (by kernel_rfl) (fun K hK=> ?_)
    go_simp
    go_at_call 52
    refine (Zc.out _).mono ?_
    rintro e w5 ⟨rfl,k5⟩
    have k35:=k4.trans k5
    go_wp2_with fail
    refine hK.out _ _ (k35.cell l03 (by simp)) (fun hHeld=> ?_)
    clear hK K
    refine rwY 18 (.string (strOf (pq++be4 (n+1)++be4 l.length))) hHeld ?_ (hy:=Or.inl ⟨by rfl,fun w' hSw=>lZ 9 9 (.tmp 65) (.tmp 69) rfl (pq++be4 (n+1)) (be4 l.length) rfl rfl (by simp [pq,aU]) w'⟩);simp only [rwA]
    refine ah 19 rfl (by kernel_rfl) (fun K hK=> ?_)
    go_simp
    go_at_call 200
    refine (Xm.out _).mono ?_
    rintro e w6 ⟨rfl,rfl⟩
    go_wp2_with fail
    refine hK.out _ _ (k35.cell l03 (by simp)) (fun hHeld=> ?_)
    clear hK K
    refine ah 20 rfl (by kernel_rfl) (fun K hK=> ?_)
    go_simp
    go_at_call 98
    refine (abo.out _ Gj (hs3.1.kept k35 (by simp))).mono ?_
    rintro e w7 ⟨rfl,G7,hd7,k7,hG7⟩
    have l07:=k7.cell (k35.cell l03 (by simp)) abz
    go_wp2_with fail
    refine hK.out _ _ l07 (fun hHeld=> ?_)
    clear hK K
    clear hul
    have aaK:Only G w w3:=(aF.trans (kd.more (by simp))).then hs3.2 (fun i hi=>(hGj.out i hi).1)
    have Xf:Only G w w7:=(aaK.trans (k35.more (by simp))).then k7 (fun i hi=>(hGj.out i hi).1)
    have MG:Hid (∀ i∈G7,(i∈G∨w.heap.size≤i)∧i<w7.heap.size):=fun i hi=>⟨by
     rcases (hG7 i hi).1 with h' | h'
     ·exact (hGj.out i h').1
     ·have:=aaK.size;have:=k35.size;exact .inr (by omega),(hG7 i hi).2⟩
    have adC:lp∉G7:=fun hm=>by
     rcases (MG.out lp hm).1 with h' | h'
     ·exact zU h'
     ·omega
    rcases uY with uY | uY
    ·have yt:=WZ.out
     rw [if_pos uY] at yt
     rw [uY]
     rw [hML.out.symm] at yt
     obtain⟨s2w,abq⟩:∃ x,x=written (bD sj) 0 ML:=⟨_,rfl⟩
     rw [hML.out,←abq] at yt
     rw [←abq] at hd7 rG Yu
     have BO:=ny w7 p G7 s2w (by omega) hd7
     have abQ:w7.ownsRow 0 9 1 vf l.length (strCells (jZ (n+1) l)):=ay (ay (ay (ay hown kd (by simp)) hs3.2 (fun q hq=>(hnew.out q hq).2)) k35 (by simp)) k7 (fun q hq=>(hnew.out q hq).2)
     have abY:∀ q,vf.ownBlock=some q→q∉G7:=fun q hq hm=>by
      rcases (hG7 q hm).1 with h' | h'
      ·exact (hnew.out q hq).2 h'
      ·have:=(hown.lt q hq).2
       have:=kd.size
       have:=hs3.2.size
       have:=k35.size
       omega
     replace abq:=Lib.hid abq
     replace uY:=Lib.hid uY
     refine rwT 21 (.bool false) hHeld ?_;simp only [rwA]
     refine rwT 22 (.bool false) hHeld ?_;simp only [rwA]
     refine rwT 23 (.bool false) hHeld ?_;simp only [rwA]
     refine rwT 24 (.pointer (some ⟨lp,0,none⟩)) hHeld ?_;simp only [rwA]
     refine rwT 25 (.pointer (some ⟨lp,0,none⟩)) hHeld ?_;simp only [rwA]
     refine rwT 26 (.pointer (some ⟨lp,0,none⟩)) hHeld ?_;simp only [rwA]
     refine rwT 27 (.pointer (some ⟨p,0,none⟩)) hHeld ?_;simp only [rwA]
     by_cases hb2:dW s2w=0
     ·have hc3:aH s n l=au (bD s2w) (homesOf (n+1) l):=CP dF.out (by rw [hML.out,yt,hb2])
      rw [hb2] at BO
      replace BO:=Lib.hid BO
      replace hb2:=Lib.hid hb2
      refine ah 28 rfl (by kernel_rfl) (fun K hK=> ?_)
      go_simp
      go_at_call 99
      refine BO.out.mono ?_
      rintro e w8 ⟨rfl,hs8⟩
      have l08:=hs8.2.cell l07 adC
      go_wp2_with fail
      refine hK.out _ _ l08 (fun hHeld=> ?_)
      clear hK K
      refine rwT 29 (.bool false) hHeld ?_;simp only [rwA]
      refine rwT 30 (.bool false) hHeld ?_;simp only [rwA]
      refine wpAnyH_done (by kernel_rfl) ?_ _
      clear hHeld
      have hd8:=hs8.1
      have adw:Only G w w8:=Xf.then hs8.2 (fun i hi=>(MG.out i hi).1)
      have abP:=ay abQ hs8.2 (fun q hq=>abY q hq)
      have hG8:Hid (∀ i∈G7,(i∈G∨w.heap.size≤i)∧i<w8.heap.size):=fun i hi=>⟨(MG.out i hi).1,Nat.lt_of_lt_of_le (MG.out i hi).2 hs8.2.size⟩
      have hlen2:(bD s2w).aA.length=s.aA.length:=by rw [mM];exact Yu
      have aaP:(bD s2w).late.length≤s.late.length+41:=by have:=vH s2w;omega
      generalize bD s2w=s2 at *
      obtain⟨gv,cv,rfl,_,_⟩:=abP.form (by omega)
      have hgv:=abY gv rfl
      have afC:=(hnew.out gv rfl).1
      replace hc3:=Lib.hid hc3
      clear hs8 hs3 hdj aF hGj hown hd7 Xf aaK k7 k35 k4 k5 abQ hG7 MG abY BO l07 l03 l08 l0d l0r
      go_wp2_with fail
      go_loopw [9] (fun i wx=>∃ (q:Nat) (sq:St) (Gq:List Nat),q≤l.length∧i = .int .i64 (q:Int)∧Hid (au s2 (homesOf (n+1) l)=au sq ((homesOf (n+1) l).drop q))∧sq.aA.length=s.aA.length∧sq.late.length≤s.late.length+41+q∧Ref wx p Gq sq∧Only G w wx∧Hid (∀ i∈Gq,(i∈G∨w.heap.size≤i)∧i<wx.heap.size)∧wx.ownsRow 0 9 1 (.slice (some ⟨gv,0,none⟩) l.length cv) l.length (strCells (jZ (n+1) l))∧Hid (gv∉Gq)) (fun i _=>l.length-(intOf i).toNat)
      case atStart=>exact⟨0,s2,G7,Nat.zero_le _,rfl,by rw [List.drop_zero];exact rfl,hlen2,by omega,hd8,adw,hG8,abP,hgv⟩
      case round=>
       clear hd8 adw hG8 abP hgv aaP hlen2 hnew
       obtain⟨q,sq,Gq,hq,rfl,WW,hlenq,adF,hdq,Yo,hGq,aav,abB⟩:=hrel
       by_cases Z5:q<l.length
       ·obtain⟨g,o,rfl,hg,hat⟩:=hb.get Z5
        have hgG:g∉G:=hA0.out _ rfl
        have c0:=Yo.cell (hat q Z5).1 hgG
        have hx:=hall.out l[q] (List.getElem_mem Z5)
        have hth:There s.aA.length ⟨41+l[q].at_,jo (n+1) l[q]⟩:=LY.out _ (by
         have h1:=EF (n+1) l q Z5
         exact List.mem_of_mem_drop (h1 ▸ List.mem_cons_self))
        have WY:au s2 (homesOf (n+1) l)=if aI sq (41+l[q].at_) (jo (n+1) l[q])=0 then au (written sq (41+l[q].at_) (jo (n+1) l[q])) ((homesOf (n+1) l).drop (q+1)) else (aI sq (41+l[q].at_) (jo (n+1) l[q]),written sq (41+l[q].at_) (jo (n+1) l[q])):=by
         rw [WW.out,EF (n+1) l q Z5,au]
        have c2:=aav.cells rfl q (.string (strOf (jo (n+1) l[q]))) (by simp [strCells,jZ,Z5])
        rw [addr_add,Nat.zero_add] at c2
        have aeQ:=hdq.fine.few
        obtain⟨⟨x0,x1⟩,_⟩:=hx
        generalize l[q].at_=at_ at *
        generalize jo (n+1) l[q]=HL at *
        have aeX:at_≤1048576:=by omega
        have ZV:IntKind.i64.wrap (41+at_)=41+at_:=by rw [IntKind.wrap_i64];omega
        have herr:aI sq (41+at_) HL=0∨aI sq (41+at_) HL=5:=by
         rw [aI,hlenq]
         rw [if_neg (by rw [hth.1,hth.2];decide)]
         split
         ·exact .inr rfl
         ·exact .inl rfl
        have Uc:=iZ sq (41+at_) HL
        have EG:=fH sq (41+at_) HL
        have kd:Only [] wr wr.drew:=(Only.refl [] wr).drew
        have hwq:=sJ wr.drew p Gq sq (41+at_) HL (by clear ZV;omega) (by clear ZV;omega) (by clear ZV;omega) (hdq.kept kd (by simp))
        have l0d:=kd.cell (Yo.cell l0 zU) (by simp)
        have c0d:=kd.cell c0 (by simp)
        have c2d:=kd.cell c2 (by simp)
        have aeC:lp∉Gq:=fun hm=>by
         clear ZV
         rcases (hGq.out lp hm).1 with h' | h'
         ·exact zU h'
         ·omega
        have hgq:g∉Gq:=fun hm=>by
         clear ZV
         rcases (hGq.out g hm).1 with h' | h'
         ·exact hgG h'
         ·omega
        generalize hHs:strOf HL=HS at *
        replace hHs:=Lib.hid hHs
        replace hwq:=Lib.hid hwq
        replace WY:=Lib.hid WY
        replace hth:=Lib.hid hth
        go_wp2_with fail
        refine wp_region_held_drew (S:=fun w'=>w'.cell? ⟨lp,0,none⟩=some (.pointer (some ⟨p,0,none⟩))∧w'.cell? ⟨g,o+q*2,none⟩=some (.int .i64 at_)∧w'.cell? ⟨gv,q,none⟩=some (.string HS)) (by kernel_rfl) ⟨l0d,c0d,c2d⟩ (fun hHeld=> ?_)
        refine rwT 0 (.pointer (some ⟨lp,0,none⟩)) hHeld ?_;simp only [rwA]
        refine rwT 1 (.pointer (some ⟨lp,0,none⟩)) hHeld ?_;simp only [rwA]
        refine rwT 2 (.pointer (some ⟨lp,0,none⟩)) hHeld ?_;simp only [rwA]
        refine rwT 3 (.pointer (some ⟨p,0,none⟩)) hHeld ?_;simp only [rwA]
        refine rwT 4 (.slice (some ⟨g,o,none⟩) l.length c) hHeld ?_;simp only [rwA]
        refine rwT 5 (.int .i64 (q:Int)) hHeld ?_;simp only [rwA]
        refine rwT 6 (.pointer (some ⟨g,o+q*2,none⟩)) hHeld ?_;simp only [rwA]
        refine rwT 7 (.pointer (some ⟨g,o+q*2,none⟩)) hHeld ?_;simp only [rwA]
        refine rwT 8 (.int .i64 at_) hHeld ?_;simp only [rwA]
        refine rwT 9 (.int .i64 (41+at_)) hHeld ?_;simp only [rwA]
        refine rwT 10 (.slice (some ⟨gv,0,none⟩) l.length cv) hHeld ?_;simp only [rwA]
        refine rwT 11 (.int .i64 (q:Int)) hHeld ?_;simp only [rwA]
        refine rwT 12 (.pointer (some ⟨gv,q,none⟩)) hHeld ?_;simp only [rwA]
        refine rwT 13 (.string HS) hHeld ?_;simp only [rwA]
        clear ZV
        refine ah 14 rfl (by kernel_rfl) (fun K hK=> ?_)
        go_simp
        go_at_call 98
        refine hwq.out.mono ?_
        rintro e w9 ⟨rfl,G9,hd9,k9,hG9⟩
        go_wp2_with fail
        refine hK.out _ _ ⟨k9.cell l0d aeC,k9.cell c0d hgq,k9.cell c2d abB.out⟩ (fun hHeld=> ?_)
        clear hK K
        have adv:Only G w w9:=(Yo.trans (kd.more (by simp))).then k9 (fun i hi=>(hGq.out i hi).1)
        have adY:Hid (∀ i∈G9,(i∈G∨w.heap.size≤i)∧i<w9.heap.size):=fun i hi=>⟨by
         rcases (hG9 i hi).1 with h' | h'
         ·exact (hGq.out i h').1
         ·have:=Yo.size;have:=kd.size;exact .inr (by omega),(hG9 i hi).2⟩
        have abk:=ay (ay aav kd (by simp)) k9 (fun b hb'=>by simp only [Value.ownBlock,Option.some.injEq] at hb';subst hb';exact abB.out)
        have aeN:Hid (gv∉G9):=fun hm=>by
         rcases (hG9 gv hm).1 with h' | h'
         ·exact abB.out h'
         ·have:=(aav.lt gv rfl).2;have:=kd.size;omega
        clear hG9 k9 Yo hdq aav hGq l0d c0d c2d c0 c2 kd abB WW
        rcases herr with herr | herr
        ·have Gt:=WY.out
         rw [if_pos herr] at Gt
         rw [herr]
         replace Gt:=Lib.hid Gt
         replace herr:=Lib.hid herr
         refine rwT 15 (.bool false) hHeld ?_;simp only [rwA]
         refine wpAnyH_done (by kernel_rfl) ?_ _
         clear hHeld
         replace abk:=Lib.hid abk
         go_wp2
         go_roundw
         case rel=>exact⟨q+1,written sq (41+at_) HL,G9,by omega,by go_num,Gt,by rw [EG];exact hlenq,by omega,hd9,adv,adY,abk.out,aeN⟩
         case measure=>simp [intOf];omega
        ·have Gt:=WY.out
         rw [if_neg (by rw [herr];decide),herr] at Gt
         have hcw:aH s n l=(5,written sq (41+at_) HL):=by rw [hc3.out,Gt]
         have hbo:decide ((aH s n l).1=0)=false:=by rw [hcw];rfl
         have hfin:eF w w9 p G (aH s n l).2:=by
          rw [hcw]
          exact⟨G9,hd9,adv,adY.out⟩
         rw [herr]
         replace Gt:=Lib.hid Gt
         replace herr:=Lib.hid herr
         replace hfin:=Lib.hid hfin
         replace hcw:=Lib.hid hcw
         replace hbo:=Lib.hid hbo
         refine rwT 15 (.bool true) hHeld ?_;simp only [rwA]
         refine wpAnyH_done (by kernel_rfl) ?_ _
         clear hHeld
         clear abk
         go_wp2
         go_ret
         exact⟨by rw [hbo.out];rfl,hfin.out⟩
       ·have hql:q=l.length:=by omega
        have WX:=WW.out
        rw [hql,←Zk.out,List.drop_of_length_le (Nat.le_refl _),au] at WX
        have hgeq:(l.length:Int)≤(q:Int):=by omega
        have Zw:=ny wr p Gq sq (by omega) hdq
        have l0q:=Yo.cell l0 zU
        have hcE:aH s n l=(dW sq,bD sq):=by rw [hc3.out,WX]
        replace hcE:=Lib.hid hcE
        replace WX:=Lib.hid WX
        replace Zw:=Lib.hid Zw
        clear hql WW
        go_wp2_with fail
        refine Zw.out.mono ?_
        rintro e w9 ⟨rfl,hs9⟩
        have hfin:eF w w9 p G (aH s n l).2:=by
         rw [hcE.out]
         exact⟨Gq,hs9.1,Yo.then hs9.2 (fun i hi=>(hGq.out i hi).1),fun i hi=>⟨(hGq.out i hi).1,Nat.lt_of_lt_of_le (hGq.out i hi).2 hs9.2.size⟩⟩
        have hbo:decide ((aH s n l).1=0)=(dW sq==0):=by
         rw [hcE.out]
         by_cases hz':dW sq=0
         ·simp [hz']
         ·simp [hz']
        replace hfin:=Lib.hid hfin
        replace hbo:=Lib.hid hbo
        clear hs9 hdq Yo hGq aav
        go_wp2
        go_ret
        exact⟨by rw [hbo.out];rfl,hfin.out⟩
     ·have hb5:dW s2w=5:=by
       unfold dW at hb2 ⊢
       split at hb2
       ·rename_i h';rw [if_pos h']
       ·exact absurd rfl hb2
      have hcw:aH s n l=(5,bD s2w):=by
       rw [hb5] at yt
       exact CQ dF.out (by rw [hML.out];exact yt) (by decide)
      have hbo:decide ((aH s n l).1=0)=false:=by rw [hcw];rfl
      rw [hb5] at BO
      replace BO:=Lib.hid BO
      replace hb2:=Lib.hid hb2
      replace hb5:=Lib.hid hb5
      replace yt:=Lib.hid yt
      refine ah 28 rfl (by kernel_rfl) (fun K hK=> ?_)
      go_simp
      go_at_call 99
      refine BO.out.mono ?_
      rintro e w8 ⟨rfl,hs8⟩
      go_wp2_with fail
      refine hK.out _ _ (hs8.2.cell l07 adC) (fun hHeld=> ?_)
      clear hK K
      refine rwT 29 (.bool true) hHeld ?_;simp only [rwA]
      refine rwT 30 (.bool true) hHeld ?_;simp only [rwA]
      refine wpAnyH_done (by kernel_rfl) ?_ _
      clear hHeld
      have hfin:eF w w8 p G (aH s n l).2:=by
       rw [hcw]
       exact⟨G7,hs8.1,Xf.then hs8.2 (fun i hi=>(MG.out i hi).1),fun i hi=>⟨(MG.out i hi).1,Nat.lt_of_lt_of_le (MG.out i hi).2 hs8.2.size⟩⟩
      replace hfin:=Lib.hid hfin
      replace hcw:=Lib.hid hcw
      replace hbo:=Lib.hid hbo
      clear hs8 hs3 hdj aF hGj hown hd7 Xf aaK k7 k35 k4 k5 abQ
      go_wp2
      go_ret
      exact⟨by rw [hbo.out];rfl,hfin.out⟩
    ·have yt:=WZ.out
     rw [if_neg (by rw [uY];decide),uY] at yt
     have hcw:aH s n l=(5,written (bD sj) 0 ML):=CQ dF.out (by rw [hML.out];exact yt) (by decide)
     have hbo:decide ((aH s n l).1=0)=false:=by rw [hcw];rfl
     have hfin:eF w w7 p G (aH s n l).2:=by
      rw [hcw]
      exact⟨G7,hd7,Xf,MG.out⟩
     rw [uY]
     replace yt:=Lib.hid yt
     replace uY:=Lib.hid uY
     replace hfin:=Lib.hid hfin
     replace hcw:=Lib.hid hcw
     replace hbo:=Lib.hid hbo
     refine rwT 21 (.bool true) hHeld ?_;simp only [rwA]
     refine rwT 22 (.bool true) hHeld ?_;simp only [rwA]
     refine rwT 23 (.bool true) hHeld ?_;simp only [rwA]
     refine rwU 24 hHeld ?_;simp only [rwA]
     refine rwU 25 hHeld ?_;simp only [rwA]
     refine rwU 26 hHeld ?_;simp only [rwA]
     refine rwU 27 hHeld ?_;simp only [rwA]
     refine rwU 28 hHeld ?_;simp only [rwA]
     refine rwU 29 hHeld ?_;simp only [rwA]
     refine rwT 30 (.bool true) hHeld ?_;simp only [rwA]
     refine wpAnyH_done (by kernel_rfl) ?_ _
     clear hHeld
     clear hs3 hdj aF hGj hown hd7 Xf aaK k7 k35 k4 k5
     go_wp2
     go_ret
     exact⟨by rw [hbo.out];rfl,hfin.out⟩
   ·have hb5:dW sj=5:=by
     unfold dW at hb1 ⊢
     split at hb1
     ·rename_i h';rw [if_pos h']
     ·exact absurd rfl hb1
    have hcw:aH s n l=(5,bD sj):=CS (by rw [dF.out,hb5]) (by decide)
    have hbo:decide ((aH s n l).1=0)=false:=by rw [hcw];rfl
    rw [hb5] at hbar
    replace hb1:=Lib.hid hb1
    replace hb5:=Lib.hid hb5
    go_wp2_with fail
    refine wp_region_held_drew (S:=fun w'=>w'.cell? ⟨lp,0,none⟩=some (.pointer (some ⟨p,0,none⟩))) (by kernel_rfl) l0d (fun hHeld=> ?_)
    refine rwT 0 (.pointer (some ⟨lp,0,none⟩)) hHeld ?_;simp only [rwA]
    refine rwT 1 (.pointer (some ⟨lp,0,none⟩)) hHeld ?_;simp only [rwA]
    refine rwT 2 (.pointer (some ⟨lp,0,none⟩)) hHeld ?_;simp only [rwA]
    refine rwT 3 (.pointer (some ⟨p,0,none⟩)) hHeld ?_;simp only [rwA]
    refine ah 4 rfl (by kernel_rfl) (fun K hK=> ?_)
    go_simp
    go_at_call 99
    refine hbar.out.mono ?_
    rintro e w3 ⟨rfl,hs3⟩
    go_wp2_with fail
    refine hK.out _ _ (hs3.2.cell l0d abz) (fun hHeld=> ?_)
    clear hK K
    refine rwT 5 (.bool true) hHeld ?_;simp only [rwA]
    refine rwT 6 (.bool true) hHeld ?_;simp only [rwA]
    refine rwU 7 hHeld ?_;simp only [rwA]
    refine rwU 8 hHeld ?_;simp only [rwA]
    refine rwU 9 hHeld ?_;simp only [rwA]
    refine rwU 10 hHeld ?_;simp only [rwA]
    refine rwU 11 hHeld ?_;simp only [rwA]
    refine rwU 12 hHeld ?_;simp only [rwA]
    refine rwU 13 hHeld ?_;simp only [rwA]
    refine rwU 14 hHeld ?_;simp only [rwA]
    refine rwU 15 hHeld ?_;simp only [rwA]
    refine rwU 16 hHeld ?_;simp only [rwA]
    refine rwU 17 hHeld ?_;simp only [rwA]
    refine rwU 18 hHeld ?_;simp only [rwA]
    refine rwU 19 hHeld ?_;simp only [rwA]
    refine rwU 20 hHeld ?_;simp only [rwA]
    refine rwU 21 hHeld ?_;simp only [rwA]
    refine rwT 22 (.bool true) hHeld ?_;simp only [rwA]
    refine rwT 23 (.bool true) hHeld ?_;simp only [rwA]
    refine rwU 24 hHeld ?_;simp only [rwA]
    refine rwU 25 hHeld ?_;simp only [rwA]
    refine rwU 26 hHeld ?_;simp only [rwA]
    refine rwU 27 hHeld ?_;simp only [rwA]
    refine rwU 28 hHeld ?_;simp only [rwA]
    refine rwU 29 hHeld ?_;simp only [rwA]
    refine rwT 30 (.bool true) hHeld ?_;simp only [rwA]
    refine wpAnyH_done (by kernel_rfl) ?_ _
    clear hHeld
    have hfin:eF w w3 p G (aH s n l).2:=by
     rw [hcw]
     exact⟨Gj,hs3.1,(aF.trans (kd.more (by simp))).then hs3.2 (fun i hi=>(hGj.out i hi).1),fun i hi=>⟨(hGj.out i hi).1,Nat.lt_of_lt_of_le (hGj.out i hi).2 (Nat.le_trans kd.size hs3.2.size)⟩⟩
    replace hfin:=Lib.hid hfin
    replace hcw:=Lib.hid hcw
    replace hbo:=Lib.hid hbo
    clear hs3 hdj aF hGj hown
    go_wp2
    go_ret
    exact⟨by rw [hbo.out];rfl,hfin.out⟩
end Go.Proofs.YtmelaiefbpdifaaGreatDoor
namespace Go.Proofs.YtmelaiefbpdifaaGreatDoor
open Go.RowKit
def CY(w w':World)(lp p:Nat)(G:List Nat)(s:St)(n:Nat)(f:Bool):Prop:=
 ∃ G',Ref w' p G' s∧jB w' lp p n f∧Only (lp :: G) w w'∧∀ j∈G',(j∈G∨w.heap.size≤j)∧j<w'.heap.size
theorem NG{w w0 w':World}{lp p n m i:Nat}{f:Bool}{v:Value}{G:List Nat}{s:St}(k:Only [] w w0)(hd:eF w0 w' p G s)(tu:jB w0 lp p n false)(hlp:lp∉G)(JD:lp<w.heap.size)
  (hv:∀ w1,jB w1 lp p n false→jB (w1.setCell ⟨lp,i,none⟩ v) lp p m f):
  CY w (w'.setCell ⟨lp,i,none⟩ v) lp p G s m f:=by
 obtain⟨F1,h1,h2,h3⟩:=hd
 have hl1:jB w' lp p n false:=Blk.kept tu h2 hlp
 have hlF:lp∉F1:=fun hm=>by
  rcases (h3 lp hm).1 with h | h
  ·exact hlp h
  ·have:=k.size;omega
 have ks:Only [lp] w' (w'.setCell ⟨lp,i,none⟩ v):=Only.set w' [lp] (by simp) _
 refine⟨F1,h1.kept ks (by intro i hi;simp;rintro rfl;exact hlF hi),hv _ hl1,?_,fun j hj=>⟨?_,by have:=(h3 j hj).2;simpa [World.setCell] using this⟩⟩
 ·exact ((k.more (T:=lp :: G) (by simp)).then h2 (fun i hi=>.inl (by simp [hi]))).then ks (by simp)
 ·rcases (h3 j hj).1 with h | h
  ·exact .inl h
  ·have:=k.size;exact .inr (by omega)
theorem RS{lp p n:Nat}(w1:World)(h:jB w1 lp p n false):jB (w1.setCell ⟨lp,2,none⟩ (.bool true)) lp p n true:=by
 have:=Blk.set h 2 (.bool true)
 simpa [jB] using this
theorem RQ{lp p n:Nat}{x:Int}(hx:x=((n+1:Nat):Int))(w1:World)(h:jB w1 lp p n false):jB (w1.setCell ⟨lp,1,none⟩ (.int .u32 x)) lp p (n+1) false:=by
 have:=Blk.set h 1 (.int .u32 x)
 rw [hx] at this
 simpa [jB,hx] using this
theorem RY{w w':World}{lp p n:Nat}{f:Bool}{G:List Nat}{s:St}(hd:Ref w p G s)(tu:jB w lp p n f)(hG:∀ i∈G,i<w.heap.size)(k:Only [] w w'):CY w w' lp p G s n f:=
 ⟨G,hd.kept k (by simp),Blk.kept tu k (by simp),k.more (by simp),fun j hj=>⟨.inl hj,Nat.lt_of_lt_of_le (hG j hj) k.size⟩⟩
theorem CY.mono{w w':World}{lp p n:Nat}{f:Bool}{F G:List Nat}{s:St}(h:CY w w' lp p F s n f)(hG:∀ i∈F,i∈G):CY w w' lp p G s n f:=by
 obtain⟨F',h1,h2,h3,h4⟩:=h
 exact⟨F',h1,h2,h3.more (fun i hi=>.inl (by rcases List.mem_cons.1 hi with rfl | hi;simp;simp [hG i hi])),fun j hj=>⟨(h4 j hj).1.imp (hG j) id,(h4 j hj).2⟩⟩
theorem MR{s:St}{n:Nat}{l:List Bk}(hr:dn l ((s.aA.length:Int)-41)):(aH s n l).1=0∨(aH s n l).1=5:=by
 have h1:=iO (aB (homesOf (n+1) l)) s (qQ hr)
 have f1:=aQ (aB (homesOf (n+1) l)) s
 have hN:=lq hr
 have h2:=iO [⟨0,dY (n+1) l.length⟩] (au s (aB (homesOf (n+1) l))).2 (by
  intro x hx
  obtain rfl:=List.mem_singleton.1 hx
  exact⟨by simp only [bF,decide_eq_true_eq];omega,nH _ _⟩)
 have f2:=aQ [⟨0,dY (n+1) l.length⟩] (au s (aB (homesOf (n+1) l))).2
 have h3:=iO (homesOf (n+1) l) (au (au s (aB (homesOf (n+1) l))).2 [⟨0,dY (n+1) l.length⟩]).2 (by rw [f2,f1];exact uG hr)
 unfold aH
 split
 ·exact h1
 ·split
  ·exact h2
  ·exact h3
set_option maxRecDepth 100000 in
set_option maxHeartbeats 4000000 in
theorem Lc(w:World)(lp p n:Nat)(f:Bool)(G:List Nat)(s:St)(A:Option Addr)(c:Nat)(l:List Bk)(hn:n<4294967296)(h:jB w lp p n f)(hd:Ref w p G s)(hlp:lp∉G)(hb:Fq w A l)(hA:l≠[]→∀ a,A=some a→a.block∉G)(hl:l.length≤9223372036854775807)(hN:42≤s.aA.length)(bY:s.late.length+200≤1048576):
  Calls Tryz.prog 108 #[.pointer (some ⟨lp,0,none⟩),.slice A l.length c] w fun e w'=>∃ x s' n' f',e = .returned (.int .i64 x)∧bV s n f l x s' n' f'∧CY w w' lp p G s' n' f':=by
 obtain⟨G0,hd0,hsub,hG0⟩:=hd.trim
 refine Calls.mono (R:=fun e w'=>∃ x s' n' f',e = .returned (.int .i64 x)∧bV s n f l x s' n' f'∧CY w w' lp p G0 s' n' f') ?_ (fun e w' ⟨x,s',n',f',h1,h2,h3⟩=>⟨x,s',n',f',h1,h2,h3.mono hsub⟩)
 have zU:lp∉G0:=fun hm=>hlp (hsub _ hm)
 have hA0:l≠[]→∀ a,A=some a→a.block∉G0:=fun hne a ha hm=>hA hne a ha (hsub _ hm)
 clear hd hlp hA hsub G
 rename List Nat=>G
 rename Ref w p G s=>hd
 have JD:=Blk.lt h
 obtain⟨l0,l1,l2⟩:=h.cells
 obtain⟨gf,cf,B,cl,c0,_,_,_,_⟩:=hd.cells (by omega)
 have hfew:=hd.fine.few
 have hright:=fQ w A c l ((s.aA.length:Int)-41) hb hl
 have hsame:=fun (w':World) (k:Only [] w w')=>RY hd h hG0 k
 have hsteps:=fun (W:World) (k:Only [] w W) (hf:f=false) (hn:n+1<4294967296) (hr:dn l ((s.aA.length:Int)-41))=>O7 W lp p n G s A c l hn (by rw [←hf];exact Blk.kept h k (by simp)) (hd.kept k (by simp)) zU (hb.kept k (by simp)) (hA0 (fun h=>by have:=hr.1;simp [h] at this)) hr bY
 obtain⟨z,hz⟩:∃ z:Int,z=(n:Int):=⟨_,rfl⟩
 rw [←hz] at l1
 obtain⟨N,hNN⟩:∃ N:Int,N=(s.aA.length:Int)-41:=⟨_,rfl⟩
 have hcom:=fun (x:Int) (s':St) (n':Nat) (f':Bool) (hh:(x≠0∧gX N f n l x∧s'=s∧n'=n∧f'=f)∨(gX N f n l 0∧x=(aH s n l).1∧s'=(aH s n l).2∧((x=0∧n'=n+1∧f'=false)∨(x=5∧n'=n∧f'=true))))=>(show bV s n f l x s' n' f' by unfold bV;rw [←hNN];exact hh)
 have hcw:=fun (hr:dn l ((s.aA.length:Int)-41))=>MR (n:=n) hr
 have hq1:Hid (z=4294967295→n=4294967295):=show z=4294967295→n=4294967295 by omega
 have hq2:Hid (z≠4294967295→n≠4294967295):=show z≠4294967295→n≠4294967295 by omega
 have hq3:Hid (z≠4294967295→n+1<4294967296):=show z≠4294967295→n+1<4294967296 by omega
 have hq4:Hid (z+1=((n+1:Nat):Int)):=show z+1=((n+1:Nat):Int) by omega
 have hz0:0≤z:=by omega
 have hz3:z≤4294967295:=by omega
 have hq5:Hid (z≠4294967295→IntKind.u32.wrap (z+1)=z+1):=fun h=>by
  have h2:z<4294967295:=by omega
  clear hright hsame hsteps hcom hcw hq1 hq2 hq3 hq4 h hfew hN bY hl hNN hz hn
  rw [IntKind.wrap_u32]
  omega
 have hwN:wrap64 ((s.aA.length:Int)-41)=(s.aA.length:Int)-41:=by
  clear hright hsame hsteps hcom hcw hq1 hq2 hq3 hq4 hq5 hz0 hz3 hl bY hn hz
  simp only [wrap64]
  omega
 clear hz0 hz3
 rw [←hNN] at hsteps hcw
 have hf0:((s.aA.length:Nat):Int)-41=N:=hNN.symm
 replace hn:=Lib.hid hn
 replace hNN:=Lib.hid hNN
 replace hf0:=Lib.hid hf0
 replace hz:=Lib.hid hz
 replace hright:=Lib.hid hright
 replace hsame:=Lib.hid hsame
 replace hsteps:=Lib.hid hsteps
 replace hcom:=Lib.hid hcom
 replace hcw:=Lib.hid hcw
 replace tu:=Lib.hid h
 clear h hd hb hA0 hG0 hfew hN bY hl
 go_enter Tryz.func108,Tryz.ntmps108
 go_wp2_with fail
 refine hright.out.mono ?_
 rintro e w1 ⟨⟨r,rfl,hr⟩,k1⟩
 rw [hf0.out] at hr
 clear hright hwN
 have d1:=k1.cell l1 (by simp)
 have d2:=k1.cell l2 (by simp)
 clear l0 l1 l2 c0
 cases r with
 | false=>
  have hno:¬dn l N:=fun h=>Bool.noConfusion (hr.2 h)
  replace hcom:=Lib.hid (hcom.out 1 s n f (.inl ⟨by decide,.inl ⟨hno,rfl⟩,rfl,rfl,rfl⟩))
  clear hr hno
  go_wp2
  go_ret
  exact⟨1,s,n,f,rfl,hcom.out,hsame.out _ k1⟩
 | true=>
  have hyes:Hid (dn l N):=hr.1 rfl
  clear hr
  cases hf:f with
  | true=>
   rw [hf] at d2 hsame
   replace hcom:=Lib.hid (hcom.out 5 s n true (.inl ⟨by decide,.inr (.inl ⟨hyes.out,hf,rfl⟩),rfl,rfl,hf.symm⟩))
   go_wp2
   go_ret
   exact⟨5,s,n,true,rfl,hcom.out,hsame.out _ k1⟩
  | false=>
   rw [hf] at d2 hsame tu
   by_cases hm:z=4294967295
   ·replace hcom:=Lib.hid (hcom.out 16 s n false (.inl ⟨by decide,.inr (.inr (.inl ⟨hyes.out,hf,hq1.out hm,rfl⟩)),rfl,rfl,hf.symm⟩))
    rw [hm] at d1
    clear hm
    go_wp2
    go_ret
    exact⟨16,s,n,false,rfl,hcom.out,hsame.out _ k1⟩
   ·have hn1:Hid (n+1<4294967296):=hq3.out hm
    have hst:=Lib.hid (hsteps.out w1 k1 hf hn1.out hyes.out)
    have hzz:IntKind.u32.wrap (z+1)=z+1:=hq5.out hm
    have hz2:Hid (z+1=((n+1:Nat):Int)):=hq4.out
    have href:Hid (gX N f n l 0):=.inr (.inr (.inr ⟨hyes.out,hf,hq2.out hm,rfl⟩))
    have Gu:Hid (jB w1 lp p n false):=Blk.kept tu.out k1 (by simp)
    go_wp2_with fail
    refine hst.out.mono ?_
    rintro e w2 ⟨rfl,wS⟩
    have L9:jB w2 lp p n false:=by
     obtain⟨_,_,kE,_⟩:=wS
     exact Blk.kept Gu.out kE zU
    have fr1:=Blk.free L9 1
    have fr2:=Blk.free L9 2
    obtain⟨_,e1,e2⟩:=L9.cells
    have hze:((n:Nat):Int)=z:=hz.out.symm
    rw [hze] at e1
    replace hze:=Lib.hid hze
    clear d1 d2
    by_cases hx:(aH s n l).1=0
    ·have hdd:decide ((aH s n l).1=0)=true:=by simp [hx]
     rw [hdd]
     replace hcom:=Lib.hid (hcom.out 0 (aH s n l).2 (n+1) false (.inr ⟨href.out,hx.symm,rfl,.inl ⟨rfl,rfl,rfl⟩⟩))
     have hend:=Lib.hid (NG k1 wS Gu.out zU JD (RQ hz2.out))
     clear wS L9 hdd hx
     go_wp2
     go_ret
     exact⟨0,(aH s n l).2,n+1,false,rfl,hcom.out,hend.out⟩
    ·have hdd:decide ((aH s n l).1=0)=false:=by simp [hx]
     have hx5:(aH s n l).1=5:=(hcw.out hyes.out).resolve_left hx
     rw [hdd]
     replace hcom:=Lib.hid (hcom.out 5 (aH s n l).2 n true (.inr ⟨href.out,hx5.symm,rfl,.inr ⟨rfl,rfl,rfl⟩⟩))
     have hend:=Lib.hid (NG k1 wS Gu.out zU JD RS)
     clear wS L9 hdd hx hx5
     go_wp2
     go_ret
     exact⟨5,(aH s n l).2,n,true,rfl,hcom.out,hend.out⟩
end Go.Proofs.YtmelaiefbpdifaaGreatDoor
namespace Go.Proofs.YtmelaiefbpdifaaGreatDoor
open Go.RowKit
theorem ji{P:Program}(t:TypeId)(ht:P.underlying t=some .string)(bs:List UInt8)(i:Nat)(x:Int)(k:IntKind)(hx:x=i)(h:i<bs.length):
  ∀ W:World,(Instr.index t (.string (strOf bs)) (.int k x)).run P W = .ok (.int .u8 ((bs[i].toNat:Nat):Int)) W:=by
 intro W
 subst hx
 have hs:=aj bs
 rw [run_index_string W t _ k _ ht,dif_pos ⟨by omega,by omega⟩]
 rfl
theorem Ea{P:Program}(t:TypeId)(ht:P.underlying t=some .string)(bs:List UInt8)(i j:Nat)(x y:Int)(k k':IntKind)(hx:x=i)(hy:y=j)(hij:i≤j)(h:j≤bs.length):
  ∀ W:World,(Instr.slice t (.string (strOf bs)) (some (.int k x)) (some (.int k' y)) none).run P W = .ok (.string (strOf ((bs.drop i).take (j-i)))) W:=by
 intro W
 subst hx
 subst hy
 have hs:=aj bs
 rw [run_slice_string W t _ k k' _ _ ht (by omega) (by omega) (by omega)]
 congr 2
 show (ByteArray.mk bs.toArray).extract _ _=_
 rw [ByteArray.extract_mk,Int.toNat_natCast,Int.toNat_natCast]
 rfl
def Rf(w:World)(q:Nat)(bs:List UInt8)(err:Nat):Prop:=Blk w q 257 #[.string (strOf bs),.int .i64 (err:Int)]
theorem Rf.kept{S:List Nat}{w w':World}{q:Nat}{bs:List UInt8}{err:Nat}(h:Rf w q bs err)(k:Only S w w')(hq:q∉S):Rf w' q bs err:=Blk.kept h k hq
theorem Rf.drew{w:World}{q:Nat}{bs:List UInt8}{err:Nat}(h:Rf w q bs err):Rf w.drew q bs err:=h
theorem Rf.drewN{w:World}{q:Nat}{bs:List UInt8}{err:Nat}(h:Rf w q bs err)(n:Nat):Rf (w.drewN n) q bs err:=h
theorem Rf.c0{w:World}{q:Nat}{bs:List UInt8}{err:Nat}(h:Rf w q bs err):w.cell? ⟨q,0,none⟩=some (.string (strOf bs)):=by simpa using Blk.cell h 0
theorem Rf.c1{w:World}{q:Nat}{bs:List UInt8}{err:Nat}(h:Rf w q bs err):w.cell? ⟨q,1,none⟩=some (.int .i64 (err:Int)):=by simpa using Blk.cell h 1
theorem Rf.set0{w:World}{q:Nat}{bs:List UInt8}{err:Nat}(h:Rf w q bs err)(cs:List UInt8):Rf (w.setCell ⟨q,0,none⟩ (.string (strOf cs))) q cs err:=by
 unfold Rf;simpa using Blk.set h 0 (.string (strOf cs))
theorem Rf.set1{w:World}{q:Nat}{bs:List UInt8}{err:Nat}(h:Rf w q bs err)(e':Nat)(x:Int)(hx:x=e'):Rf (w.setCell ⟨q,1,none⟩ (.int .i64 x)) q bs e':=by
 subst hx
 unfold Rf;simpa using Blk.set h 1 (.int .i64 (e':Int))
theorem pY(w:World)(q i:Nat)(v:Value):Only [q] w (w.setCell ⟨q,i,none⟩ v):=(Only.refl [q] w).setCell (.inl (by simp)) v
def Ku(w:World)(q:Nat)(v:Value)(bs:List UInt8)(err:Nat)(e:Ending)(w':World):Prop:=e = .returned v∧Rf w' q bs err∧Only [q] w w'
theorem JV(w:World)(q:Nat)(bs:List UInt8)(err:Nat)(h:Rf w q bs err)(hl:bs.length<4):
  Calls Tryz.prog 197 #[.pointer (some ⟨q,0,none⟩)] w fun e w'=>e = .returned (.int .i64 (-1))∧w=w':=by
 have h0:=h.c0
 have hs:=aj bs
 have hl':(bs.length:Int)<4:=by omega
 go_enter Tryz.func197,Tryz.ntmps197
 go_wp2
 go_ret
 exact⟨rfl,rfl⟩
set_option maxRecDepth 100000 in
theorem aa4(w:World)(q:Nat)(bs:List UInt8)(err:Nat)(h:Rf w q bs err)(hl:4≤bs.length):
  Calls Tryz.prog 197 #[.pointer (some ⟨q,0,none⟩)] w fun e w'=>e = .returned (.int .i64 (hd4 bs:Nat))∧∃ m,w'=w.drewN m:=by
 have h0:=h.c0
 have hs:=aj bs
 have hl':(4:Int)≤bs.length:=by omega
 obtain⟨a0,a1,a2,a3,r,hb⟩:=four bs hl
 have i0:=ji (P:=Tryz.prog) 9 Tryz.underlying9 bs 0 0 .i64 rfl (by omega)
 have i1:=ji (P:=Tryz.prog) 9 Tryz.underlying9 bs 1 1 .i64 rfl (by omega)
 have i2:=ji (P:=Tryz.prog) 9 Tryz.underlying9 bs 2 2 .i64 rfl (by omega)
 have i3:=ji (P:=Tryz.prog) 9 Tryz.underlying9 bs 3 3 .i64 rfl (by omega)
 have e0:bs[0].toNat=a0.toNat:=by subst hb;rfl
 have e1:bs[1].toNat=a1.toNat:=by subst hb;rfl
 have e2:bs[2].toNat=a2.toNat:=by subst hb;rfl
 have e3:bs[3].toNat=a3.toNat:=by subst hb;rfl
 rw [e0] at i0;rw [e1] at i1;rw [e2] at i2;rw [e3] at i3
 have hd:((hd4 bs:Nat):Int)=(((a0.toNat:Int)*256+a1.toNat)*256+a2.toNat)*256+a3.toNat:=by subst hb;show ((KA a0 a1 a2 a3:Nat):Int)=_;unfold KA;omega
 obtain⟨v,hv⟩:∃ v:Int,((hd4 bs:Nat):Int)=v:=⟨_,rfl⟩
 rw [hv] at hd ⊢
 have HV:=Lib.hid hd
 clear hv
 have b0:(a0.toNat:Int)<256:=by have:=a0.toNat_lt;omega
 have b1:(a1.toNat:Int)<256:=by have:=a1.toNat_lt;omega
 have b2:(a2.toNat:Int)<256:=by have:=a2.toNat_lt;omega
 have b3:(a3.toNat:Int)<256:=by have:=a3.toNat_lt;omega
 clear hd e0 e1 e2 e3 hb hl
 go_enter Tryz.func197,Tryz.ntmps197
 go_wp2
 go_quiet (fail)
 go_wp2
 go_ret
 exact⟨by rw [HV.out];rfl,_,rfl⟩
theorem GX(w:World)(q:Nat)(bs:List UInt8)(err:Nat)(x:Int)(hx:(hd4 bs:Int)=x)(h:Rf w q bs err)(hl:4≤bs.length):
  Calls Tryz.prog 197 #[.pointer (some ⟨q,0,none⟩)] w fun e w'=>e = .returned (.int .i64 x)∧∃ m,w'=w.drewN m:=by
 subst hx
 exact aa4 w q bs err h hl
theorem Xx(w:World)(q:Nat)(bs:List UInt8)(err:Nat)(h:Rf w q bs err):
  Calls Tryz.prog 148 #[.pointer (some ⟨q,0,none⟩)] w (Ku w q (.int .u32 ((bP bs err).1:Int)) (bP bs err).2.1 (bP bs err).2.2):=by
 have h0:=h.c0
 have h1:=h.c1
 have f0:=Blk.free h 0
 have f1:=Blk.free h 1
 unfold bP
 by_cases he:err≠0
 ·rw [if_pos he]
  have he':((err:Int) != 0)=true:=by simp;omega
  go_enter Tryz.func148,Tryz.ntmps148
  go_wp2
  go_ret
  exact⟨rfl,h,Only.refl _ _⟩
 ·rw [if_neg he]
  have he0:err=0:=by omega
  subst he0
  clear he
  by_cases hl:bs.length<4
  ·rw [if_pos hl]
   go_enter Tryz.func148,Tryz.ntmps148
   go_wp2_with fail
   refine (JV _ q bs 0 h hl).mono ?_
   rintro e w1 ⟨rfl,rfl⟩
   go_wp2
   go_ret
   exact⟨rfl,h.set1 2 2 rfl,pY _ _ _ _⟩
  ·rw [if_neg hl]
   have hlt:=uq bs
   obtain⟨v,hv⟩:∃ v:Int,(hd4 bs:Int)=v:=⟨_,rfl⟩
   have hlt':v<4294967296:=by omega
   have hlt0:0≤v:=by omega
   simp only
   rw [hv]
   have HV:=Lib.hid hv
   have HL:=Lib.hid hl
   have hsl:=iy (P:=Tryz.prog) 9 Tryz.underlying9 bs 4 4 .i64 rfl (by omega)
   clear hv hl hlt
   go_enter Tryz.func148,Tryz.ntmps148
   go_wp2_with fail
   refine (GX _ q bs 0 v HV.out h (by have:=HL.out;omega)).mono ?_
   rintro e w1 ⟨rfl,m,rfl⟩
   go_wp2
   go_ret
   exact⟨rfl,(h.drewN m).set0 _,((Only.refl [q] w).drewN m).trans (pY _ _ _ _)⟩
theorem V8(n k:Nat)(hk:k≤jf n):(n+k) % 4=0↔k=jf n:=by
 unfold jf at *
 omega
theorem EJ(w:World)(q:Nat)(bs:List UInt8)(err:Nat)(most:Int)(h:Rf w q bs err)(hf:err≠0∨bs.length<4):
  Calls Tryz.prog 149 #[.pointer (some ⟨q,0,none⟩),.int .i64 most] w (Ku w q (.string ⟨#[]⟩) bs (qI err)):=by
 have h1:=h.c1
 have f1:=Blk.free h 1
 unfold qI
 by_cases he:err=0
 ·subst he
  have hl:bs.length<4:=hf.resolve_left (by simp)
  rw [if_pos rfl]
  go_enter Tryz.func149,Tryz.ntmps149
  go_wp2_with fail
  refine (JV _ q bs 0 h hl).mono ?_
  rintro e w1 ⟨rfl,rfl⟩
  go_wp2
  go_ret
  exact⟨rfl,h.set1 2 2 rfl,pY _ _ _ _⟩
 ·rw [if_neg he]
  have he':((err:Int) != 0)=true:=by simp;omega
  go_enter Tryz.func149,Tryz.ntmps149
  go_wp2
  go_ret
  exact⟨rfl,h,Only.refl _ _⟩
theorem Qb(w:World)(q:Nat)(bs:List UInt8)(most:Int)(h:Rf w q bs 0)(hl:4≤bs.length)(hm:most<(hd4 bs:Int)):
  Calls Tryz.prog 149 #[.pointer (some ⟨q,0,none⟩),.int .i64 most] w (Ku w q (.string ⟨#[]⟩) bs 4):=by
 have h1:=h.c1
 have f1:=Blk.free h 1
 obtain⟨x,hx⟩:∃ x:Int,(hd4 bs:Int)=x:=⟨_,rfl⟩
 have hx0:0≤x:=by omega
 rw [hx] at hm
 have HX:=Lib.hid hx
 have HL:=Lib.hid hl
 clear hx hl
 go_enter Tryz.func149,Tryz.ntmps149
 go_wp2_with fail
 refine (GX _ q bs 0 x HX.out h HL.out).mono ?_
 rintro e w1 ⟨rfl,m,rfl⟩
 go_wp2
 go_ret
 exact⟨rfl,(h.drewN m).set1 4 4 rfl,((Only.refl [q] w).drewN m).trans (pY _ _ _ _)⟩
def Va(bs:List UInt8)(n j:Nat):Prop:=((bs.drop (4+n)).take j).any (· != 0)=false
set_option maxHeartbeats 1000000 in
theorem Qa(w:World)(q:Nat)(bs:List UInt8)(most:Int)(h:Rf w q bs 0)(hl:4≤bs.length)(hm:(hd4 bs:Int)≤most)(hbig:bs.length≤1048576):
  Calls Tryz.prog 149 #[.pointer (some ⟨q,0,none⟩),.int .i64 most] w (Ku w q (.string (strOf (ig most bs 0).1)) (ig most bs 0).2.1 (ig most bs 0).2.2):=by
 have h0:=h.c0
 have h1:=h.c1
 have f0:=Blk.free h 0
 have f1:=Blk.free h 1
 have hs:=aj bs
 have hlt:=uq bs
 have hp:=nT (hd4 bs)
 unfold ig
 rw [if_neg (by simp),if_neg (by omega),if_neg (by omega)]
 obtain⟨x,hx⟩:∃ x:Int,(hd4 bs:Int)=x:=⟨_,rfl⟩
 obtain⟨P,hP⟩:∃ P,jf (hd4 bs)=P:=⟨_,rfl⟩
 have hx0:0≤x:=by omega
 have hx1:x<4294967296:=by omega
 have hxm:x≤most:=by omega
 rw [hP] at hp ⊢
 have HX:=Lib.hid hx
 have HP:=Lib.hid hP
 have HL:=Lib.hid hl
 have hpt:Hid (∀ k,k≤P→((hd4 bs+k) % 4=0↔k=P)):=by rw [←hP];exact fun k hk=>V8 _ k hk
 by_cases hsh:bs.length<4+hd4 bs+P
 ·rw [if_pos hsh]
  have aeg:(bs.length:Int)-4<x+(P:Int):=by omega
  clear hx hl hlt hP hm hsh
  go_enter Tryz.func149,Tryz.ntmps149
  go_wp2_with fail
  refine (GX _ q bs 0 x HX.out h HL.out).mono ?_
  rintro e w1 ⟨rfl,m,rfl⟩
  go_wp2_with fail
  go_loop [6] (fun t=>∃ k:Nat,k≤P∧t = .int .i64 (x+(k:Int))) (fun t=>P-(intOf t-x).toNat)
  case atStart=>exact⟨0,Nat.zero_le _,by simp⟩
  case round=>
   obtain⟨k,hk,rfl⟩:=hrel
   by_cases he:k=P
   ·have ht:((x+(k:Int)) % 4 != 0)=false:=by
     have h1:=(hpt.out k hk).2 he
     have h2:=HX.out
     rw [bne_eq_false_iff_eq]
     omega
    have HE:=Lib.hid he
    subst he
    go_wp2
    go_ret
    exact⟨rfl,(h.drewN m).set1 2 2 rfl,((Only.refl [q] w).drewN m).trans (pY _ _ _ _)⟩
   ·have ht:((x+(k:Int)) % 4 != 0)=true:=by
     have h1:=mt (hpt.out k hk).1 he
     have h2:=HX.out
     rw [bne_iff_ne]
     omega
    have hkl:k<P:=by omega
    clear he
    go_wp2
    go_round
    case rel=>exact⟨k+1,by omega,by simp;omega⟩
    case measure=>simp [intOf];omega
 ·rw [if_neg hsh]
  have aeg:x+(P:Int)≤(bs.length:Int)-4:=by omega
  have hxs:x≤1048576:=by omega
  have aeE:(4:Int)≤(bs.length:Int):=by omega
  have H4:Hid (4+hd4 bs+P≤bs.length):=by show 4+hd4 bs+P≤bs.length;omega
  obtain⟨R,hR⟩:∃ R,(if ((bs.drop (4+hd4 bs)).take P).any (· != 0)=true then (([],bs,3):List UInt8 × List UInt8 × Nat) else ((bs.drop 4).take (hd4 bs),bs.drop (4+hd4 bs+P),0))=R:=⟨_,rfl⟩
  rw [hR]
  have HR:=Lib.hid hR
  have hsl:=Ea (P:=Tryz.prog) 9 Tryz.underlying9 bs 4 (4+hd4 bs) 4 (4+x) .i64 .i64 rfl (by omega) (by omega) (by omega)
  have hsl2:=iy (P:=Tryz.prog) 9 Tryz.underlying9 bs (4+hd4 bs+P) (4+(x+(P:Int))) .i64 (by omega) (by omega)
  have HS1:=Lib.hid hsl
  have HS2:=Lib.hid hsl2
  clear hx hl hlt hP hm hsh hR hsl hsl2 hx1
  go_enter Tryz.func149,Tryz.ntmps149
  go_wp2_with fail
  refine (GX _ q bs 0 x HX.out h HL.out).mono ?_
  rintro e w1 ⟨rfl,m,rfl⟩
  go_wp2_with fail
  go_loop [6] (fun t=>∃ k:Nat,k≤P∧t = .int .i64 (x+(k:Int))) (fun t=>P-(intOf t-x).toNat)
  case atStart=>exact⟨0,Nat.zero_le _,by simp⟩
  case round=>
   obtain⟨k,hk,rfl⟩:=hrel
   by_cases he:k=P
   ·have ht:((x+(k:Int)) % 4 != 0)=false:=by
     have h1:=(hpt.out k hk).2 he
     have h2:=HX.out
     rw [bne_eq_false_iff_eq]
     omega
    subst he
    go_wp2
    clear ht
    go_loop [7] (fun t=>∃ j:Nat,j≤k∧t = .int .i64 (x+(j:Int))∧Va bs (hd4 bs) j) (fun t=>k-(intOf t-x).toNat)
    case atStart=>exact⟨0,Nat.zero_le _,by simp,by simp [Va]⟩
    case round=>
     obtain⟨j,hj,rfl,hz⟩:=hrel
     have HZ:=Lib.hid hz
     clear hz
     by_cases hlt:j<k
     ·have hi:=ji (P:=Tryz.prog) 9 Tryz.underlying9 bs (4+hd4 bs+j) (4+(x+(j:Int))) .i64 (by have:=HX.out;omega) (by have:=H4.out;omega)
      have hin:4+hd4 bs+j<bs.length:=by have:=H4.out;omega
      obtain⟨b,hb⟩:∃ b,bs[4+hd4 bs+j]=b:=⟨_,rfl⟩
      rw [hb] at hi
      have HB:=Lib.hid hb
      have HIN:=Lib.hid hin
      clear hb
      by_cases h0b:b=0
      ·have ht:((b.toNat:Int) != 0)=false:=by rw [h0b];rfl
       have HB0:=Lib.hid h0b
       clear h0b
       go_wp2
       go_round
       case rel=>
        refine⟨j+1,by omega,by simp;omega,?_⟩
        have hl2:j<(bs.drop (4+hd4 bs)).length:=by have:=HIN.out;simp;omega
        unfold Va
        rw [Ov _ j hl2,HZ.out,List.getElem_drop]
        have e1:=HB.out
        rw [e1,HB0.out]
        rfl
       case measure=>simp [intOf];omega
      ·have h1b:(b != 0)=true:=by simpa using h0b
       have ht:((b.toNat:Int) != 0)=true:=by
        rw [bne_iff_ne]
        intro e
        apply h0b
        apply UInt8.toNat_inj.1
        have:b.toNat=0:=by omega
        simpa using this
       have H1B:=Lib.hid h1b
       clear h0b h1b
       go_wp2
       go_ret
       have hany:((bs.drop (4+hd4 bs)).take k).any (· != 0)=true:=by
        have hl2:j<((bs.drop (4+hd4 bs)).take k).length:=by have:=H4.out;simp;omega
        refine YE _ j hl2 ?_
        rw [List.getElem_take,List.getElem_drop]
        have e1:=HB.out
        rw [e1]
        exact H1B.out
       have hR2:=HR.out
       rw [if_pos hany] at hR2
       rw [←hR2]
       exact⟨rfl,(h.drewN m).set1 3 3 rfl,((Only.refl [q] w).drewN m).trans (pY _ _ _ _)⟩
     ·obtain rfl:j=k:=by omega
      have hsl:=HS1.out
      have hsl2:=HS2.out
      go_wp2
      go_ret
      have hR2:=HR.out
      rw [if_neg (by rw [show ((bs.drop (4+hd4 bs)).take j).any (· != 0)=false from HZ.out];simp)] at hR2
      rw [←hR2]
      refine⟨?_,(h.drewN m).set0 _,((Only.refl [q] w).drewN m).trans (pY _ _ _ _)⟩
      rfl
   ·have ht:((x+(k:Int)) % 4 != 0)=true:=by
     have h1:=mt (hpt.out k hk).1 he
     have h2:=HX.out
     rw [bne_iff_ne]
     omega
    have hkl:k<P:=by omega
    clear he
    go_wp2
    go_round
    case rel=>exact⟨k+1,by omega,by simp;omega⟩
    case measure=>simp [intOf];omega
theorem WM{err:Nat}(h:err≠0):qI err=err:=by unfold qI;rw [if_neg h]
theorem JJ(w:World)(q:Nat)(bs:List UInt8)(err:Nat)(most:Int)(hbig:bs.length≤1048576)(h:Rf w q bs err):
  Calls Tryz.prog 149 #[.pointer (some ⟨q,0,none⟩),.int .i64 most] w (Ku w q (.string (strOf (ig most bs err).1)) (ig most bs err).2.1 (ig most bs err).2.2):=by
 by_cases he:err≠0
 ·rw [wF _ _ _ he]
  have:=EJ w q bs err most h (.inl he)
  rwa [WM he] at this
 ·have he0:err=0:=by omega
  subst he0
  by_cases hl:bs.length<4
  ·have e:ig most bs 0=([],bs,2):=by unfold ig;rw [if_neg (by simp),if_pos hl]
   rw [e]
   exact EJ w q bs 0 most h (.inr hl)
  ·by_cases hm:most<(hd4 bs:Int)
   ·have e:ig most bs 0=([],bs,4):=by unfold ig;rw [if_neg (by simp),if_neg hl,if_pos hm]
    rw [e]
    exact Qb w q bs most h (by omega) hm
   ·exact Qa w q bs most h (by omega) (by omega) hbig
theorem I8(n k:Nat)(hk:k≤jf n):(4+n+k) % 4=0↔k=jf n:=by
 unfold jf at *
 omega
theorem OB(k:Nat):zeros k++[0]=zeros (k+1):=by
 unfold zeros
 rw [List.replicate_succ']
def qC(l:List UInt8)(k:Nat):List UInt8:=be4 l.length++l++zeros k
theorem pG(l:List UInt8)(k:Nat):(qC l k).length=4+l.length+k:=by simp [qC,aU,zeros];omega
theorem KH(l:List UInt8):be4 l.length++l=qC l 0:=by simp [qC,zeros]
theorem KI(l:List UInt8)(k:Nat):qC l k++[0]=qC l (k+1):=by unfold qC;rw [List.append_assoc,OB]
theorem OJ(l:List UInt8):qC l (jf l.length)=zM l:=by simp [qC,zM]
set_option maxHeartbeats 400000 in
theorem EL(w:World)(l:List UInt8)(hs:l.length≤1048576):
  Calls Tryz.prog 198 #[.string (strOf l)] w fun e w'=>e = .returned (.string (strOf (zM l)))∧Only [] w w':=by
 have hsize:(strOf l).size=l.length:=aj l
 have aaI:=nT l.length
 have h0:=KH l
 go_enter Tryz.func198,Tryz.ntmps198
 go_wp2_with fail
 refine (iW _ _ l.length (by omega) (by omega)).mono ?_
 rintro e w1 ⟨rfl,k1⟩
 go_wp2_with (refine eP _ rfl 9 9 (.tmp 7) (.tmp 8) rfl (be4 l.length) l rfl rfl (by simp [aU];omega) ?_)
 clear h0 hsize
 go_loop [3] (fun t=>∃ k:Nat,k≤jf l.length∧t = .string (strOf (qC l k))) (fun t=>4+l.length+jf l.length-strLen t)
 case atStart=>exact⟨0,Nat.zero_le _,rfl⟩
 case round=>
  obtain⟨k,hk,rfl⟩:=hrel
  have hsz:(strOf (qC l k)).size=4+l.length+k:=by rw [aj,pG]
  by_cases he:k=jf l.length
  ·have ht:((4+(l.length:Int)+(k:Int)) % 4 != 0)=false:=by
    have:=(I8 l.length k hk).2 he
    simp;omega
   have HE:=Lib.hid he
   clear he
   go_wp2
   go_ret
   refine⟨?_,k1⟩
   have:=HE.out
   subst this
   rw [←OJ]
   rfl
  ·have ht:((4+(l.length:Int)+(k:Int)) % 4 != 0)=true:=by
    have:=mt (I8 l.length k hk).1 he
    simp;omega
   have hlt:k<jf l.length:=by omega
   clear he
   have H1:=Lib.hid (KI l k)
   have H2:=Lib.hid (pG l k)
   go_wp2_with (refine eP _ rfl 9 9 (.tmp 14) _ rfl (qC l k) [0] rfl rfl (by rw [H2.out];simp;omega) ?_)
   rw [H1.out]
   go_wp2
   go_round
   case rel=>exact⟨k+1,by omega,rfl⟩
   case measure=>simp only [strLen,aj,pG];omega
end Go.Proofs.YtmelaiefbpdifaaGreatDoor
namespace Go.Proofs.YtmelaiefbpdifaaGreatDoor
open Go.RowKit Go.Maps
def yV(k v:List UInt8):List UInt8:=Dk k v++zeros (248-(Dk k v).length)
theorem FY(n:Nat):jf n≤3:=by unfold jf;omega
theorem KY{k v:List UInt8}(hk:k.length≤16)(hv:v.length≤200):(Dk k v).length≤248:=by
 rw [AO]
 have:=FY k.length
 have:=FY v.length
 omega
theorem Bd{k v:List UInt8}(hk:k.length≤16)(hv:v.length≤200):(yV k v).length=248:=by
 have:=KY hk hv
 unfold yV
 rw [List.length_append]
 simp [zeros]
 omega
theorem Ry{s:List UInt8}(h:(dO s).2.2=0):(gu s).2.2=0∧(dB s).2.2=0:=by
 have h1:(dB s).2.2=0:=Decidable.byContradiction fun hn=>by
  unfold dO at h
  rw [wF _ _ _ hn] at h
  exact hn h
 have h2:(gu s).2.2=0:=Decidable.byContradiction fun hn=>by
  unfold dB at h1
  rw [wF _ _ _ hn] at h1
  exact hn h1
 exact⟨h2,h1⟩
theorem DX{s:List UInt8}(h:(dO s).2.2=0):be4 (gu s).1++(zM (dB s).1++(zM (dO s).1++(dO s).2.1))=s∧(dB s).1.length≤16∧(dO s).1.length≤200:=by
 obtain⟨h1,h2⟩:=Ry h
 have a:=Le s h1
 have b:=AY 16 (gu s).2.1 (by unfold dB at h2;rw [h1] at h2;exact h2)
 have c:=AY 200 (dB s).2.1 (by unfold dO at h;rw [h2] at h;exact h)
 have eb:ig 16 (gu s).2.1 0=dB s:=by rw [←h1];rfl
 have ec:ig 200 (dB s).2.1 0=dO s:=by rw [←h2];rfl
 rw [eb] at b
 rw [ec] at c
 refine⟨?_,by omega,by omega⟩
 rw [c.1,b.1]
 exact a
theorem TK{l:List UInt8}(h:bM l=true):l=zeros l.length:=by
 unfold bM at h
 refine all_zero l ?_
 rw [List.any_eq_false]
 intro x hx
 have:=List.all_eq_true.1 h x hx
 simpa using this
theorem Xw{s:List UInt8}(hs:s.length=248)(h:(dO s).2.2=0)(hk:(dB s).1≠[]):goodD s=true↔yV (dB s).1 (dO s).1=s:=by
 obtain⟨h1,h2,h3⟩:=DX h
 have hk1:1≤(dB s).1.length:=by
  have:=List.length_pos_iff.2 hk
  omega
 constructor
 ·intro hg
  unfold goodD at hg
  simp only [Bool.and_eq_true,beq_iff_eq] at hg
  obtain⟨⟨_,hn⟩,_,hz⟩:=hg
  have hzz:=TK hz
  rw [hn,hzz] at h1
  have hrow:Dk (dB s).1 (dO s).1++zeros (dO s).2.1.length=s:=by
   unfold Dk
   rw [List.append_assoc,List.append_assoc]
   exact h1
  have hl:=congrArg List.length hrow
  rw [List.length_append,hs] at hl
  have:zeros (dO s).2.1.length=zeros (248-(Dk (dB s).1 (dO s).1).length):=by
   congr 1
   simp [zeros] at hl
   omega
  unfold yV
  rw [←this]
  exact hrow
 ·intro he
  have hb:=aaq (dB s).1 (dO s).1 (248-(Dk (dB s).1 (dO s).1).length) hk1 h2 h3
  rw [show Dk (dB s).1 (dO s).1++zeros (248-(Dk (dB s).1 (dO s).1).length)=s from he] at hb
  unfold qE at hb
  split at hb
  ·assumption
  ·cases hb
theorem ZA{s:List UInt8}(h:(dO s).2.2≠0∨(dB s).1 = []):goodD s=false:=by
 unfold goodD
 rcases h with h | h
 ·have:((dO s).2.2==0)=false:=by simpa using h
  rw [this]
  rfl
 ·rw [h]
  simp [oM]
def wH(s:List UInt8):List UInt8 × List UInt8 × Nat:=if bM s then ([],[],0) else match qE s with
 | some x=>(x.1,x.2,1)
 | none=>([],[],2)
def yU(s:List UInt8):Value:=.tuple #[.string (strOf (wH s).1),.string (strOf (wH s).2.1),.int .i64 ((wH s).2.2:Int)]
theorem Ed{s:List UInt8}(h:bM s=true):yU s = .tuple #[.string ⟨#[]⟩,.string ⟨#[]⟩,.int .i64 0]:=by
 have:wH s=([],[],0):=by unfold wH;rw [if_pos h]
 unfold yU
 rw [this]
 rfl
theorem I5{s:List UInt8}(h:¬bM s=true)(hg:goodD s=false):yU s = .tuple #[.string ⟨#[]⟩,.string ⟨#[]⟩,.int .i64 2]:=by
 have:wH s=([],[],2):=by unfold wH qE;rw [if_neg h,if_neg (by rw [hg];decide)]
 unfold yU
 rw [this]
 rfl
theorem I7{s:List UInt8}(h:¬bM s=true)(hg:goodD s=true):yU s = .tuple #[.string (strOf (dB s).1),.string (strOf (dO s).1),.int .i64 1]:=by
 have:wH s=((dB s).1,(dO s).1,1):=by unfold wH qE;rw [if_neg h,if_pos hg]
 unfold yU
 rw [this]
 rfl
theorem FT{M:List Rw}{x:Rw}(h:aK M x.key=none):wG M x=xI x M:=by
 unfold wG
 rw [Cj (dJ.1 h)]
def bkP(s:Sp):Bk:=⟨(s.at_:Int),if s.ch.gone then [] else yV s.ch.key s.ch.val⟩
theorem AU(n:Nat):rep n (0:UInt8)=zeros n:=by
 apply List.ext_getElem
 ·simp [zeros,lu]
 ·intro i h1 h2
  simp [zeros,rep]
theorem XD{a b:List UInt8}{n:Nat}(h:a.length+b.length+n≤256):oQ (a++(b++zeros n))=oQ (a++b):=by
 unfold oQ
 rw [AU,AU,←List.append_assoc,List.append_assoc (a++b)]
 congr 1
 simp only [zeros,List.length_append,List.length_replicate]
 rw [←List.replicate_append_replicate.symm]
 rotate_left
 congr 1
 omega
theorem Xh(n:Nat){s:Sp}(hk:s.ch.key.length≤16)(hv:s.ch.val.length≤200):jo n (bkP s)=jo n (tN s):=by
 have hr:=KY hk hv
 unfold jo bkP tN G6
 cases s.ch.gone with
 | true=>rfl
 | false=>
  simp only [Bool.false_eq_true,if_false]
  unfold yV
  exact XD (by simp [aU];omega)
theorem Ua(n:Nat){ss:List Sp}(h:∀ s∈ss,s.ch.key.length≤16∧s.ch.val.length≤200):homesOf n (ss.map bkP)=homesOf n (ss.map tN):=by
 unfold homesOf
 rw [List.map_map,List.map_map]
 refine List.map_congr_left fun s hs=> ?_
 show (⟨41+(bkP s).at_,jo n (bkP s)⟩:Bk)=⟨41+(tN s).at_,jo n (tN s)⟩
 rw [Xh n (h s hs).1 (h s hs).2]
 rfl
theorem CO(s:St)(n:Nat){ss:List Sp}(h:∀ s∈ss,s.ch.key.length≤16∧s.ch.val.length≤200):aH s n (ss.map bkP)=aH s n (ss.map tN):=by
 unfold aH
 rw [Ua _ h,List.length_map,List.length_map]
theorem Fe{s:Sp}(hk:s.ch.key.length≤16)(hv:s.ch.val.length≤200):(bkP s).data.length≤248:=by
 unfold bkP
 cases s.ch.gone with
 | true=>simp
 | false=>simp only [Bool.false_eq_true,if_false];rw [Bd hk hv];omega
theorem RU{ss:List Sp}{size:Int}(h:∀ s∈ss,s.ch.key.length≤16∧s.ch.val.length≤200)(hr:dn (ss.map tN) size):dn (ss.map bkP) size:=by
 obtain⟨h1,h2,h3⟩:=hr
 refine⟨by simpa using h1,by simpa using h2,fun i hi x hx=> ?_⟩
 have hi':i<ss.length:=by simpa using hi
 rw [List.getElem?_map,List.getElem?_eq_getElem hi'] at hx
 injection hx with hx
 subst hx
 have hg:=h3 i (by simpa using hi') (tN ss[i]) (by rw [List.getElem?_map,List.getElem?_eq_getElem hi'];rfl)
 have hm:=h _ (List.getElem_mem hi')
 refine⟨hg.1,hg.2.1,Fe hm.1 hm.2,fun k y hk hy=> ?_⟩
 rw [List.getElem?_map,List.getElem?_eq_getElem (by omega)] at hy
 injection hy with hy
 subst hy
 exact hg.2.2.2 k (tN (ss[k]'(by omega))) hk (by rw [List.getElem?_map,List.getElem?_eq_getElem (by omega)];rfl)
theorem AV{ss:List Sp}{size x:Int}{f:Bool}{n:Nat}(h:∀ s∈ss,s.ch.key.length≤16∧s.ch.val.length≤200)(hr:dn (ss.map tN) size)(hx:gX size f n (ss.map tN) x):gX size f n (ss.map bkP) x:=by
 have hp:=RU h hr
 rcases hx with⟨a,_⟩ | ⟨_,b,c⟩ | ⟨_,b,c,d⟩ | ⟨_,b,c,d⟩
 ·exact absurd hr a
 ·exact .inr (.inl ⟨hp,b,c⟩)
 ·exact .inr (.inr (.inl ⟨hp,b,c,d⟩))
 ·exact .inr (.inr (.inr ⟨hp,b,c,d⟩))
theorem MN{ss:List Sp}{s s':St}{n n':Nat}{f f':Bool}{x:Int}(h:∀ s∈ss,s.ch.key.length≤16∧s.ch.val.length≤200)(hr:dn (ss.map tN) ((s.aA.length:Int)-41))(hc:bV s n f (ss.map tN) x s' n' f'):bV s n f (ss.map bkP) x s' n' f':=by
 rcases hc with⟨a,b,c⟩ | ⟨a,b,c,d⟩
 ·exact .inl ⟨a,AV h hr b,c⟩
 ·refine .inr ⟨AV h hr a,?_,?_,d⟩
  ·rw [CO s n h];exact b
  ·rw [CO s n h];exact c
end Go.Proofs.YtmelaiefbpdifaaGreatDoor
