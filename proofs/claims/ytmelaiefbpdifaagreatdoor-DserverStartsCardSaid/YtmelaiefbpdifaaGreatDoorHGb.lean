/- Joined: Ref, Ref2, Ref3, Ref4, Like, Num, Forth, Xdr, Xdr2. -/
import Derived.Test.YtmelaiefbpdifaaGreatDoorHGa
import Derived.Scope
import Derived.WalkMore
import Derived.LoopTactic
import Derived.Deep.QuietTactic
import Derived.BigQuiet
/- The document's device in memory, and the walks of its functions. -/
namespace Go.Proofs.YtmelaiefbpdifaaGreatDoor
open Go.RowKit
theorem wR:(Tryz.prog.info? 9).map (fun i=>(i.zero,i.size,i.bytes))=some (some (.string ⟨#[]⟩),1,16):=by kernel_rfl
def xU(l:List (Nat × List UInt8)):List Value:=(l.map fun x=>[Value.int .i64 (x.1:Int),.string (strOf x.2)]).flatten
theorem IV(l:List (Nat × List UInt8))(k:Nat)(b:List UInt8):xU (l++[(k,b)])=xU l++[.int .i64 (k:Int),.string (strOf b)]:=by simp [xU]
theorem DZ(l:List (Nat × List UInt8))(i:Nat)(x:Nat × List UInt8)(h:l[i]?=some x):(xU l)[i*2]?=some (.int .i64 (x.1:Int))∧(xU l)[i*2+1]?=some (.string (strOf x.2)):=by
 have hl:∀ b∈l.map fun x=>[Value.int .i64 (x.1:Int),.string (strOf x.2)],b.length=2:=by
  intro b hb
  simp only [List.mem_map] at hb
  obtain⟨y,_,rfl⟩:=hb
  rfl
 have hg:(l.map fun x=>[Value.int .i64 (x.1:Int),.string (strOf x.2)])[i]?=some [Value.int .i64 (x.1:Int),.string (strOf x.2)]:=by simp [h]
 exact⟨rQ 2 _ i 0 _ _ hl hg rfl,rQ 2 _ i 1 _ _ hl hg rfl⟩
def Ref(w:World)(p:Nat)(G:List Nat)(s:St):Prop:=
 ∃ vf vl,Blk w p 38 #[vf,vl,.int .i64 s.fuse,.bool s.dead]∧w.ownsRow 0 9 1 vf s.aA.length (strCells s.aA)∧w.ownsRow 0 254 2 vl s.late.length (xU s.late) ∧
  (vf.ownBlock≠some p∧vl.ownBlock≠some p∧∀ g,vf.ownBlock=some g→vl.ownBlock≠some g)∧(p∈G∧(∀ g,vf.ownBlock=some g→g∈G)∧∀ g,vl.ownBlock=some g→g∈G)∧Fine s
def eF(w w':World)(p:Nat)(G:List Nat)(s:St):Prop:=∃ G',Ref w' p G' s∧Only G w w'∧∀ i∈G',(i∈G∨w.heap.size≤i)∧i<w'.heap.size
def iY(w w':World)(p:Nat)(G:List Nat)(s:St):Prop:=Ref w' p G s∧Only G w w'
section
variable {w w':World}{p:Nat}{G S:List Nat}{s:St}
theorem Ref.kept(h:Ref w p G s)(k:Only S w w')(hG:∀ i∈G,i∉S):Ref w' p G s:=by
 obtain⟨vf,vl,h1,h2,h3,h4,⟨g1,g2,g3⟩,h6⟩:=h
 exact⟨vf,vl,h1.kept k (hG _ g1),ay h2 k (fun g hg=>hG g (g2 g hg)),ay h3 k (fun g hg=>hG g (g3 g hg)),h4,⟨g1,g2,g3⟩,h6⟩
theorem Ref.mem(h:Ref w p G s):p∈G:=by
 obtain⟨vf,vl,_,_,_,_,⟨g1,_⟩,_⟩:=h
 exact g1
theorem Ref.fine(h:Ref w p G s):Fine s:=by
 obtain⟨vf,vl,_,_,_,_,_,h6⟩:=h
 exact h6
theorem Ref.trim(h:Ref w p G s):∃ G',Ref w p G' s∧(∀ i∈G',i∈G)∧∀ i∈G',i<w.heap.size:=by
 obtain⟨vf,vl,h1,h2,h3,h4,⟨g1,g2,g3⟩,h6⟩:=h
 refine⟨p :: (vf.ownBlock.toList++vl.ownBlock.toList),⟨vf,vl,h1,h2,h3,h4,⟨by simp,fun g hg=>by simp [hg],fun g hg=>by simp [hg]⟩,h6⟩,fun i hi=> ?_,fun i hi=> ?_⟩
 ·simp at hi
  rcases hi with rfl | hi | hi
  ·exact g1
  ·exact g2 i hi
  ·exact g3 i hi
 ·simp at hi
  rcases hi with rfl | hi | hi
  ·exact h1.lt
  ·exact (h2.lt i hi).2
  ·exact (h3.lt i hi).2
theorem iY.did(h:iY w w' p G s):eF w w' p G s:=by
 obtain⟨G',k1,k2,k3⟩:=h.1.trim
 exact⟨G',k1,h.2,fun i hi=>⟨.inl (k2 i hi),k3 i hi⟩⟩
theorem Ref.Az(h:Ref w p G s)(n:Int)(h0 : -9223372036854775808≤n)(h1:n≤9223372036854775807):iY w (w.setCell ⟨p,2,none⟩ (.int .i64 n)) p G { s with fuse:=n }:=by
 have hm:=h.mem
 obtain⟨vf,vl,b,o1,o2,⟨n1,n2,n3⟩,hG,fine⟩:=h
 have k:Only [p] w (w.setCell ⟨p,2,none⟩ (.int .i64 n)):=Only.set w [p] (by simp) _
 exact⟨⟨vf,vl,by simpa using b.set 2 (.int .i64 n),ay o1 k (fun g hg=>by simp;rintro rfl;exact n1 hg),ay o2 k (fun g hg=>by simp;rintro rfl;exact n2 hg),⟨n1,n2,n3⟩,hG,⟨fine.pos,fine.few,fine.aA,fine.late,h0,h1⟩⟩,Only.set w G hm _⟩
theorem Ref.FK(h:Ref w p G s)(d:Bool):iY w (w.setCell ⟨p,3,none⟩ (.bool d)) p G { s with dead:=d }:=by
 have hm:=h.mem
 obtain⟨vf,vl,b,o1,o2,⟨n1,n2,n3⟩,hG,fine⟩:=h
 have k:Only [p] w (w.setCell ⟨p,3,none⟩ (.bool d)):=Only.set w [p] (by simp) _
 exact⟨⟨vf,vl,by simpa using b.set 3 (.bool d),ay o1 k (fun g hg=>by simp;rintro rfl;exact n1 hg),ay o2 k (fun g hg=>by simp;rintro rfl;exact n2 hg),⟨n1,n2,n3⟩,hG,⟨fine.pos,fine.few,fine.aA,fine.late,fine.lo,fine.hi⟩⟩,Only.set w G hm _⟩
end
theorem uS(w:World):Calls Tryz.prog 32 #[] w fun e w'=>e = .returned (.string (strOf (rep 256 0)))∧Only [] w w':=by
 have hsrc:yL (w.alloc (.cells (List.replicate 256 (Value.int .u8 0)).toArray 5)) (.slice (some ⟨w.heap.size,0,none⟩) 256 256) 256 (ak (rep 256 0)):=by
  refine⟨_,_,rfl,by rw [aO,lu],.inr ⟨_,rfl,fun j u hu=> ?_⟩⟩
  have e:ak (rep 256 0)=List.replicate 256 (Value.int .u8 0):=List.map_replicate
  rw [e] at hu
  rw [addr_add,Nat.zero_add,(Blk.new w _ _).cell j]
  simpa only [List.getElem?_toArray] using hu
 have hc:=pK (P:=Tryz.prog) _ 103 9 5 Tryz.underlying103 Tryz.underlying5 Tryz.underlying9 _ _ _ _ hsrc
 have hk:Only [] w (w.alloc (.cells (List.replicate 256 (Value.int .u8 0)).toArray 5)):=(Only.refl [] w).alloc _
 clear hsrc
 obtain⟨C,hC⟩:∃ C,C=List.replicate 256 (Value.int .u8 0):=⟨_,rfl⟩
 rw [←hC] at hc hk
 replace hC:=Lib.hid hC
 go_enter Tryz.func32,Tryz.ntmps32
 go_wp2_with (refine gY _ rfl (.const (.int .i64 256)) (.const (.int .i64 256)) 103 rfl 5 (.int .u8 0) 1 Tryz.underlying103 (by kernel_rfl) rfl .i64 .i64 256 256 256 rfl rfl rfl rfl (by decide) (by decide) ?_;rw [←hC.out])
 go_ret
 exact⟨rfl,hk⟩
theorem zZ(w:World)(p:Nat)(G:List Nat)(s:St)(hd:Ref w p G s):
  Calls Tryz.prog 147 #[.pointer (some ⟨p,0,none⟩)] w fun e w'=>e = .returned (.bool (dZ s))∧iY w w' p G (dD s):=by
 have fine:=hd.fine
 have flo:=fine.lo
 have fhi:=fine.hi
 obtain⟨aA,late,fuse,dead⟩:=s
 obtain⟨vf,vl,hb,_⟩:=id hd
 have c3:=hb.cell 2
 have c4:=hb.cell 3
 have f3:=hb.free 2
 have f4:=hb.free 3
 simp only [List.getElem?_toArray,List.getElem?_cons_zero,List.getElem?_cons_succ] at c3 c4
 simp only at flo fhi
 have hdone:∀ n, -9223372036854775808≤n→n≤9223372036854775807→iY w (w.setCell ⟨p,2,none⟩ (.int .i64 n)) p G ⟨aA,late,n,dead⟩:=fun n h0 h1=>hd.Az n h0 h1
 have fG:iY w (w.setCell ⟨p,3,none⟩ (.bool true)) p G ⟨aA,late,fuse,true⟩:=hd.FK true
 have hrest:iY w w p G ⟨aA,late,fuse,dead⟩:=⟨hd,Only.refl G w⟩
 replace hdone:=Lib.hid hdone
 replace fG:=Lib.hid fG
 replace hrest:=Lib.hid hrest
 clear hb hd fine
 cases hdd:dead with
 | true=>
  rw [hdd] at c4
  go_enter Tryz.func147,Tryz.ntmps147
  go_wp2
  go_ret
  refine⟨by simp [dZ],?_⟩
  simpa [dD,dZ] using fG.out
 | false=>
  rw [hdd] at c4 hdone hrest
  by_cases h0:fuse=0
  ·subst h0
   go_enter Tryz.func147,Tryz.ntmps147
   go_wp2
   go_ret
   refine⟨by simp [dZ],?_⟩
   simpa [dD,dZ] using fG.out
  ·by_cases h1:0<fuse
   ·have hw:wrap64 (fuse-1)=fuse-1:=by simp only [wrap64];omega
    go_enter Tryz.func147,Tryz.ntmps147
    go_wp2
    go_ret
    refine⟨by simp [dZ,h0],?_⟩
    simpa [dD,dZ,h0,h1] using hdone.out (fuse-1) (by omega) (by omega)
   ·go_enter Tryz.func147,Tryz.ntmps147
    go_wp2
    go_ret
    refine⟨by simp [dZ,h0],?_⟩
    have e1:(if 0<fuse then fuse-1 else fuse)=fuse:=if_neg (by omega)
    simpa [dD,dZ,h0,e1] using hrest.out
end Go.Proofs.YtmelaiefbpdifaaGreatDoor
/- The document's device: Now, Read, Write. -/
namespace Go.Proofs.YtmelaiefbpdifaaGreatDoor
open Go.RowKit
theorem PN(d:List UInt8)(l:List (Nat × List UInt8))(k n:Nat)(x:Nat × List UInt8)(hx:l[n]?=some x):qg d (l.take (n+1)) k=if x.1=k then x.2 else qg d (l.take n) k:=by
 have ht:l.take (n+1)=l.take n++[x]:=by
  rw [List.take_add_one,hx]
  rfl
 rw [ht,lF]
set_option maxRecDepth 100000 in
set_option maxHeartbeats 1000000 in
theorem YW(w:World)(p:Nat)(G:List Nat)(s:St)(k:Nat)(hk:k<s.aA.length)(bY:s.late.length<1048576)(hd:Ref w p G s):
  Calls Tryz.prog 95 #[.pointer (some ⟨p,0,none⟩),.int .i64 (k:Int)] w fun e w'=>e = .returned (.string (strOf (qg (s.aA.getD k []) s.late k)))∧w'=w:=by
 obtain⟨vf,vl,hb,o1,o2,_,_,fine⟩:=id hd
 obtain⟨gf,cf,rfl,_,_⟩:=o1.form (by omega)
 obtain⟨A,cl,rfl⟩:∃ A c,vl = .slice A s.late.length c:=by
  rcases o2.2 with⟨rfl,h0⟩ | ⟨g,cap,cur,rfl,_⟩
  ·exact⟨_,_,by rw [h0]⟩
  ·exact⟨_,_,rfl⟩
 have c0:=hb.cell 0
 have c1:=hb.cell 1
 simp only [List.getElem?_toArray,List.getElem?_cons_zero,List.getElem?_cons_succ] at c0 c1
 have cf1:=o1.cells rfl k (.string (strOf (s.aA.getD k []))) (by simp [strCells,hk])
 rw [addr_add,Nat.zero_add] at cf1
 obtain⟨d,hdd⟩:∃ d,d=s.aA.getD k []:=⟨_,rfl⟩
 rw [←hdd] at cf1 ⊢
 replace hdd:=Lib.hid hdd
 go_enter Tryz.func95,Tryz.ntmps95
 go_wp2_with fail
 go_loopw [5,6] (fun t i wr=>∃ n:Nat,n≤s.late.length∧i = .int .i64 n∧t = .string (strOf (qg d (s.late.take n) k))∧wr=w) (fun _ i _=>s.late.length-(intOf i).toNat)
 case atStart=>exact⟨0,Nat.zero_le _,rfl,rfl,rfl⟩
 case round=>
  obtain⟨n,hn,rfl,rfl,hwr⟩:=hrel
  subst hwr
  by_cases hlt:n<s.late.length
  ·have hx:s.late[n]?=some s.late[n]:=List.getElem?_eq_getElem hlt
   obtain⟨r1,r2⟩:=DZ s.late n _ hx
   obtain⟨g,c,hv,_,_⟩:=o2.form (by omega)
   rw [hv] at o2 c1
   have q0:=o2.cells rfl _ _ r1
   have q1:=o2.cells rfl _ _ r2
   rw [addr_add,Nat.zero_add] at q0 q1
   have Kw:=Lib.hid (PN d s.late k n _ hx)
   generalize s.late[n]=x at *
   clear r1 r2 hv
   by_cases hxk:x.1=k
   ·have e:=Kw.out
    rw [if_pos hxk] at e
    have abW:(x.1:Int)=(k:Int):=by rw [hxk]
    rw [abW] at q0
    replace e:=Lib.hid e
    clear Kw hxk abW
    go_wp2
    go_roundw
    case rel=>exact⟨n+1,by omega,by go_num,by rw [e.out],by trivial⟩
    case measure=>simp [intOf];omega
   ·have e:=Kw.out
    rw [if_neg hxk] at e
    have abW:¬(x.1:Int)=(k:Int):=by omega
    replace e:=Lib.hid e
    clear Kw
    go_wp2
    go_roundw
    case rel=>exact⟨n+1,by omega,by go_num,by rw [e.out],by trivial⟩
    case measure=>simp [intOf];omega
  ·have hnl:n=s.late.length:=by omega
   have hend:qg d (s.late.take n) k=qg d s.late k:=by rw [hnl,List.take_of_length_le (Nat.le_refl _)]
   rw [hend]
   clear hend
   have hge:(s.late.length:Int)≤n:=by omega
   go_wp2
   go_ret
   exact⟨rfl,by trivial⟩
theorem KE:(Tryz.prog.info? 254).map (fun i=>(i.zero,i.size,i.bytes))=some (some (.agg #[.int .i64 0,.string ⟨#[]⟩]),2,24):=by kernel_rfl
set_option maxRecDepth 100000 in
set_option maxHeartbeats 1000000 in
theorem sJ(w:World)(p:Nat)(G:List Nat)(s:St)(k:Int)(b:List UInt8)(hk0 : -9223372036854775808≤k)(hk1:k≤9223372036854775807)(hlen:s.late.length<1048576)(hd:Ref w p G s):
  Calls Tryz.prog 98 #[.pointer (some ⟨p,0,none⟩),.int .i64 k,.string (strOf b)] w fun e w'=>e = .returned (.int .i64 (aI s k b))∧eF w w' p G (written s k b):=by
 have hsz:(strOf b).size=b.length:=aj b
 obtain⟨bs,hbs⟩:∃ bs,bs=strOf b:=⟨_,rfl⟩
 obtain⟨vf,vl,hb0,o1,o2,_,_,fine⟩:=id hd
 have hpos:=fine.pos
 obtain⟨gf,cf,rfl,_,_⟩:=o1.form (by omega)
 have c0:=hb0.cell 0
 simp only [List.getElem?_toArray,List.getElem?_cons_zero] at c0
 have hsame:eF w w p G s:=iY.did ⟨hd,Only.refl G w⟩
 cases hh:(bF s.aA.length k && decide (b.length=256)) with
 | false=>
  have e1:aI s k b=1:=by rw [aI,if_pos hh]
  have e2:written s k b=s:=by rw [written,if_pos hh]
  rw [e1,e2,←hbs]
  rw [←hbs] at hsz
  replace hbs:=Lib.hid hbs
  replace hsame:=Lib.hid hsame
  have hcase:k<0∨(0≤k∧(s.aA.length:Int)≤k)∨(0≤k∧k<(s.aA.length:Int)∧¬(b.length:Int)=256):=by
   simp only [bF,Bool.and_eq_false_iff,decide_eq_false_iff_not] at hh
   omega
  clear e1 e2 hh
  generalize b.length=bn at *
  rcases hcase with h | ⟨h,h'⟩ | ⟨h,h',h''⟩
  all_goals
   try (have hq:((bn:Int) != 256)=true:=by simpa using h'')
   go_enter Tryz.func98,Tryz.ntmps98
   go_wp2
   go_ret
   exact⟨rfl,hsame.out⟩
 | true=>
  have hh':(0≤k∧k<(s.aA.length:Int))∧b.length=256:=by simpa [bF] using hh
  obtain⟨⟨h1,h2⟩,h3⟩:=hh'
  rw [h3] at hsz
  cases qJ:dZ s with
  | false=>
   have e1:aI s k b=5:=by rw [aI,if_neg (by rw [hh];decide),if_pos qJ]
   have e2:written s k b=dD s:=by rw [written,if_neg (by rw [hh];decide),if_pos qJ]
   rw [e1,e2,←hbs]
   rw [←hbs] at hsz
   replace hbs:=Lib.hid hbs
   clear e1 e2
   go_enter Tryz.func98,Tryz.ntmps98
   go_wp2_with fail
   refine (zZ w p G s hd).mono ?_
   rintro e w2 ⟨rfl,hs2⟩
   rw [qJ]
   have hs3:=Lib.hid hs2.did
   clear hs2
   go_wp2
   go_ret
   exact⟨rfl,hs3.out⟩
  | true=>
   obtain⟨k,rfl⟩:=Int.eq_ofNat_of_zero_le h1
   have e1:aI s (k:Int) b=0:=by rw [aI,if_neg (by rw [hh];decide),if_neg (by rw [qJ];decide)]
   have e2:written s (k:Int) b = { dD s with late:=s.late++[(k,b)] }:=by rw [written,if_neg (by rw [hh];decide),if_neg (by rw [qJ];decide)];rfl
   have N9:=fine.written (k:Int) b
   rw [e2] at N9
   rw [e1,e2,←hbs]
   rw [←hbs] at hsz
   replace hbs:=Lib.hid hbs
   replace N9:=Lib.hid N9
   clear e1 e2
   go_enter Tryz.func98,Tryz.ntmps98
   go_wp2_with fail
   refine (zZ w p G s hd).mono ?_
   rintro e w2 ⟨rfl,hs2,k12⟩
   rw [qJ]
   obtain⟨vf2,vl2,b2,of2,ol2,⟨n1,n2,n3⟩,⟨g1,g2,g3⟩,_⟩:=hs2
   rw [dK] at of2
   rw [iC] at ol2
   have d1:=b2.cell 1
   simp only [List.getElem?_toArray,List.getElem?_cons_zero,List.getElem?_cons_succ] at d1
   obtain⟨ti,ht1,ht2,ht3,ht4⟩:=info_parts KE
   replace ht1:=Lib.hid ht1
   replace ht2:=Lib.hid ht2
   replace ht3:=Lib.hid ht3
   replace ht4:=Lib.hid ht4
   have news:=World.news_of_block (Blk.new w2 254 #[.int .i64 (k:Int),.string bs])
   have ka:Only [] w2 (w2.alloc (.cells #[.int .i64 (k:Int),.string bs] 254)):=(Only.refl [] w2).alloc _
   have zJ:=ay ol2 ka (by simp)
   have d1a:=ka.cell d1 (by simp)
   have hone:∀ u∈[Value.int .i64 (k:Int),.string bs],u.oneCell'=true:=by
    intro u hu
    simp at hu
    rcases hu with rfl | rfl<;>rfl
   go_wp2_with (at_builtin;refine wpList_append_lies _ rfl (.tmp 30) (.tmp 34) 36 rfl 0 254 ti (.agg #[.int .i64 0,.string ⟨#[]⟩]) 2 24 Tryz.underlying36 ht1.out ht2.out ht3.out ht4.out rfl (by decide) vl2 s.late.length _ rfl zJ ⟨w2.heap.size,0,none⟩ 1 1 [.int .i64 (k:Int),.string bs] rfl rfl news hone (by decide) (by unfold maxLen;omega) (by omega) (Nat.zero_le _) _ rfl ?go)
   case go=>
    intro g5 cp w5 hown5 hgrow hat Kz
    have hpl:p<w2.heap.size:=b2.lt
    have b5:=(hgrow.block p (Nat.lt_of_lt_of_le hpl ka.size) (fun e=>n2 e.symm)).trans (b2.kept ka (by simp))
    have e1:=(Blk.cell b5 1)
    have e2:=Blk.free b5 1
    simp only [List.getElem?_toArray,List.getElem?_cons_zero,List.getElem?_cons_succ] at e1
    have k25:Only G w2 w5:=(ka.more (T:=G) (by simp)).grown hgrow (fun j hj=>.inl (g3 j hj))
    have ug:Only [p] w5 (w5.setCell ⟨p,1,none⟩ (.slice (some ⟨g5,0,none⟩) (s.late.length+1) cp)):=Only.set w5 [p] (by simp) _
    have b6:=b5
    have b7:=Blk.set (w:=w5) b6 1 (.slice (some ⟨g5,0,none⟩) (s.late.length+1) cp)
    simp only [List.setIfInBounds_toArray,List.set_cons_zero,List.set_cons_succ] at b7
    have hg5:vl2.ownBlock=some g5∨w2.heap.size≤g5:=hat.imp id (fun e=>by have:=ka.size;omega)
    have adJ:g5≠p:=by
     rcases hg5 with h | h
     ·rintro rfl;exact n2 h
     ·omega
    have of5:w5.ownsRow 0 9 1 vf2 s.aA.length (strCells s.aA):=by
     refine⟨of2.1,?_⟩
     rcases of2.2 with h0 | ⟨g,cap,cur,hv,hb',hg,r⟩
     ·exact .inl h0
     ·refine .inr ⟨g,cap,cur,hv,hb',?_,r⟩
      have hgv:vf2.ownBlock=some g:=by rw [hv];rfl
      have hgl:=(of2.lt g hgv).2
      rw [hgrow.block g (Nat.lt_of_lt_of_le hgl ka.size) (fun e=>n3 g hgv e.symm),ka.block g hgl (by simp)]
      exact hg
    have hvg:∀ g,vf2.ownBlock=some g→(some g5:Option Nat)≠some g:=by
     intro g hg e
     injection e with e
     subst e
     rcases hg5 with h | h
     ·exact n3 _ hg h
     ·have:=(of2.lt _ hg).2
      omega
    have hfin:eF w (w5.setCell ⟨p,1,none⟩ (.slice (some ⟨g5,0,none⟩) (s.late.length+1) cp)) p G { dD s with late:=s.late++[(k,b)] }:=by
     have k17:Only G w (w5.setCell ⟨p,1,none⟩ (.slice (some ⟨g5,0,none⟩) (s.late.length+1) cp)):=(k12.trans k25).then ug (by simp;exact .inl g1)
     have hsz5:(w5.setCell ⟨p,1,none⟩ (.slice (some ⟨g5,0,none⟩) (s.late.length+1) cp)).heap.size=w5.heap.size:=by simp [World.setCell]
     refine⟨p :: g5 :: vf2.ownBlock.toList,⟨vf2,.slice (some ⟨g5,0,none⟩) (s.late.length+1) cp,b7,?_,?_,⟨n1,by simpa [Value.ownBlock] using adJ,hvg⟩,⟨by simp,fun g hg=>by simp [hg],by simp [Value.ownBlock]⟩,N9.out⟩,k17,fun i hi=> ?_⟩
     ·rw [dK]
      exact ay of5 ug (fun g hg=>by simp;rintro rfl;exact n1 hg)
     ·have:=ay hown5 ug (by simpa [Value.ownBlock] using adJ)
      rw [hbs.out] at this
      rw [IV]
      simpa using this
     ·rw [hsz5]
      simp at hi
      rcases hi with rfl | rfl | hi
      ·exact⟨.inl g1,by have:=Blk.lt b5;omega⟩
      ·refine⟨?_,Kz⟩
       rcases hg5 with h | h
       ·exact .inl (g3 _ h)
       ·exact .inr (Nat.le_trans k12.size h)
      ·exact⟨.inl (g2 i hi),by have:=(of5.lt i hi).2;omega⟩
    replace hfin:=Lib.hid hfin
    clear hown5 hgrow hat b5 b6 b7 of5 k25 ug zJ news ka d1a b2 of2 ol2 k12
    go_wp2
    go_ret
    exact⟨rfl,hfin.out⟩
end Go.Proofs.YtmelaiefbpdifaaGreatDoor
/- The document's device: Barrier, Crash. -/
namespace Go.Proofs.YtmelaiefbpdifaaGreatDoor
open Go.RowKit
theorem uQ{w:World}{e:TypeId}{z g cap n i:Nat}{xs:List Value}(h:w.ownsRow 0 e z (.slice (some ⟨g,0,none⟩) n cap) n xs)(u:Value):(w.setCell ⟨g,i,none⟩ u).ownsRow 0 e z (.slice (some ⟨g,0,none⟩) n cap) n (xs.set i u):=by
 refine⟨by rw [List.length_set];exact h.1,?_⟩
 rcases h.2 with⟨h0,_⟩ | ⟨g',cap',cur,hv,hb,hg,h1,h2,h3,h4⟩
 ·cases h0
 ·injection hv with hv1 _ hv3
  injection hv1 with hv1
  injection hv1 with hv1
  subst hv1
  subst hv3
  refine .inr ⟨g,cap,cur.setIfInBounds i u,rfl,hb,Blk.set hg i u,h1,h2,by simpa using h3,?_⟩
  rw [Array.toList_setIfInBounds,List.take_set,h4]
theorem KW(keep:Nat)(l:List (Nat × List UInt8))(f:List (List UInt8))(n:Nat)(x:Nat × List UInt8)(hx:l[n]?=some x):
  strCells (settle keep (l.take (n+1)) f)=if nV keep n then (strCells (settle keep (l.take n) f)).set x.1 (.string (strOf x.2)) else strCells (settle keep (l.take n) f):=by
 rw [uM keep l f n x hx]
 split
 ·rw [yO]
 ·rfl
theorem vU(l:List (List UInt8)):(strCells l).length=l.length:=by simp [strCells]
theorem nC{w:World}{e:TypeId}{z g cap n:Nat}{xs:List Value}(h:w.ownsRow 0 e z (.slice (some ⟨g,0,none⟩) n cap) n xs)(i:Nat):w.frozen? ⟨g,i,none⟩=false:=by
 rcases h.2 with⟨h0,_⟩ | ⟨g',cap',cur,hv,hb,hg,h1,h2,h3,h4⟩
 ·cases h0
 ·injection hv with hv1 _ hv3
  injection hv1 with hv1
  injection hv1 with hv1
  subst hv1
  exact Blk.free hg i
set_option maxRecDepth 100000 in
set_option maxHeartbeats 2000000 in
theorem ny(w:World)(p:Nat)(G:List Nat)(s:St)(bY:s.late.length<1048576)(hd:Ref w p G s):
  Calls Tryz.prog 99 #[.pointer (some ⟨p,0,none⟩)] w fun e w'=>e = .returned (.int .i64 (dW s))∧iY w w' p G (bD s):=by
 cases hb:dZ s with
 | false=>
  have herr:dW s=5:=by simp [dW,hb]
  have hst:bD s=dD s:=by unfold bD;rw [if_pos hb]
  rw [herr,hst]
  clear herr hst
  go_enter Tryz.func99,Tryz.ntmps99
  go_wp2_with fail
  refine (zZ w p G s hd).mono ?_
  rintro e w1 ⟨rfl,h1⟩
  rw [hb]
  replace h1:=Lib.hid h1
  go_wp2
  go_ret
  exact⟨rfl,h1.out⟩
 | true=>
  have herr:dW s=0:=by simp [dW,hb]
  have hst:bD s=bW (dD s) 18446744073709551615:=by unfold bD;rw [if_neg (by rw [hb];decide)]
  obtain⟨t,ht⟩:∃ t,t=dD s:=⟨_,rfl⟩
  have hl1:t.late.length<1048576:=by rw [ht,iC];exact bY
  rw [herr,hst,←ht]
  clear herr hst
  have qJ:=zZ w p G s hd
  rw [hb,←ht] at qJ
  clear ht hd bY
  obtain⟨aA,late,fuse,dead⟩:=t
  simp only at hl1
  go_enter Tryz.func99,Tryz.ntmps99
  go_wp2_with fail
  refine qJ.mono ?_
  rintro e w1 ⟨rfl,h1⟩
  clear qJ
  obtain⟨h1,k1⟩:=h1
  have fine:=h1.fine
  obtain⟨vf,vl,b2,of2,ol2,⟨n1,n2,n3⟩,⟨g1,g2,g3⟩,_⟩:=h1
  simp only at b2 of2 ol2
  have hpos:=fine.pos
  have hfew:=fine.few
  simp only at hpos hfew
  obtain⟨gf,cf,rfl,_,_⟩:=of2.form (by omega)
  obtain⟨A,cl,rfl⟩:∃ A c,vl = .slice A late.length c:=by
   rcases ol2.2 with⟨rfl,h0⟩ | ⟨g,cap,cur,rfl,_⟩
   ·exact⟨_,_,by rw [h0]⟩
   ·exact⟨_,_,rfl⟩
  simp only [Value.ownBlock] at n1
  go_wp2_with fail
  go_loopw [3] (fun i wr=>∃ n:Nat,n≤late.length∧i = .int .i64 n∧Blk wr p 38 #[.slice (some ⟨gf,0,none⟩) aA.length cf,.slice A late.length cl,.int .i64 fuse,.bool dead]∧wr.ownsRow 0 9 1 (.slice (some ⟨gf,0,none⟩) aA.length cf) aA.length (strCells (settle 18446744073709551615 (late.take n) aA))∧Only [gf] w1 wr) (fun i _=>late.length-(intOf i).toNat)
  case atStart=>exact⟨0,Nat.zero_le _,rfl,b2,by simpa [DU] using of2,Only.refl _ _⟩
  case round=>
   obtain⟨n,hn,rfl,b3,of3,k3⟩:=hrel
   have c0:=b3.cell 0
   have c1:=b3.cell 1
   simp only [List.getElem?_toArray,List.getElem?_cons_zero,List.getElem?_cons_succ] at c0 c1
   by_cases hlt:n<late.length
   ·have hx:late[n]?=some late[n]:=List.getElem?_eq_getElem hlt
    obtain⟨r1,r2⟩:=DZ late n _ hx
    have ol3:=ay ol2 k3 (fun g hg=>by simp;rintro rfl;exact n3 _ rfl hg)
    obtain⟨g,c,hv,_,_⟩:=ol3.form (by omega)
    rw [hv] at ol3 c1
    have q0:=ol3.cells rfl _ _ r1
    have q1:=ol3.cells rfl _ _ r2
    rw [addr_add,Nat.zero_add] at q0 q1
    have hstep:=Lib.hid (KW 18446744073709551615 late aA n _ hx)
    have hkb:=NV n
    have hfx:late[n].1<aA.length:=(fine.late _ (List.mem_of_getElem? hx)).1
    generalize late[n]=x at *
    clear r1 r2
    have hstep:=hstep.out
    rw [if_pos hkb] at hstep
    replace hstep:=Lib.hid hstep
    clear ol3
    go_wp2_with fail
    go_still_tail 21,(by kernel_rfl)
    have kd:Only [] wr wr.drew:=(Only.refl [] wr).drew
    change wpList _ _ _ _ _ wr.drew
    have of4:=ay of3 kd (by simp)
    have b4:=b3.kept kd (by simp)
    have k4:=k3.drew
    generalize wr.drew=wd at *
    have e3:∃ u,wd.cell? ⟨gf,x.1,none⟩=some u:=by
     have hl:x.1<(strCells (settle 18446744073709551615 (late.take n) aA)).length:=by rw [vU,dL];exact hfx
     refine⟨(strCells (settle 18446744073709551615 (late.take n) aA))[x.1],?_⟩
     have:=of4.cells rfl x.1 _ (List.getElem?_eq_getElem hl)
     rwa [addr_add,Nat.zero_add] at this
    obtain⟨u,e3⟩:=e3
    have e4:=nC of4 x.1
    have of5:=uQ (i:=x.1) of4 (.string (strOf x.2))
    have ug:Only [gf] wd (wd.setCell ⟨gf,x.1,none⟩ (.string (strOf x.2))):=Only.set wd [gf] (by simp) _
    have b5:=b4.kept ug (by simpa using fun e=>n1 (by rw [←e]))
    have k5:=k4.then ug (by simp)
    have hst:=hstep.out
    rw [←hst] at of5
    replace of5:=Lib.hid of5
    replace b5:=Lib.hid b5
    replace k5:=Lib.hid k5
    clear of3 of4 b3 b4 k3 k4 kd ug hst
    go_wp2
    go_roundw
    case rel=>exact⟨n+1,by omega,by go_num,b5.out,of5.out,k5.out⟩
    case measure=>simp [intOf];omega
   ·have hnl:n=late.length:=by omega
    subst hnl
    rw [List.take_of_length_le (Nat.le_refl _)] at of3
    have f1:=b3.free 1
    have kp:Only [p] wr (wr.setCell ⟨p,1,none⟩ (.slice none 0 0)):=Only.set wr [p] (by simp) _
    have hend:iY w (wr.setCell ⟨p,1,none⟩ (.slice none 0 0)) p G (bW ⟨aA,late,fuse,dead⟩ 18446744073709551615):=by
     have hset:=b3.set 1 (.slice none 0 0)
     simp only [List.setIfInBounds_toArray,List.set_cons_zero,List.set_cons_succ] at hset
     refine⟨⟨.slice (some ⟨gf,0,none⟩) aA.length cf,.slice none 0 0,hset,?_,World.ownsRow_nil _ 0 _ 2,⟨by simpa [Value.ownBlock] using n1,by simp [Value.ownBlock],by simp [Value.ownBlock]⟩,⟨g1,g2,by simp [Value.ownBlock]⟩,fine.settled _⟩,?_⟩
     ·have:=ay of3 kp (by simpa [Value.ownBlock] using n1)
      simpa only [bW,dL] using this
     ·have h3:=k1.then (k3.more (T:=G) (fun i hi=>.inl (by simp at hi;subst hi;exact g2 _ rfl))) (fun i hi=>.inl hi)
      exact h3.then kp (by simp;exact .inl g1)
    replace hend:=Lib.hid hend
    clear b3 of3 k3 kp b2 of2 ol2
    go_wp2
    go_ret
    exact⟨rfl,hend.out⟩
end Go.Proofs.YtmelaiefbpdifaaGreatDoor
/- The document's device: New, and an act of it. -/
namespace Go.Proofs.YtmelaiefbpdifaaGreatDoor
open Go.RowKit
theorem Iy(k:Nat)(b:List UInt8):strCells (List.replicate k b)++[.string (strOf b)]=strCells (List.replicate (k+1) b):=by
 rw [List.replicate_succ']
 simp [strCells]
set_option maxRecDepth 100000 in
set_option maxHeartbeats 2000000 in
theorem VP(w:World)(N:Nat)(h1:1≤N)(h2:N≤1024):
  Calls Tryz.prog 11 #[.int .i64 (N:Int)] w fun e w'=>∃ p G,e = .returned (.pointer (some ⟨p,0,none⟩))∧Ref w' p G (fresh N)∧Only [] w w'∧∀ i∈G,w.heap.size≤i∧i<w'.heap.size:=by
 obtain⟨ti,ht1,ht2,ht3,ht4⟩:=info_parts wR
 replace ht1:=Lib.hid ht1
 replace ht2:=Lib.hid ht2
 replace ht3:=Lib.hid ht3
 replace ht4:=Lib.hid ht4
 obtain⟨p,hp⟩:∃ p,p=w.heap.size:=⟨_,rfl⟩
 have b0:Blk (w.alloc (.cells #[.slice none 0 0,.slice none 0 0,.int .i64 (-1),.bool false] 38)) p 38 #[.slice none 0 0,.slice none 0 0,.int .i64 (-1),.bool false]:=by rw [hp];exact Blk.new w _ _
 have k0:Only [] w (w.alloc (.cells #[.slice none 0 0,.slice none 0 0,.int .i64 (-1),.bool false] 38)):=(Only.refl [] w).alloc _
 have hpw:w.heap.size≤p:=by omega
 go_enter Tryz.func11,Tryz.ntmps11
 go_wp2_with fail
 rw [←hp]
 generalize w.alloc (.cells #[.slice none 0 0,.slice none 0 0,.int .i64 (-1),.bool false] 38)=W at *
 replace hp:=Lib.hid hp
 go_loopw [5] (fun i wr=>∃ k:Nat,k≤N∧i = .int .i64 k∧∃ vf,Blk wr p 38 #[vf,.slice none 0 0,.int .i64 (-1),.bool false]∧wr.ownsRow 0 9 1 vf k (strCells (List.replicate k (rep 256 0)))∧vf.ownBlock≠some p∧(∀ g,vf.ownBlock=some g→w.heap.size≤g)∧Only [] w wr) (fun i _=>N-(intOf i).toNat)
 case atStart=>exact⟨0,Nat.zero_le _,rfl,.slice none 0 0,b0,World.ownsRow_nil _ 0 _ 1,by simp [Value.ownBlock],by simp [Value.ownBlock],k0⟩
 case round=>
  clear b0 k0
  obtain⟨k,hk,rfl,vf,hb,hown,hne,hnew,hkept⟩:=hrel
  by_cases hlt:k<N
  ·have t0:=hb.cell 0
   simp only [List.getElem?_toArray,List.getElem?_cons_zero] at t0
   obtain⟨x,hx⟩:∃ x,x=strOf (rep 256 0):=⟨_,rfl⟩
   have hnot:∀ W,Calls Tryz.prog 32 #[] W fun e w'=>e = .returned (.string x)∧Only [] W w':=fun W=>by rw [hx];exact uS W
   have hone:∀ u∈[Value.string x],u.oneCell'=true:=by
    intro u hu
    simp at hu
    subst hu
    rfl
   replace hnot:=Lib.hid hnot
   replace hx:=Lib.hid hx
   go_wp2_with fail
   go_region_law (first
    | (refine step_append_lies _ rfl (.tmp 22) (.tmp 24) 35 rfl 0 9 ti (.string ⟨#[]⟩) 1 16 Tryz.underlying35 ht1.out ht2.out ht3.out ht4.out rfl (by decide) vf k _ rfl zJ ⟨wb.heap.size,0,none⟩ 1 1 [.string x] rfl rfl news hone (by decide) (by unfold maxLen;omega) (by omega) (Nat.zero_le _) _ rfl ?_;intro g cp w5 hown5 hgrow hat Kz;have b5:=(hgrow.block p bpa.lt (fun e=>hne e.symm)).trans bpa;have e1:=(Blk.cell b5 0).trans ((Blk.cell bpa 0).symm.trans t2);have e2:=Blk.free b5 0)
    | (go_simp;go_at_call 32;refine (hnot.out _).mono ?_;rintro e wb ⟨rfl,kb⟩;replace kb:=kb.Ii;have t1:=kb.cell t0 (by simp);have ka:=kb.alloc (.cells #[.string x] 9);have t2:=ka.cell t0 (by simp);have zJ:=yX hown ka (by simp);have news:=World.news_of_block (Blk.new wb 9 #[.string x]);have bpa:=hb.kept ka (by simp)))
   all_goals
    have hown6:w5.ownsRow 0 9 1 (.slice (some ⟨g,0,none⟩) (k+1) cp) (k+1) (strCells (List.replicate (k+1) (rep 256 0))):=by
     rw [←Iy,←hx.out]
     exact hown5
    have hgw:vf.ownBlock=some g∨w.heap.size≤g∧wr.heap.size≤g:=by
     rcases hat with h | h
     ·exact .inl h
     ·have:=ka.size
      have:=hkept.size
      exact .inr (by omega)
    have hgp:g≠p:=by
     rcases hgw with h | h
     ·rintro rfl;exact hne h
     ·have:=hb.lt;omega
    have ug:Only [p] w5 (w5.setCell ⟨p,0,none⟩ (.slice (some ⟨g,0,none⟩) (k+1) cp)):=Only.set w5 [p] (by simp) _
    have b6:=Blk.set b5 0 (.slice (some ⟨g,0,none⟩) (k+1) cp)
    simp only [List.setIfInBounds_toArray,List.set_cons_zero] at b6
    have ZT:=ay hown6 ug (by simpa [Value.ownBlock] using hgp)
    have k6:Only [] w (w5.setCell ⟨p,0,none⟩ (.slice (some ⟨g,0,none⟩) (k+1) cp)):=((hkept.trans ka).grown hgrow (fun j hj=>.inr (hnew j hj))).then ug (by simp;exact hpw)
    have Ub:∀ g',(Value.slice (some ⟨g,0,none⟩) (k+1) cp).ownBlock=some g'→w.heap.size≤g':=by
     intro g' hg'
     simp only [Value.ownBlock,Option.some.injEq] at hg'
     subst hg'
     rcases hgw with h | h
     ·exact hnew _ h
     ·exact h.1
    replace b6:=Lib.hid b6
    replace ZT:=Lib.hid ZT
    replace k6:=Lib.hid k6
    replace Ub:=Lib.hid Ub
    clear hown5 hown6 hgrow hat b5 bpa ug zJ news t0 t1 t2 hb hown hnew hgw
    go_wp2
    go_roundw
    case rel=>exact⟨k+1,by omega,by go_num,_,b6.out,ZT.out,by simpa [Value.ownBlock] using hgp,Ub.out,k6.out⟩
    case measure=>simp [intOf];omega
  ·have hkN:k=N:=by omega
   have hge:(N:Int)≤k:=by omega
   have hfin:∃ G,Ref wr p G (fresh N)∧∀ i∈G,w.heap.size≤i∧i<wr.heap.size:=by
    subst hkN
    refine⟨p :: vf.ownBlock.toList,⟨vf,.slice none 0 0,hb,?_,World.ownsRow_nil _ 0 _ 2,⟨hne,by simp [Value.ownBlock],by simp [Value.ownBlock]⟩,⟨by simp,fun g hg=>by simp [hg],by simp [Value.ownBlock]⟩,EO k h1 h2⟩,fun i hi=> ?_⟩
    ·rw [jk]
     exact hown
    ·simp at hi
     rcases hi with rfl | hi
     ·exact⟨hpw,hb.lt⟩
     ·exact⟨hnew i hi,(hown.lt i hi).2⟩
   obtain⟨G,hr,hG⟩:=hfin
   replace hr:=Lib.hid hr
   replace hG:=Lib.hid hG
   clear hb hown
   go_wp2
   go_ret
   exact⟨p,G,rfl,hr.out,hkept,hG.out⟩
end Go.Proofs.YtmelaiefbpdifaaGreatDoor
/- Two devices that answer alike: a fuse below nought is none. -/
namespace Go.Proofs.YtmelaiefbpdifaaGreatDoor
open Go.RowKit
theorem eF.from{w w0 w':World}{p:Nat}{G:List Nat}{s:St}(k:Only [] w w0)(h:eF w0 w' p G s):eF w w' p G s:=by
 obtain⟨G',h1,h2,h3⟩:=h
 exact⟨G',h1,(k.more (T:=G) (by simp)).then h2 (fun _ hi=>.inl hi),fun i hi=>⟨(h3 i hi).1.imp id (fun h=>Nat.le_trans k.size h),(h3 i hi).2⟩⟩
theorem eF.mono{w w':World}{p:Nat}{F G:List Nat}{s:St}(h:eF w w' p F s)(hG:∀ i∈F,i∈G):eF w w' p G s:=by
 obtain⟨F',h1,h2,h3⟩:=h
 exact⟨F',h1,h2.more (fun i hi=>.inl (hG i hi)),fun i hi=>⟨(h3 i hi).1.imp (hG i) id,(h3 i hi).2⟩⟩
theorem eF.cell{w w':World}{p:Nat}{F:List Nat}{s:St}(h:eF w w' p F s){a:Addr}{v:Value}(hc:w.cell? a=some v)(ha:a.block∉F):w'.cell? a=some v:=by
 obtain⟨F',h1,h2,h3⟩:=h
 exact h2.cell hc ha
def Like(s t:St):Prop:=s.aA=t.aA∧s.late=t.late∧s.dead=t.dead∧(s.fuse=t.fuse∨(s.fuse<0∧t.fuse<0))
theorem Like.dZ{s t:St}(h:Like s t):dZ s=dZ t:=by
 obtain⟨_,_,h3,h4⟩:=h
 have:s.fuse=0↔t.fuse=0:=by omega
 simp only [Go.Proofs.YtmelaiefbpdifaaGreatDoor.dZ,h3,this]
theorem Like.dD{s t:St}(h:Like s t):Like (dD s) (dD t):=by
 have hb:=h.dZ
 obtain⟨h1,h2,h3,h4⟩:=h
 refine⟨by rw [dK,dK,h1],by rw [iC,iC,h2],?_,?_⟩
 ·unfold Go.Proofs.YtmelaiefbpdifaaGreatDoor.dD
  rw [hb]
  split
  ·exact h3
  ·rfl
 ·unfold Go.Proofs.YtmelaiefbpdifaaGreatDoor.dD
  rw [hb]
  split
  ·show (if 0<s.fuse then s.fuse-1 else s.fuse)=(if 0<t.fuse then t.fuse-1 else t.fuse)∨((if 0<s.fuse then s.fuse-1 else s.fuse)<0∧(if 0<t.fuse then t.fuse-1 else t.fuse)<0)
   split<;>split<;>omega
  ·exact h4
theorem Like.aI{s t:St}(h:Like s t)(k:Int)(b:List UInt8):aI s k b=aI t k b:=by
 unfold Go.Proofs.YtmelaiefbpdifaaGreatDoor.aI
 rw [h.1,h.dZ]
theorem Like.written{s t:St}(h:Like s t)(k:Int)(b:List UInt8):Like (written s k b) (written t k b):=by
 have hb:=h.dD
 unfold Go.Proofs.YtmelaiefbpdifaaGreatDoor.written
 rw [h.1,h.dZ]
 split
 ·exact h
 ·split
  ·exact hb
  ·obtain⟨h1,h2,h3,h4⟩:=hb
   exact⟨h1,by simp only;rw [h.2.1],h3,h4⟩
theorem Like.settled{s t:St}(h:Like s t)(keep:Nat):Like (bW s keep) (bW t keep):=by
 obtain⟨h1,h2,h3,h4⟩:=h
 exact⟨by simp only [bW,h1,h2],rfl,h3,h4⟩
theorem Like.dW{s t:St}(h:Like s t):dW s=dW t:=by
 unfold Go.Proofs.YtmelaiefbpdifaaGreatDoor.dW
 rw [h.dZ]
theorem Like.bD{s t:St}(h:Like s t):Like (bD s) (bD t):=by
 unfold Go.Proofs.YtmelaiefbpdifaaGreatDoor.bD
 rw [h.dZ]
 split
 ·exact h.dD
 ·exact h.dD.settled _
theorem Like.lit{s t:St}(h:Like s t)(n:Int):Like (lit s n) (lit t (if n<0 then -1 else n)):=by
 obtain⟨h1,h2,h3,_⟩:=h
 refine⟨h1,h2,h3,?_⟩
 simp only [Go.Proofs.YtmelaiefbpdifaaGreatDoor.lit]
 split<;>omega
theorem Like.crashed{s t:St}(h:Like s t)(keep:Nat):Like (crashed s keep) (crashed t keep):=by
 obtain⟨h1,h2,_,_⟩:=h.settled keep
 exact⟨h1,h2,rfl,.inl rfl⟩
theorem Like.read{s t:St}(h:Like s t)(k:Int):readB s k=readB t k∧iQ s k=iQ t k:=by
 obtain⟨h1,h2,h3,_⟩:=h
 simp only [readB,iQ,h1,h2,h3,and_self]
end Go.Proofs.YtmelaiefbpdifaaGreatDoor
/- Numbers of four bytes and texts with noughts behind: the given functions of stage 4 (Number, at, fill, whole). -/
namespace Go.Proofs.YtmelaiefbpdifaaGreatDoor
open Go.RowKit
def be4(n:Nat):List UInt8:=[UInt8.ofNat (n / 16777216),UInt8.ofNat (n / 65536),UInt8.ofNat (n / 256),UInt8.ofNat n]
theorem aU(n:Nat):(be4 n).length=4:=rfl
theorem Na(n:Nat):kL (UInt8.ofNat n) = .int .u8 ((n % 256:Nat):Int):=by
 unfold kL
 simp
def jg(l:List UInt8)(i:Nat):Nat:=(l.getD i 0).toNat*16777216+(l.getD (i+1) 0).toNat*65536+(l.getD (i+2) 0).toNat*256+(l.getD (i+3) 0).toNat
theorem jP(l:List UInt8)(i:Nat):jg l i<4294967296:=by
 have h0:=(l.getD i 0).toNat_lt
 have h1:=(l.getD (i+1) 0).toNat_lt
 have h2:=(l.getD (i+2) 0).toNat_lt
 have h3:=(l.getD (i+3) 0).toNat_lt
 unfold jg
 omega
theorem NK(n:Nat)(hn:n<4294967296)(a r:List UInt8):jg (a++(be4 n++r)) a.length=n:=by
 have e:∀ j,j<4→(a++(be4 n++r)).getD (a.length+j) 0=(be4 n).getD j 0:=by
  intro j hj
  rw [List.getD_eq_getElem?_getD,List.getD_eq_getElem?_getD,List.getElem?_append_right (by omega),Nat.add_sub_cancel_left,List.getElem?_append_left (by rw [aU];exact hj)]
 have e0:=e 0 (by decide)
 have e1:=e 1 (by decide)
 have e2:=e 2 (by decide)
 have e3:=e 3 (by decide)
 rw [Nat.add_zero] at e0
 unfold jg
 rw [e0,e1,e2,e3]
 simp [be4]
 omega
def oQ(l:List UInt8):List UInt8:=l++rep (256-l.length) 0
theorem zu(l:List UInt8)(h:l.length≤256):(oQ l).length=256:=by
 unfold oQ
 rw [List.length_append,lu]
 omega
theorem bQ{P:Program}(t:TypeId)(ht:P.underlying t=some .string)(bs:List UInt8)(i:Nat)(x:Int)(k:IntKind)(hx:x=i)(h:i<bs.length):
  ∀ W:World,(Instr.index t (.string (strOf bs)) (.int k x)).run P W = .ok (.int .u8 (((bs.getD i 0).toNat:Nat):Int)) W:=by
 intro W
 subst hx
 have hs:=aj bs
 rw [run_index_string W t _ k _ ht,dif_pos ⟨by omega,by omega⟩]
 rw [List.getD_eq_getElem?_getD,List.getElem?_eq_getElem h]
 rfl
theorem iy{P:Program}(t:TypeId)(ht:P.underlying t=some .string)(bs:List UInt8)(i:Nat)(x:Int)(k:IntKind)(hx:x=i)(h:i≤bs.length):
  ∀ W:World,(Instr.slice t (.string (strOf bs)) (some (.int k x)) none none).run P W = .ok (.string (strOf (bs.drop i))) W:=by
 intro W
 subst hx
 have hs:=aj bs
 rw [run_slice_string_from_if W t _ k _ ht,if_pos ⟨by omega,by omega⟩,hs]
 congr 2
 show (ByteArray.mk bs.toArray).extract _ _=_
 rw [ByteArray.extract_mk,Int.toNat_natCast,List.take_of_length_le (by simp)]
 rfl
theorem Rl(w:World)(n:Nat)(x:Int)(hx:x=n)(hn:n<4294967296):yL (w.alloc (.cells #[.int .u8 (x / 16777216),.int .u8 (x / 65536 % 256),.int .u8 (x / 256 % 256),.int .u8 (x % 256)] 5)) (.slice (some ⟨w.heap.size,0,none⟩) 4 4) 4 (ak (be4 n)):=by
 subst hx
 have e:ak (be4 n) = [.int .u8 ((n:Int) / 16777216),.int .u8 ((n:Int) / 65536 % 256),.int .u8 ((n:Int) / 256 % 256),.int .u8 ((n:Int) % 256)]:=by
  unfold ak be4
  simp only [List.map_cons,List.map_nil,Na]
  congr 2
  omega
 rw [e]
 refine⟨_,_,rfl,rfl,.inr ⟨_,rfl,fun j u hu=> ?_⟩⟩
 rw [addr_add,Nat.zero_add,(Blk.new w 5 _).cell j]
 simpa using hu
theorem iW(w:World)(x:Int)(n:Nat)(hx:x=n)(hn:n<4294967296):
  Calls Tryz.prog 52 #[.int .u32 x] w fun e w'=>e = .returned (.string (strOf (be4 n)))∧Only [] w w':=by
 have h0:0≤x:=by omega
 have h1:x<4294967296:=by omega
 have hs:=Lib.hid (Rl w n x hx hn)
 clear hx
 go_enter Tryz.func52,Tryz.ntmps52
 go_wp2_with (refine dQ _ rfl 103 9 5 (.tmp 17) rfl Tryz.underlying103 Tryz.underlying5 Tryz.underlying9 _ 4 4 (be4 n) rfl hs.out ?_)
 go_ret
 exact⟨rfl,(Only.refl [] w).alloc _⟩
theorem Fg(w:World)(l:List UInt8)(i:Nat)(h:i+4≤l.length)(hl:l.length≤1048576):
  Calls Tryz.prog 96 #[.string (strOf l),.int .i64 (i:Int)] w fun e w'=>e = .returned (.int .u32 (jg l i:Int))∧Only [] w w':=by
 have i0:=bQ (P:=Tryz.prog) 9 Tryz.underlying9 l i (i:Int) .i64 rfl (by omega)
 have i1:=bQ (P:=Tryz.prog) 9 Tryz.underlying9 l (i+1) ((i:Int)+1) .i64 (by omega) (by omega)
 have i2:=bQ (P:=Tryz.prog) 9 Tryz.underlying9 l (i+2) ((i:Int)+2) .i64 (by omega) (by omega)
 have i3:=bQ (P:=Tryz.prog) 9 Tryz.underlying9 l (i+3) ((i:Int)+3) .i64 (by omega) (by omega)
 have b0:=(l.getD i 0).toNat_lt
 have b1:=(l.getD (i+1) 0).toNat_lt
 have b2:=(l.getD (i+2) 0).toNat_lt
 have b3:=(l.getD (i+3) 0).toNat_lt
 unfold jg
 generalize (l.getD i 0).toNat=n0 at *
 generalize (l.getD (i+1) 0).toNat=n1 at *
 generalize (l.getD (i+2) 0).toNat=n2 at *
 generalize (l.getD (i+3) 0).toNat=n3 at *
 generalize strOf l=s at *
 have hi:(i:Int)≤1048576:=by omega
 have k1:IntKind.i64.wrap ((i:Int)+1)=(i:Int)+1:=by rw [IntKind.wrap_i64];omega
 have k2:IntKind.i64.wrap ((i:Int)+2)=(i:Int)+2:=by rw [IntKind.wrap_i64];omega
 have k3:IntKind.i64.wrap ((i:Int)+3)=(i:Int)+3:=by rw [IntKind.wrap_i64];omega
 go_enter Tryz.func96,Tryz.ntmps96
 go_wp2
 go_quiet (fail)
 go_wp2
 go_ret
 exact⟨by simp,(Only.refl [] w).drewN _⟩
def pU(l:List UInt8)(k:Nat):List UInt8:=l++rep k 0
theorem jd(l:List UInt8)(k:Nat):(pU l k).length=l.length+k:=by unfold pU;rw [List.length_append,lu]
theorem Ec(l:List UInt8)(k:Nat):pU l k++[0]=pU l (k+1):=by unfold pU;rw [rep_succ,List.append_assoc]
theorem Eb(l:List UInt8):pU l 0=l:=by simp [pU,rep]
theorem SB(l:List UInt8)(k:Nat)(h:k≤256-l.length)(h2:256≤l.length+k):pU l k=oQ l:=by
 have:k=256-l.length:=by omega
 unfold pU oQ
 rw [this]
set_option maxRecDepth 100000 in
theorem Oj(w:World)(l:List UInt8)(hl:l.length≤1048576):
  Calls Tryz.prog 200 #[.string (strOf l)] w fun e w'=>e = .returned (.string (strOf (oQ l)))∧w'=w:=by
 go_enter Tryz.func200,Tryz.ntmps200
 go_wp2_with fail
 go_loopw [0] (fun s wr=>∃ k:Nat,k≤256-l.length∧s = .string (strOf (pU l k))∧wr=w) (fun s _=>256-strLen s)
 case atStart=>exact⟨0,Nat.zero_le _,by rw [Eb],rfl⟩
 case round=>
  obtain⟨k,hk,rfl,hwr⟩:=hrel
  subst hwr
  have hsz:(strOf (pU l k)).size=l.length+k:=by rw [aj,jd]
  have hlen:=jd l k
  by_cases hlt:l.length+k<256
  ·have abC:=Lib.hid (Ec l k)
   have hmk:=jd l (k+1)
   generalize hy:pU l k=y at *
   replace hy:=Lib.hid hy
   have hlt':(y.length:Int)<256:=by omega
   have hsz':((strOf y).size:Int)<256:=by omega
   replace hlen:=Lib.hid hlen
   replace hsz:=Lib.hid hsz
   replace hmk:=Lib.hid hmk
   replace hk:=Lib.hid hk
   replace hlt:=Lib.hid hlt
   replace hl:=Lib.hid hl
   go_wp2_with (refine eP _ rfl 9 9 (.tmp 6) (.const (.string ⟨#[0]⟩)) rfl y [0] rfl rfl (by have:=hlen.out;have:=hlt.out;simp;omega) ?_)
   go_roundw
   case rel=>exact⟨k+1,by have:=hk.out;have:=hlt.out;omega,by rw [abC.out],by trivial⟩
   case measure=>have:=hlen.out;have:=hlt.out;simp only [strLen,aj,List.length_append,List.length_cons,List.length_nil];omega
  ·have hge:(256:Int)≤(strOf (pU l k)).size:=by omega
   rw [SB l k hk (by omega)] at hge ⊢
   obtain⟨y,hy⟩:∃ y,y=strOf (oQ l):=⟨_,rfl⟩
   rw [←hy] at hge ⊢
   replace hy:=Lib.hid hy
   clear hsz hlen hlt
   go_wp2
   go_ret
   exact⟨by rw [←hy.out];rfl,by trivial⟩
theorem gZ{P:Program}(t:TypeId)(ht:P.underlying t=some .string)(bs:List UInt8)(j:Nat)(y:Int)(k:IntKind)(hy:y=j)(h:j≤bs.length):
  ∀ W:World,(Instr.slice t (.string (strOf bs)) none (some (.int k y)) none).run P W = .ok (.string (strOf (bs.take j))) W:=by
 intro W
 subst hy
 have hs:=aj bs
 rw [run_slice_string_to_if W t _ k _ ht,if_pos ⟨by omega,by omega⟩]
 congr 2
 show (ByteArray.mk bs.toArray).extract _ _=_
 rw [ByteArray.extract_mk,Int.toNat_natCast]
 simp [strOf]
end Go.Proofs.YtmelaiefbpdifaaGreatDoor
/- A scope in which the run jumps forth to one label, and does not jump again behind it: of no program. -/
namespace Go.Proofs.YtmelaiefbpdifaaGreatDoor
def fE(P:Program)(l:Nat)(rest:Code)(Q:Exit→Act→World→Prop):Exit→Act→World→Prop
 | .goto l',a,w=>l'=l∧rest.wp P (Exit.noGoto Q) a w
 | e,a,w=>Q e a w
section
variable {P:Program}{a:Act}{w:World}{Q:Exit→Act→World→Prop}{l:Nat}{rest:Code}
theorem fE.normal:fE P l rest Q .normal a w=Q .normal a w:=rfl
theorem fE.exit(id:Nat):fE P l rest Q (.exit id) a w=Q (.exit id) a w:=rfl
theorem fE.ret:fE P l rest Q .ret a w=Q .ret a w:=rfl
theorem fE.panic(ch:List PanicEntry):fE P l rest Q (.panic ch) a w=Q (.panic ch) a w:=rfl
theorem fE.jump(h:rest.wp P (Exit.noGoto Q) a w):fE P l rest Q (.goto l) a w:=⟨rfl,h⟩
theorem aT{c:Code}(l:Nat)(hf:findLabel c l=some rest)(h:c.wp P (fE P l rest Q) a w):(Code.scope c).wp P Q a w:=by
 intro b k cs
 have hg:gotoIn l (.inScope c :: k)=some (.code rest :: .inScope c :: k):=by simp [gotoIn,hf]
 obtain⟨e,a1,w1,hq,harr⟩:=h b (.inScope c :: k) cs
 cases e with
 | normal=>exact⟨.normal,a1,w1,hq,.head step_scope (Steps.trans harr (.one step_inScope))⟩
 | exit id=>exact⟨.exit id,a1,w1,hq,fun k' hk=>.head step_scope (harr k' (by simp [exitTo,hk]))⟩
 | goto l'=>
  obtain⟨rfl,hr⟩:=hq
  obtain⟨e2,a2,w2,hq2,Ui⟩:=hr b (.inScope c :: k) cs
  have hs:=harr _ hg
  cases e2 with
  | normal=>exact⟨.normal,a2,w2,hq2,.head step_scope (Steps.trans hs (Steps.trans Ui (.one step_inScope)))⟩
  | exit id=>exact⟨.exit id,a2,w2,hq2,fun k' hk=>.head step_scope (Steps.trans hs (Ui k' (by simp [exitTo,hk])))⟩
  | goto l'=>exact hq2.elim
  | ret=>exact⟨_,a2,w2,hq2,.of_steps (.head step_scope hs) Ui⟩
  | panic ch=>exact⟨_,a2,w2,hq2,.of_steps (.head step_scope hs) Ui⟩
  | outgrown=>exact⟨_,a2,w2,hq2,.of_steps (.head step_scope hs) Ui⟩
 | ret=>exact⟨_,a1,w1,hq,.of_steps (.one step_scope) harr⟩
 | panic ch=>exact⟨_,a1,w1,hq,.of_steps (.one step_scope) harr⟩
 | outgrown=>exact⟨_,a1,w1,hq,.of_steps (.one step_scope) harr⟩
end
end Go.Proofs.YtmelaiefbpdifaaGreatDoor
/- Package xdr, as far as stage 4 calls it: a writer's numbers and bytes, a reader's numbers. -/
namespace Go.Proofs.YtmelaiefbpdifaaGreatDoor
open Go.RowKit
def KA(a b c d:UInt8):Nat:=a.toNat*16777216+b.toNat*65536+c.toNat*256+d.toNat
theorem ZJ(a b c d:UInt8):KA a b c d<4294967296:=by
 have:=a.toNat_lt;have:=b.toNat_lt;have:=c.toNat_lt;have:=d.toNat_lt
 unfold KA;omega
def hd4:List UInt8→Nat
 | a :: b :: c :: d :: _=>KA a b c d
 | _=>0
theorem uq(l:List UInt8):hd4 l<4294967296:=by
 unfold hd4
 split
 ·exact ZJ _ _ _ _
 ·omega
theorem four(l:List UInt8)(h:4≤l.length):∃ a b c d r,l=a :: b :: c :: d :: r:=by
 match l,h with
 | a :: b :: c :: d :: r,_=>exact⟨a,b,c,d,r,rfl⟩
def bP(bs:List UInt8)(err:Nat):Nat × List UInt8 × Nat:=
 if err≠0 then (0,bs,err) else if bs.length<4 then (0,bs,2) else (hd4 bs,bs.drop 4,0)
theorem TN:(Tryz.prog.info? 5).map (fun i=>(i.zero,i.size,i.bytes))=some (some (.int .u8 0),1,1):=by kernel_rfl
def Wr(w:World)(p:Nat)(F:List Nat)(bs:List UInt8):Prop:=
 ∃ v,Blk w p 249 #[v]∧w.ownsRow 0 5 1 v bs.length (ak bs)∧v.ownBlock≠some p∧∀ k,v.ownBlock=some k→k∈F
def Wrote(w w':World)(p:Nat)(F:List Nat)(bs:List UInt8):Prop:=
 ∃ F',Wr w' p F' bs∧Only (p :: F) w w'∧∀ k∈F',k∈F∨w.heap.size≤k
def Gives(R:World→Prop)(e:Ending)(w':World):Prop:=e = .returned (.tuple #[])∧R w'
theorem Wr.lt{w:World}{p:Nat}{F:List Nat}{bs:List UInt8}(h:Wr w p F bs):p<w.heap.size:=by
 obtain⟨v,h1,_⟩:=h
 exact h1.lt
theorem Wr.kept{S:List Nat}{w w':World}{p:Nat}{F:List Nat}{bs:List UInt8}(h:Wr w p F bs)(k:Only S w w')(hp:p∉S)(hF:∀ i∈F,i∉S):Wr w' p F bs:=by
 obtain⟨v,h1,h2,h3,h4⟩:=h
 exact⟨v,h1.kept k hp,yX h2 k (fun g hg=>hF g (h4 g hg)),h3,h4⟩
theorem Wrote.from{w w0 w':World}{p:Nat}{F:List Nat}{bs:List UInt8}(k:Only [] w w0)(h:Wrote w0 w' p F bs):Wrote w w' p F bs:=by
 obtain⟨F',h1,h2,h3⟩:=h
 refine⟨F',h1,(k.more (T:=p :: F) (by simp)).then h2 (fun _ hi=>.inl hi),fun i hi=>(h3 i hi).imp id (fun h=>Nat.le_trans k.size h)⟩
theorem Wrote.join{w w1 w2:World}{p:Nat}{F F1:List Nat}{bs:List UInt8}(k:Only (p :: F) w w1)(hF:∀ i∈F1,i∈F∨w.heap.size≤i)(h:Wrote w1 w2 p F1 bs):Wrote w w2 p F bs:=by
 obtain⟨F2,h1,h2,h3⟩:=h
 refine⟨F2,h1,k.then h2 (fun i hi=> ?_),fun i hi=> ?_⟩
 ·rcases List.mem_cons.1 hi with rfl | hi
  ·exact .inl (by simp)
  ·exact (hF i hi).imp (fun h=>by simp [h]) id
 ·rcases h3 i hi with h | h
  ·exact hF i h
  ·exact .inr (Nat.le_trans k.size h)
theorem VX{w w1:World}{p:Nat}{F:List Nat}{bs l:List UInt8}{old v':Value}(hb:Blk w p 249 #[old])(hne:old.ownBlock≠some p)(hF:∀ k,old.ownBlock=some k→k∈F)
  (hown1:w1.ownsRow 0 5 1 v' (bs.length+l.length) (ak bs++ak l)) (hg:w.grownBy w1 old.ownBlock) (hat:v'.ownBlock=old.ownBlock∨v'.ownBlock=some w.heap.size):
  Wrote w (w1.setCell ⟨p,0,none⟩ v') p F (bs++l):=by
 have hb1:Blk w1 p 249 #[old]:=(hg.block p hb.lt (fun e=>hne e.symm)).trans hb
 have hv:v'.ownBlock≠some p:=by
  rcases hat with h | h
  ·rw [h];exact hne
  ·rw [h];intro e;injection e with e;have:=hb.lt;omega
 refine⟨v'.ownBlock.toList,⟨v',by simpa using hb1.set 0 v',?_,hv,fun k hk=>by simp [hk]⟩,?_,fun k hk=> ?_⟩
 ·rw [List.length_append,Hr]
  exact Lm hown1 hv _
 ·exact ((Only.refl (p :: F) w).grown hg (fun k hk=>.inl (by simp [hF k hk]))).setCell (.inl (by simp)) _
 ·have hk':v'.ownBlock=some k:=by simpa using hk
  rcases hat with h | h
  ·exact .inl (hF k (by rw [←h];exact hk'))
  ·rw [h] at hk'
   injection hk' with hk'
   exact .inr (by omega)
set_option maxHeartbeats 400000 in
theorem put_any(w:World)(p:Nat)(F:List Nat)(bs:List UInt8)(x:Value)(l:List UInt8)(hw:Wr w p F bs)(hx:yL w x l.length (ak l))(hlen:bs.length+l.length≤1048576):
  Calls Tryz.prog 195 #[.pointer (some ⟨p,0,none⟩),x] w (Gives (fun w'=>Wrote w w' p F (bs++l))):=by
 obtain⟨v,hb,hown,hne,hF⟩:=hw
 obtain⟨A,c,rfl⟩:=pW hown
 obtain⟨A',c',rfl,hrest⟩:=id hx
 have hcell:=hb.cell 0
 simp only [List.getElem?_toArray,List.getElem?_cons_zero] at hcell
 go_enter Tryz.func195,Tryz.ntmps195
 go_wp2_with (at_builtin;refine xM _ rfl (.tmp 10) (.tmp 11) 103 rfl 5 (.int .u8 0) 1 Tryz.underlying103 TN rfl (.slice A bs.length c) bs.length (ak bs) rfl hown (.slice A' l.length c') l.length (ak l) rfl hx (lI l) ?c1 ?c2 ?go)
 case c1=>unfold maxLen;omega
 case c2=>omega
 case go=>
  intro v' w1 hown1 hg hat
  have hdone:=Lib.hid (VX hb hne hF hown1 hg hat)
  obtain⟨A1,c1,rfl⟩:=pW hown1
  have hb1:Blk w1 p 249 #[.slice A bs.length c]:=(hg.block p hb.lt (fun e=>hne e.symm)).trans hb
  have k0:=hb1.cell 0
  simp only [List.getElem?_toArray,List.getElem?_cons_zero] at k0
  have k1:=hb1.free 0
  clear hat hF hne hrest hx
  go_wp2
  go_end0
  exact⟨rfl,hdone.out⟩
theorem gB(w:World)(p:Nat)(F:List Nat)(bs:List UInt8)(x:Int)(n:Nat)(hx:x=n)(hn:n<4294967296)(hw:Wr w p F bs)(hlen:bs.length+4≤1048576):
  Calls Tryz.prog 143 #[.pointer (some ⟨p,0,none⟩),.int .u32 x] w (Gives (fun w'=>Wrote w w' p F (bs++be4 n))):=by
 have h0:0≤x:=by omega
 have h1:x<4294967296:=by omega
 have hs:=Lib.hid (Rl w n x hx hn)
 clear hx
 go_enter Tryz.func143,Tryz.ntmps143
 go_wp2_with fail
 refine (put_any _ p F bs _ (be4 n) (hw.kept ((Only.refl [] w).alloc _) (by simp) (by simp)) hs.out hlen).mono ?_
 rintro e w1 ⟨rfl,hw1⟩
 go_wp2
 go_end0
 exact⟨rfl,hw1.from ((Only.refl [] w).alloc _)⟩
theorem mJ(w:World)(p:Nat)(F:List Nat)(bs:List UInt8)(hw:Wr w p F bs):
  Calls Tryz.prog 145 #[.pointer (some ⟨p,0,none⟩)] w fun e w'=>e = .returned (.string (strOf bs))∧w=w':=by
 obtain⟨v,hb,hown,hne,hF⟩:=hw
 obtain⟨A,c,rfl⟩:=pW hown
 have hcell:=hb.cell 0
 simp only [List.getElem?_toArray,List.getElem?_cons_zero] at hcell
 have hsrc:=Bf hown
 go_enter Tryz.func145,Tryz.ntmps145
 go_wp2_with (refine dQ _ rfl 103 9 5 (.tmp 8) rfl Tryz.underlying103 Tryz.underlying5 Tryz.underlying9 A bs.length c bs rfl hsrc ?_)
 go_ret
 exact⟨rfl,rfl⟩
theorem FB(i:Nat)(x y:Int)(hx0:0≤x)(hx:x % 2 ^ i=0)(hx1:x<4294967296)(hy0:0≤y)(hy:y<2 ^ i)(hy1:y<4294967296):bits .or .u32 x y=x+y:=
 bits_join .u32 32 (by decide) (fun n h0 h1=>by rw [IntKind.wrap_u32];omega) i x y hx0 hx (by omega) hy0 hy (by omega)
theorem Ls(a b c d:UInt8):bits .or .u32 (bits .or .u32 (bits .or .u32 ((a.toNat:Int)*16777216) ((b.toNat:Int)*65536)) ((c.toNat:Int)*256)) (d.toNat:Int)=(KA a b c d:Nat):=by
 have:=a.toNat_lt;have:=b.toNat_lt;have:=c.toNat_lt;have:=d.toNat_lt
 rw [FB 24 ((a.toNat:Int)*16777216) _ (by omega) (by omega) (by omega) (by omega) (by omega) (by omega),
  FB 16 ((a.toNat:Int)*16777216+(b.toNat:Int)*65536) _ (by omega) (by omega) (by omega) (by omega) (by omega) (by omega),
  FB 8 ((a.toNat:Int)*16777216+(b.toNat:Int)*65536+(c.toNat:Int)*256) _ (by omega) (by omega) (by omega) (by omega) (by omega) (by omega)]
 unfold KA
 omega
theorem Jc(w:World)(g o n c:Nat)(a0 a1 a2 a3:UInt8)(h0:w.cell? ⟨g,o,none⟩=some (.int .u8 (a0.toNat:Int)))(h1:w.cell? ⟨g,o+1,none⟩=some (.int .u8 (a1.toNat:Int)))
  (h2:w.cell? ⟨g,o+2,none⟩=some (.int .u8 (a2.toNat:Int))) (h3:w.cell? ⟨g,o+3,none⟩=some (.int .u8 (a3.toNat:Int))) (hn:4≤n):
  Calls Tryz.prog 166 #[.slice (some ⟨g,o,none⟩) n c] w fun e w'=>e = .returned (.int .u32 (KA a0 a1 a2 a3:Nat))∧∃ m,w'=w.drewN m:=by
 have b0:(a0.toNat:Int)<256:=by have:=a0.toNat_lt;omega
 have b1:(a1.toNat:Int)<256:=by have:=a1.toNat_lt;omega
 have b2:(a2.toNat:Int)<256:=by have:=a2.toNat_lt;omega
 have b3:(a3.toNat:Int)<256:=by have:=a3.toNat_lt;omega
 have hn':(4:Int)≤n:=by omega
 rw [←Ls]
 go_enter Tryz.func166,Tryz.ntmps166
 go_wp2
 go_quiet (fail)
 go_wp2
 go_ret
 exact⟨rfl,_,rfl⟩
theorem sZ(w:World)(g o n c:Nat)(l:List UInt8)(hb:BytesAt w g o l)(hl:4≤l.length)(hn:4≤n):
  Calls Tryz.prog 166 #[.slice (some ⟨g,o,none⟩) n c] w fun e w'=>e = .returned (.int .u32 (hd4 l:Nat))∧∃ m,w'=w.drewN m:=by
 obtain⟨a0,a1,a2,a3,r,rfl⟩:=four l hl
 have h0:=hb 0 (by simp)
 have h1:=hb 1 (by simp)
 have h2:=hb 2 (by simp)
 have h3:=hb 3 (by simp)
 exact Jc w g o n c a0 a1 a2 a3 h0 h1 h2 h3 hn
structure xG(w:World)(p g o c:Nat)(bs:List UInt8)(err:Nat):Prop where
 blk:Blk w p 262 #[.slice (some ⟨g,o,none⟩) bs.length c,.int .i64 (err:Int)]
 ne:g≠p
 le:bs.length≤c
 max:c≤maxLen
 bytes:BytesAt w g o bs
def Rd(w:World)(p g:Nat)(bs:List UInt8)(err:Nat):Prop:=∃ o c,xG w p g o c bs err
theorem xG.kept{S:List Nat}{w w':World}{p g o c:Nat}{bs:List UInt8}{err:Nat}(h:xG w p g o c bs err)(k:Only S w w')(hp:p∉S)(hg:g∉S):xG w' p g o c bs err:=
 ⟨h.blk.kept k hp,h.ne,h.le,h.max,h.bytes.kept k hg⟩
theorem Rd.kept{S:List Nat}{w w':World}{p g:Nat}{bs:List UInt8}{err:Nat}(h:Rd w p g bs err)(k:Only S w w')(hp:p∉S)(hg:g∉S):Rd w' p g bs err:=by
 obtain⟨o,c,h⟩:=h
 exact⟨o,c,h.kept k hp hg⟩
theorem xG.drewN{w:World}{p g o c:Nat}{bs:List UInt8}{err:Nat}(h:xG w p g o c bs err)(m:Nat):xG (w.drewN m) p g o c bs err:=⟨h.blk,h.ne,h.le,h.max,h.bytes⟩
theorem Rd.drewN{w:World}{p g:Nat}{bs:List UInt8}{err:Nat}(h:Rd w p g bs err)(m:Nat):Rd (w.drewN m) p g bs err:=by
 obtain⟨o,c,h⟩:=h
 exact⟨o,c,h.drewN m⟩
theorem xG.c0{w:World}{p g o c:Nat}{bs:List UInt8}{err:Nat}(h:xG w p g o c bs err):w.cell? ⟨p,0,none⟩=some (.slice (some ⟨g,o,none⟩) bs.length c):=by simpa using h.blk.cell 0
theorem xG.c1{w:World}{p g o c:Nat}{bs:List UInt8}{err:Nat}(h:xG w p g o c bs err):w.cell? ⟨p,1,none⟩=some (.int .i64 (err:Int)):=by simpa using h.blk.cell 1
theorem og(w:World)(p g o c:Nat)(bs:List UInt8)(err:Nat)(h:xG w p g o c bs err):
  Calls Tryz.prog 135 #[.pointer (some ⟨p,0,none⟩)] w fun e w'=>e = .returned (.int .i64 (err:Int))∧w=w':=by
 have h1:=h.c1
 go_enter Tryz.func135,Tryz.ntmps135
 go_wp2
 go_ret
 exact⟨rfl,rfl⟩
theorem qp(w:World)(p g:Nat)(bs:List UInt8)(err e':Nat)(h:Rd w p g bs err):
  Calls Tryz.prog 167 #[.pointer (some ⟨p,0,none⟩),.int .i64 (e':Int)] w fun e w'=>e = .returned (.tuple #[])∧Rd w' p g bs e'∧Only [p] w w':=by
 obtain⟨o,c,h⟩:=h
 have h1:=h.c1
 have f1:=h.blk.free 1
 have hdone:Rd (w.setCell ⟨p,1,none⟩ (.int .i64 (e':Int))) p g bs e'∧Only [p] w (w.setCell ⟨p,1,none⟩ (.int .i64 (e':Int))):=by
  have k:Only [p] w (w.setCell ⟨p,1,none⟩ (.int .i64 (e':Int))):=(Only.refl [p] w).setCell (.inl (by simp)) _
  exact⟨⟨o,c,by simpa using h.blk.set 1 (.int .i64 (e':Int)),h.ne,h.le,h.max,h.bytes.kept k (by simpa using h.ne)⟩,k⟩
 have H:=Lib.hid hdone
 clear hdone
 go_enter Tryz.func167,Tryz.ntmps167
 go_wp2
 go_end0
 exact⟨rfl,H.out⟩
theorem zy{w:World}{p g o c n:Nat}{bs:List UInt8}{err:Nat}(h:xG w p g o c bs err)(o':Nat)(ho:n<c→o'=o+n):
  Rd (w.setCell ⟨p,0,none⟩ (.slice (some ⟨g,o',none⟩) (bs.length-n) (c-n))) p g (bs.drop n) err∧Only [p] w (w.setCell ⟨p,0,none⟩ (.slice (some ⟨g,o',none⟩) (bs.length-n) (c-n))):=by
 have k:Only [p] w (w.setCell ⟨p,0,none⟩ (.slice (some ⟨g,o',none⟩) (bs.length-n) (c-n))):=(Only.refl [p] w).setCell (.inl (by simp)) _
 refine⟨⟨o',c-n,by simpa using h.blk.set 0 (.slice (some ⟨g,o',none⟩) (bs.length-n) (c-n)),h.ne,by have:=h.le;simp;omega,by have:=h.max;omega,?_⟩,k⟩
 by_cases hc:n<c
 ·obtain rfl:=ho hc
  exact (h.bytes.kept k (by simpa using h.ne)).drop n
 ·have:=h.le
  rw [List.drop_of_length_le (by omega)]
  exact BytesAt.nil _ _ _
theorem CJ(w:World)(p g o c:Nat)(bs:List UInt8)(err:Nat)(A:Option Addr)(n c':Nat)(h:xG w p g o c bs err)(hn:n≤bs.length):
  Calls Tryz.prog 165 #[.pointer (some ⟨p,0,none⟩),.slice A n c'] w fun e w'=>e = .returned (.tuple #[])∧Rd w' p g (bs.drop n) err∧Only [p] w w':=by
 have h0:=h.c0
 have f0:=h.blk.free 0
 have hm:=h.max
 have hle:=h.le
 unfold maxLen at hm
 have H1:=Lib.hid (zy (n:=n) h (o+n) (fun _=>rfl))
 have H2:=Lib.hid (zy (n:=n) (o':=o) h)
 clear h
 go_enter Tryz.func165,Tryz.ntmps165
 go_wp2
 ·have hcn:c=n:=by assumption
  have h2:=H2.out (by intro h;omega)
  rw [show c-n=0 by omega] at h2
  go_end0
  exact⟨rfl,h2⟩
 ·go_end0
  exact⟨rfl,H1.out⟩
attribute [local go_sem] fE.normal fE.exit fE.ret fE.panic
theorem Wx(w:World)(p g o c:Nat)(bs:List UInt8)(err:Nat)(n:Int)(h:xG w p g o c bs err)(he:err≠0):
  Calls Tryz.prog 164 #[.pointer (some ⟨p,0,none⟩),.int .u64 n] w fun e w'=>e = .returned (.tuple #[.slice none 0 0,.int .i64 (err:Int)])∧w=w':=by
 have he':((err:Int) != 0)=true:=by simp;omega
 go_enter Tryz.func164,Tryz.ntmps164
 go_wp2_with fail
 refine aT 0 rfl ?_
 go_wp2_with fail
 refine (og _ p g o c bs err h).mono ?_
 rintro e w1 ⟨rfl,rfl⟩
 go_wp2_with fail
 go_step3
 refine⟨rfl,?_⟩
 go_wp2
 rw [Exit.noGoto_ret]
 go_ret2
 exact⟨rfl,rfl⟩
theorem Eo(w:World)(p g o c:Nat)(bs:List UInt8)(n:Int)(h:xG w p g o c bs 0)(hn:(bs.length:Int)<n):
  Calls Tryz.prog 164 #[.pointer (some ⟨p,0,none⟩),.int .u64 n] w fun e w'=>e = .returned (.tuple #[.slice none 0 0,.int .i64 2])∧w=w':=by
 have h0:=h.c0
 have hm:=h.max
 have hle:=h.le
 have hl:bs.length≤9223372036854775807:=by unfold maxLen at hm;omega
 clear hm hle
 go_enter Tryz.func164,Tryz.ntmps164
 go_wp2_with fail
 refine aT 0 rfl ?_
 go_wp2_with fail
 refine (og _ p g o c bs 0 h).mono ?_
 rintro e w1 ⟨rfl,rfl⟩
 go_wp2_with fail
 go_step3
 refine⟨rfl,?_⟩
 go_wp2
 rw [Exit.noGoto_ret]
 go_ret2
 exact⟨rfl,rfl⟩
theorem xY(w:World)(p g o c:Nat)(bs:List UInt8)(x:Int)(n:Nat)(hx:x=n)(h:xG w p g o c bs 0)(hn:n≤bs.length):
  Calls Tryz.prog 164 #[.pointer (some ⟨p,0,none⟩),.int .u64 x] w fun e w'=>e = .returned (.tuple #[.slice (some ⟨g,o,none⟩) n c,.int .i64 0])∧w=w':=by
 have h0:=h.c0
 have hm:=h.max
 have hle:=h.le
 have hl:bs.length≤9223372036854775807:=by unfold maxLen at hm;omega
 subst hx
 clear hm
 go_enter Tryz.func164,Tryz.ntmps164
 go_wp2_with fail
 refine aT 0 rfl ?_
 go_wp2_with fail
 refine (og _ p g o c bs 0 h).mono ?_
 rintro e w1 ⟨rfl,rfl⟩
 go_wp2_with fail
 rw [fE.ret]
 go_ret2
 exact⟨rfl,rfl⟩
def qI(err:Nat):Nat:=if err=0 then 2 else err
theorem Gm(err:Nat):qI err≠0:=by unfold qI;split<;>omega
theorem Jf(w:World)(p g o c:Nat)(bs:List UInt8)(err:Nat)(n:Int)(h:xG w p g o c bs err)(hn:err≠0∨(bs.length:Int)<n):
  Calls Tryz.prog 164 #[.pointer (some ⟨p,0,none⟩),.int .u64 n] w fun e w'=>e = .returned (.tuple #[.slice none 0 0,.int .i64 (qI err:Nat)])∧w=w':=by
 by_cases he:err=0
 ·subst he
  exact Eo w p g o c bs n h (hn.resolve_left (by simp))
 ·have:=Wx w p g o c bs err n h he
  unfold qI
  rw [if_neg he]
  exact this
def KC(w:World)(p g:Nat)(v:Value)(bs:List UInt8)(err:Nat)(e:Ending)(w':World):Prop:=e = .returned v∧Rd w' p g bs err∧Only [p] w w'
theorem Bl(w:World)(p g o c:Nat)(bs:List UInt8)(err:Nat)(h:xG w p g o c bs err)(hn:err≠0∨(bs.length:Int)<4):
  Calls Tryz.prog 118 #[.pointer (some ⟨p,0,none⟩)] w (KC w p g (.int .u32 0) bs (qI err)):=by
 have hne:(((qI err:Nat):Int) != 0)=true:=by have:=Gm err;simp;omega
 go_enter Tryz.func118,Tryz.ntmps118
 go_wp2_with fail
 refine aT 0 rfl ?_
 go_wp2_with fail
 refine (Jf _ p g o c bs err _ h hn).mono ?_
 rintro e w1 ⟨rfl,rfl⟩
 go_wp2_with fail
 go_step3
 refine⟨rfl,?_⟩
 go_wp2_with fail
 refine (qp _ p g bs err _ ⟨o,c,h⟩).mono ?_
 rintro e w1 ⟨rfl,h1,k1⟩
 go_wp2
 rw [Exit.noGoto_ret]
 go_ret
 exact⟨rfl,h1,k1⟩
theorem SQ(w:World)(p g o c:Nat)(bs:List UInt8)(h:xG w p g o c bs 0)(hn:4≤bs.length):
  Calls Tryz.prog 118 #[.pointer (some ⟨p,0,none⟩)] w (KC w p g (.int .u32 (hd4 bs:Nat)) (bs.drop 4) 0):=by
 go_enter Tryz.func118,Tryz.ntmps118
 go_wp2_with fail
 refine aT 0 rfl ?_
 go_wp2_with fail
 refine (xY _ p g o c bs _ 4 rfl h hn).mono ?_
 rintro e w1 ⟨rfl,rfl⟩
 go_wp2_with fail
 refine (CJ _ p g o c bs 0 _ 4 c h hn).mono ?_
 rintro e w1 ⟨rfl,h1,k1⟩
 have hb:=h.bytes.kept k1 (by simpa using h.ne)
 go_wp2_with fail
 refine (sZ _ g o 4 c bs hb hn (Nat.le_refl _)).mono ?_
 rintro e w2 ⟨rfl,m,rfl⟩
 go_wp2
 rw [fE.ret]
 go_ret
 exact⟨rfl,h1.drewN m,k1.drewN m⟩
theorem pO(w:World)(p g:Nat)(bs:List UInt8)(err:Nat)(h:Rd w p g bs err):
  Calls Tryz.prog 118 #[.pointer (some ⟨p,0,none⟩)] w (KC w p g (.int .u32 ((bP bs err).1:Int)) (bP bs err).2.1 (bP bs err).2.2):=by
 obtain⟨o,c,h⟩:=h
 unfold bP
 by_cases he:err≠0
 ·rw [if_pos he]
  have:=Bl w p g o c bs err h (.inl he)
  rwa [show qI err=err by unfold qI;rw [if_neg he]] at this
 ·rw [if_neg he]
  have he0:err=0:=by omega
  subst he0
  by_cases hl:bs.length<4
  ·rw [if_pos hl]
   exact Bl w p g o c bs 0 h (.inr (by omega))
  ·rw [if_neg hl]
   exact SQ w p g o c bs h (by omega)
def Oz(w:World)(bs:List UInt8)(e:Ending)(w':World):Prop:=
 ∃ p g,e = .returned (.pointer (some ⟨p,0,none⟩))∧Rd w' p g bs 0∧w.heap.size≤p∧w.heap.size≤g∧Only [] w w'∧g<w'.heap.size
theorem jr(w:World)(s:ByteArray)(hs:s.size≤140737488351232):
  Calls Tryz.prog 116 #[.string s] w (Oz w s.data.toList):=by
 have hl:s.data.toList.length=s.size:=by simp
 have HL:=Lib.hid hl
 clear hl
 go_enter Tryz.func116,Tryz.ntmps116
 go_wp2_with (refine qL _ rfl 9 103 5 (.tmp 3) rfl Tryz.underlying9 Tryz.underlying103 Tryz.underlying5 s rfl (by unfold maxLen;omega) ?_;intro w2 c k2 hc1 hc2 hb2 hlt2)
 go_ret
 have hlen:=HL.out
 have hnew:=Blk.new w2 262 #[.slice (some ⟨w.heap.size,0,none⟩) s.size c,.int .i64 0]
 refine⟨w2.heap.size,w.heap.size,rfl,⟨0,c,⟨by rw [hlen];exact hnew,by omega,by rw [hlen];exact hc1,hc2,hb2.kept ((Only.refl [] w2).alloc _) (by simp)⟩⟩,k2.size,Nat.le_refl _,k2.alloc _,by simp;omega⟩
end Go.Proofs.YtmelaiefbpdifaaGreatDoor
/- Package xdr's texts: a writer's Text; a reader's Text, Left, Err; and what they say of bytes. (Out of stage 2's texts.) -/
namespace Go.Proofs.YtmelaiefbpdifaaGreatDoor
open Go.RowKit
attribute [local go_sem] fE.normal fE.exit fE.ret fE.panic
theorem KR:∀ w,(Go.sizeOf 5).run Tryz.prog w = .ok 1 w:=fun _=>by kernel_rfl
def jf(n:Nat):Nat:=(4-n % 4) % 4
def zeros(n:Nat):List UInt8:=List.replicate n 0
def zM(s:List UInt8):List UInt8:=be4 s.length++(s++zeros (jf s.length))
theorem mD(l:List UInt8):(zM l).length=4+l.length+jf l.length:=by simp [zM,aU,zeros];omega
def ig(most:Int)(bs:List UInt8)(err:Nat):List UInt8 × List UInt8 × Nat:=
 if err≠0 then ([],bs,err) else if bs.length<4 then ([],bs,2) else if most<(hd4 bs:Int) then ([],bs,4)
 else if bs.length<4+hd4 bs+jf (hd4 bs) then ([],bs,2) else if ((bs.drop (4+hd4 bs)).take (jf (hd4 bs))).any (· != 0) then ([],bs,3)
 else ((bs.drop 4).take (hd4 bs),bs.drop (4+hd4 bs+jf (hd4 bs)),0)
theorem Zr(n:Nat)(r:List UInt8)(h:n<4294967296):hd4 (be4 n++r)=n:=by
 show KA (UInt8.ofNat (n / 16777216)) (UInt8.ofNat (n / 65536)) (UInt8.ofNat (n / 256)) (UInt8.ofNat n)=n
 unfold KA
 simp
 omega
theorem U6(bs:List UInt8)(h:4≤bs.length):be4 (hd4 bs)++bs.drop 4=bs:=by
 obtain⟨a,b,c,d,r,rfl⟩:=four bs h
 have h0:=a.toNat_lt;have h1:=b.toNat_lt;have h2:=c.toNat_lt;have h3:=d.toNat_lt
 have e:∀ (x:UInt8) (n:Nat),n % 256=x.toNat→UInt8.ofNat n=x:=fun x n hn=>by
  apply UInt8.toNat_inj.1
  simpa using hn
 show UInt8.ofNat (KA a b c d / 16777216) :: UInt8.ofNat (KA a b c d / 65536) :: UInt8.ofNat (KA a b c d / 256) :: UInt8.ofNat (KA a b c d) :: r=_
 unfold KA
 rw [e a _ (by omega),e b _ (by omega),e c _ (by omega),e d _ (by omega)]
theorem Lh(n:Nat)(r:List UInt8)(h:n<4294967296):bP (be4 n++r) 0=(n,r,0):=by
 unfold bP
 rw [if_neg (by simp),if_neg (by simp [aU]),Zr n r h]
 rfl
theorem afM{l r:List UInt8}{n:Nat}(h:l.length=n):(l++r).take n=l:=by rw [←h];exact List.take_left
theorem afL{l r:List UInt8}{n:Nat}(h:l.length=n):(l++r).drop n=r:=by rw [←h];exact List.drop_left
theorem afP(n:Nat):(zeros n).any (· != 0)=false:=by
 unfold zeros
 simp
theorem afN(most:Int)(s r:List UInt8)(hm:(s.length:Int)≤most)(h:s.length<4294967296):ig most (zM s++r) 0=(s,r,0):=by
 have hd:hd4 (zM s++r)=s.length:=by unfold zM;rw [List.append_assoc];exact Zr _ _ h
 have hl:=mD s
 have e1:(zM s++r).drop 4=(s++zeros (jf s.length))++r:=by unfold zM;rw [List.append_assoc];exact afL (aU _)
 have e2:(zM s++r).drop (4+s.length)=zeros (jf s.length)++r:=by rw [←List.drop_drop,e1,List.append_assoc];exact afL rfl
 unfold ig
 rw [if_neg (by simp),if_neg (by rw [List.length_append];omega),hd,if_neg (by omega),if_neg (by rw [List.length_append];omega),e2,afM (by simp [zeros]),afP,if_neg (by simp),e1,List.append_assoc,afM rfl]
 rw [show (zM s++r).drop (4+s.length+jf s.length)=r from afL (by omega)]
theorem Le(bs:List UInt8)(h:(bP bs 0).2.2=0):be4 (bP bs 0).1++(bP bs 0).2.1=bs:=by
 unfold bP at *
 rw [if_neg (by simp)] at *
 by_cases h4:bs.length<4
 ·rw [if_pos h4] at h;simp at h
 ·rw [if_neg h4]
  exact U6 bs (by omega)
theorem all_zero(l:List UInt8)(h:l.any (· != 0)=false):l=zeros l.length:=by
 apply List.ext_getElem
 ·simp [zeros]
 ·intro j h1 h2
  have:=List.any_eq_false.1 h l[j] (List.getElem_mem h1)
  simp [zeros] at this ⊢
  exact this
theorem AY(most:Int)(bs:List UInt8)(h:(ig most bs 0).2.2=0):zM (ig most bs 0).1++(ig most bs 0).2.1=bs∧((ig most bs 0).1.length:Int)≤most:=by
 unfold ig at *
 rw [if_neg (by simp)] at *
 by_cases h4:bs.length<4
 ·rw [if_pos h4] at h;simp at h
 rw [if_neg h4] at *
 by_cases h1:most<(hd4 bs:Int)
 ·rw [if_pos h1] at h;simp at h
 rw [if_neg h1] at *
 by_cases h2:bs.length<4+hd4 bs+jf (hd4 bs)
 ·rw [if_pos h2] at h;simp at h
 rw [if_neg h2] at *
 by_cases h3:((bs.drop (4+hd4 bs)).take (jf (hd4 bs))).any (· != 0)=true
 ·rw [if_pos h3] at h;simp at h
 rw [if_neg h3]
 simp only
 have hz:=all_zero _ (by simpa using h3)
 have hzl:((bs.drop (4+hd4 bs)).take (jf (hd4 bs))).length=jf (hd4 bs):=by simp;omega
 rw [hzl] at hz
 have hl:((bs.drop 4).take (hd4 bs)).length=hd4 bs:=by simp;omega
 refine⟨?_,by rw [hl];omega⟩
 unfold zM
 rw [hl,←hz,List.append_assoc,List.append_assoc]
 have e1:(bs.drop (4+hd4 bs)).take (jf (hd4 bs))++bs.drop (4+hd4 bs+jf (hd4 bs))=bs.drop (4+hd4 bs):=by
  rw [show bs.drop (4+hd4 bs+jf (hd4 bs))=(bs.drop (4+hd4 bs)).drop (jf (hd4 bs)) by rw [List.drop_drop],List.take_append_drop]
 rw [e1]
 have e2:(bs.drop 4).take (hd4 bs)++bs.drop (4+hd4 bs)=bs.drop 4:=by
  rw [show bs.drop (4+hd4 bs)=(bs.drop 4).drop (hd4 bs) by rw [List.drop_drop],List.take_append_drop]
 rw [e2]
 exact U6 bs (by omega)
theorem wF(m:Int)(b:List UInt8)(e:Nat)(h:e≠0):ig m b e=([],b,e):=by unfold ig;rw [if_pos h]
theorem AZ(bs:List UInt8)(e:Nat):(bP bs e).2.1.length≤bs.length:=by
 unfold bP
 repeat' split
 all_goals simp
theorem IY(m:Int)(bs:List UInt8)(e:Nat):(ig m bs e).2.1.length≤bs.length:=by
 unfold ig
 repeat' split
 all_goals simp
theorem nT(n:Nat):jf n<4:=by unfold jf;omega
theorem pV(w:World)(x:Int)(n:Nat)(hx:x=n)(hn:n<18446744073709551616):
  Calls Tryz.prog 169 #[.int .u64 x] w fun e w'=>e = .returned (.int .u64 (jf n:Nat))∧w=w':=by
 have h0:0≤x:=by omega
 have h1:x<18446744073709551616:=by omega
 have e:((jf n:Nat):Int)=(4-x % 4) % 4:=by unfold jf;omega
 rw [e]
 clear e hx
 go_enter Tryz.func169,Tryz.ntmps169
 go_wp2
 go_ret
 exact⟨rfl,rfl⟩
set_option maxHeartbeats 400000 in
theorem Ad(w:World)(p:Nat)(F:List Nat)(bs:List UInt8)(s:ByteArray)(hw:Wr w p F bs)(hlen:bs.length+s.size+8≤1048576):
  Calls Tryz.prog 146 #[.pointer (some ⟨p,0,none⟩),.string s] w (Gives (fun w'=>Wrote w w' p F (bs++zM s.data.toList))):=by
 have hs:s.size≤1048576:=by omega
 have hl:s.data.toList.length=s.size:=by simp
 have aaI:=nT s.size
 have hp0:=hw.lt
 go_enter Tryz.func146,Tryz.ntmps146
 go_wp2_with fail
 refine (gB _ p F bs _ s.size (by omega) (by omega) hw (by omega)).mono ?_
 rintro e w1 ⟨rfl,hw1⟩
 obtain⟨F1,a1,a2,a3⟩:=hw1
 have H3:=Lib.hid a3
 clear a3
 go_wp2_with (refine qL _ rfl 9 103 5 (.tmp 13) rfl Tryz.underlying9 Tryz.underlying103 Tryz.underlying5 s rfl (by unfold maxLen;omega) ?_;intro w2 c k2 hc1 hc2 hb2 hlt2)
 have hsrc:=yL.sW c hb2
 rw [hl] at hsrc
 have hsrc':=hsrc
 rw [←hl] at hsrc'
 refine (put_any _ p F1 _ _ s.data.toList (a1.kept k2 (by simp) (by simp)) (by rw [hl];exact hsrc) (by simp [aU];omega)).mono ?_
 rintro e w3 ⟨rfl,hw3⟩
 have aec:=hw3.from k2
 obtain⟨F3,b1,b2,b3⟩:=aec
 have H5:=Lib.hid b3
 clear b3 hw3 hsrc hsrc' hb2
 obtain⟨i0,hi,hz0,hz1,hz2⟩:=info_parts TN
 go_wp2_with fail
 refine (pV _ _ s.size (by omega) (by omega)).mono ?_
 rintro e w4 ⟨rfl,rfl⟩
 go_wp2_with (refine wpList_make_full _ rfl (.tmp 18) (.tmp 18) 103 rfl 0 5 i0 (.int .u8 0) 1 Tryz.underlying103 hi hz0 hz1 .u64 .u64 _ _ (jf s.size) rfl rfl rfl rfl ?c1 ?c2 ?c3 ?go)
 case c1=>rw [hz2];omega
 case c2=>unfold maxLen;omega
 case c3=>omega
 case go=>
  intro w5 hown5 hg5
  have k5:Only [] w3 w5:=(Only.refl [] w3).grown hg5 (by intro k hk;cases hk)
  rw [Bz] at hown5
  have ab4:=Bf hown5
  clear hown5
  go_wp2_with fail
  refine (put_any _ p F3 _ _ (zeros (jf s.size)) (b1.kept k5 (by simp) (by simp)) (by simpa [zeros] using ab4) (by simp [aU,zeros];omega)).mono ?_
  rintro e w6 ⟨rfl,hw6⟩
  have aeb:=hw6.from k5
  go_wp2
  go_end0
  refine⟨rfl,Wrote.join a2 H3.out (Wrote.join b2 H5.out ?_)⟩
  simpa [zM] using aeb
theorem Gl(w:World)(p g o c:Nat)(bs:List UInt8)(err:Nat)(h:xG w p g o c bs err):
  Calls Tryz.prog 136 #[.pointer (some ⟨p,0,none⟩)] w fun e w'=>e = .returned (.int .i64 (bs.length:Int))∧w=w':=by
 have h1:=h.c0
 go_enter Tryz.func136,Tryz.ntmps136
 go_wp2
 go_ret
 exact⟨rfl,rfl⟩
theorem LH(w:World)(p g o c:Nat)(bs:List UInt8)(err:Nat)(most:Int)(h:xG w p g o c bs err)(hn:err≠0∨(bs.length:Int)<4):
  Calls Tryz.prog 168 #[.pointer (some ⟨p,0,none⟩),.int .i64 most] w fun e w'=>e = .returned (.tuple #[.int .u64 0,.int .i64 (qI err:Nat)])∧w=w':=by
 have hne:(((qI err:Nat):Int) != 0)=true:=by have:=Gm err;simp;omega
 go_enter Tryz.func168,Tryz.ntmps168
 go_wp2_with fail
 refine aT 0 rfl ?_
 go_wp2_with fail
 refine (Jf _ p g o c bs err _ h hn).mono ?_
 rintro e w1 ⟨rfl,rfl⟩
 go_wp2_with fail
 go_step3
 refine⟨rfl,?_⟩
 go_wp2
 rw [Exit.noGoto_ret]
 go_ret2
 exact⟨rfl,rfl⟩
theorem LG(w:World)(p g o c:Nat)(bs:List UInt8)(most:Int)(h:xG w p g o c bs 0)(hn:4≤bs.length)(hm:most<(hd4 bs:Nat)):
  Calls Tryz.prog 168 #[.pointer (some ⟨p,0,none⟩),.int .i64 most] w fun e w'=>e = .returned (.tuple #[.int .u64 0,.int .i64 4])∧∃ m,w'=w.drewN m:=by
 have l1:=uq bs
 have l1':((hd4 bs:Nat):Int)<4294967296:=by omega
 by_cases h0:most<0
 ·go_enter Tryz.func168,Tryz.ntmps168
  go_wp2_with fail
  refine aT 0 rfl ?_
  go_wp2_with fail
  refine (xY _ p g o c bs _ 4 rfl h hn).mono ?_
  rintro e w1 ⟨rfl,rfl⟩
  go_wp2_with fail
  refine (sZ _ g o 4 c bs h.bytes hn (Nat.le_refl _)).mono ?_
  rintro e w2 ⟨rfl,m,rfl⟩
  go_wp2_with fail
  go_step3
  refine⟨rfl,?_⟩
  go_wp2
  rw [Exit.noGoto_ret]
  go_ret2
  exact⟨rfl,_,rfl⟩
 ·have h0':0≤most:=by omega
  have h2:most<4294967296:=by omega
  go_enter Tryz.func168,Tryz.ntmps168
  go_wp2_with fail
  refine aT 0 rfl ?_
  go_wp2_with fail
  refine (xY _ p g o c bs _ 4 rfl h hn).mono ?_
  rintro e w1 ⟨rfl,rfl⟩
  go_wp2_with fail
  refine (sZ _ g o 4 c bs h.bytes hn (Nat.le_refl _)).mono ?_
  rintro e w2 ⟨rfl,m,rfl⟩
  go_wp2_with fail
  go_step3
  refine⟨rfl,?_⟩
  go_wp2
  rw [Exit.noGoto_ret]
  go_ret2
  exact⟨rfl,_,rfl⟩
theorem SS(w:World)(g o n c:Nat)(l:List UInt8)(q:Nat)(hq:hd4 l=q)(hb:BytesAt w g o l)(hl:4≤l.length)(hn:4≤n):
  Calls Tryz.prog 166 #[.slice (some ⟨g,o,none⟩) n c] w fun e w'=>e = .returned (.int .u32 (q:Int))∧∃ m,w'=w.drewN m:=by
 subst hq
 exact sZ w g o n c l hb hl hn
theorem BD(w:World)(p g o c:Nat)(bs:List UInt8)(M q:Nat)(hq:hd4 bs=q)(h:xG w p g o c bs 0)(hn:4≤bs.length)(hm:q≤M)(hw:M≤9223372036854775807):
  Calls Tryz.prog 168 #[.pointer (some ⟨p,0,none⟩),.int .i64 (M:Int)] w fun e w'=>e = .returned (.tuple #[.int .u64 (q:Int),.int .i64 0])∧∃ m,w'=w.drewN m:=by
 have HQ:=Lib.hid hq
 clear hq
 go_enter Tryz.func168,Tryz.ntmps168
 go_wp2_with fail
 refine aT 0 rfl ?_
 go_wp2_with fail
 refine (xY _ p g o c bs _ 4 rfl h hn).mono ?_
 rintro e w1 ⟨rfl,rfl⟩
 go_wp2_with fail
 refine (SS _ g o 4 c bs q HQ.out h.bytes hn (Nat.le_refl _)).mono ?_
 rintro e w2 ⟨rfl,m,rfl⟩
 go_wp2
 rw [fE.ret]
 go_ret2
 exact⟨rfl,_,rfl⟩
theorem Ov(l:List UInt8)(k:Nat)(h:k<l.length):(l.take (k+1)).any (· != 0)=((l.take k).any (· != 0) || l[k] != 0):=by
 rw [List.take_succ_eq_append_getElem h,List.any_append]
 simp
theorem YE(l:List UInt8)(k:Nat)(h:k<l.length)(h0:(l[k] != 0)=true):l.any (· != 0)=true:=
 List.any_eq_true.2 ⟨l[k],List.getElem_mem h,h0⟩
set_option maxHeartbeats 400000 in
theorem Fz(w:World)(g o c:Nat)(l:List UInt8)(hb:BytesAt w g o l)(hl:l.length≤1048576):
  Calls Tryz.prog 170 #[.slice (some ⟨g,o,none⟩) l.length c] w fun e w'=>e = .returned (.bool (!l.any (· != 0)))∧w=w':=by
 have Hb:=Lib.hid hb
 clear hb
 go_enter Tryz.func170,Tryz.ntmps170
 go_wp2
 go_loop [7] (fun i=>∃ k:Nat,k≤l.length∧i = .int .i64 k∧(l.take k).any (· != 0)=false) (fun i=>l.length-(intOf i).toNat)
 case atStart=>exact⟨0,Nat.zero_le _,rfl,by simp⟩
 case round=>
  obtain⟨k,hk,rfl,hz⟩:=hrel
  have HZ:=Lib.hid hz
  clear hz
  by_cases hlt:k<l.length
  ·have hcell:=Hb.out k hlt
   unfold kL at hcell
   by_cases h0:l[k]=0
   ·have ht:((l[k].toNat:Int) != 0)=false:=by rw [h0];rfl
    go_wp2
    go_round
    case rel=>exact⟨k+1,by omega,by go_num,by rw [Ov l k hlt,HZ.out,h0];rfl⟩
    case measure=>simp [intOf];omega
   ·have h1:(l[k] != 0)=true:=by simpa using h0
    have ht:((l[k].toNat:Int) != 0)=true:=by
     simp only [bne_iff_ne,ne_eq]
     intro e
     apply h0
     apply UInt8.toNat_inj.1
     have:l[k].toNat=0:=by omega
     simpa using this
    have hany:=Lib.hid (YE l k hlt h1)
    clear h1
    go_wp2
    go_ret
    exact⟨by rw [hany.out];rfl,rfl⟩
  ·obtain rfl:k=l.length:=by omega
   go_wp2
   go_ret
   have:=HZ.out
   rw [List.take_length] at this
   exact⟨by rw [this];rfl,rfl⟩
theorem QL(w:World)(g o c n:Nat)(l:List UInt8)(r:Bool)(hl:l.length=n)(hr:(!l.any (· != 0))=r)(hb:BytesAt w g o l)(hn:n≤1048576):
  Calls Tryz.prog 170 #[.slice (some ⟨g,o,none⟩) n c] w fun e w'=>e = .returned (.bool r)∧w=w':=by
 subst hl
 subst hr
 exact Fz w g o c l hb hn
theorem BytesAt.drewN{w:World}{g o:Nat}{l:List UInt8}(h:BytesAt w g o l)(m:Nat):BytesAt (w.drewN m) g o l:=h
theorem Ip(w:World)(p g o c:Nat)(bs:List UInt8)(err:Nat)(most:Int)(h:xG w p g o c bs err)(hn:err≠0∨(bs.length:Int)<4):
  Calls Tryz.prog 120 #[.pointer (some ⟨p,0,none⟩),.int .i64 most] w (KC w p g (.string ⟨#[]⟩) bs (qI err)):=by
 have hne:(((qI err:Nat):Int) != 0)=true:=by have:=Gm err;simp;omega
 go_enter Tryz.func120,Tryz.ntmps120
 go_wp2_with fail
 refine aT 0 rfl ?_
 go_wp2_with fail
 refine (LH _ p g o c bs err most h hn).mono ?_
 rintro e w1 ⟨rfl,rfl⟩
 go_wp2_with fail
 go_step3
 refine⟨rfl,?_⟩
 go_wp2_with fail
 refine (qp _ p g bs err _ ⟨o,c,h⟩).mono ?_
 rintro e w1 ⟨rfl,h1,k1⟩
 go_wp2
 rw [Exit.noGoto_ret]
 go_ret
 exact⟨rfl,h1,k1⟩
theorem QX(w:World)(p g o c:Nat)(bs:List UInt8)(most:Int)(h:xG w p g o c bs 0)(hn:4≤bs.length)(hm:most<(hd4 bs:Nat)):
  Calls Tryz.prog 120 #[.pointer (some ⟨p,0,none⟩),.int .i64 most] w (KC w p g (.string ⟨#[]⟩) bs 4):=by
 have HM:=Lib.hid hm
 clear hm
 go_enter Tryz.func120,Tryz.ntmps120
 go_wp2_with fail
 refine aT 0 rfl ?_
 go_wp2_with fail
 refine (LG _ p g o c bs most h hn HM.out).mono ?_
 rintro e w1 ⟨rfl,m,rfl⟩
 go_wp2_with fail
 go_step3
 refine⟨rfl,?_⟩
 go_wp2_with fail
 refine (qp _ p g bs 0 4 ⟨o,c,h.drewN m⟩).mono ?_
 rintro e w1 ⟨rfl,h1,k1⟩
 go_wp2
 rw [Exit.noGoto_ret]
 go_ret
 exact⟨rfl,h1,((Only.refl [p] w).drewN m).trans k1⟩
theorem OI(w:World)(p g o c:Nat)(bs:List UInt8)(M q:Nat)(hq:hd4 bs=q)(h:xG w p g o c bs 0)(hn:4≤bs.length)(hm:q≤M)(hw:M≤9223372036854775807)(hs:bs.length<4+q+jf q):
  Calls Tryz.prog 120 #[.pointer (some ⟨p,0,none⟩),.int .i64 (M:Int)] w (KC w p g (.string ⟨#[]⟩) bs 2):=by
 have l1:=uq bs
 rw [hq] at l1
 have hp:=nT q
 have HQ:=Lib.hid hq
 have HW:=Lib.hid hw
 have HM:=Lib.hid hm
 clear hq hw hm
 go_enter Tryz.func120,Tryz.ntmps120
 go_wp2_with fail
 refine aT 0 rfl ?_
 go_wp2_with fail
 refine (BD _ p g o c bs M q HQ.out h hn HM.out HW.out).mono ?_
 rintro e w1 ⟨rfl,m,rfl⟩
 have h1:=h.drewN m
 go_wp2_with fail
 refine (pV _ _ q rfl (by omega)).mono ?_
 rintro e w4 ⟨rfl,rfl⟩
 go_wp2_with fail
 refine (Eo _ p g o c bs _ h1 (by omega)).mono ?_
 rintro e w1 ⟨rfl,rfl⟩
 go_wp2_with fail
 go_step3
 refine⟨rfl,?_⟩
 go_wp2_with fail
 refine (qp _ p g bs 0 2 ⟨o,c,h1⟩).mono ?_
 rintro e w1 ⟨rfl,h1,k1⟩
 go_wp2
 rw [Exit.noGoto_ret]
 go_ret
 exact⟨rfl,h1,((Only.refl [p] w).drewN m).trans k1⟩
theorem QY(w:World)(p g o c:Nat)(bs:List UInt8)(M q:Nat)(hq:hd4 bs=q)(h:xG w p g o c bs 0)(hn:4≤bs.length)(hm:q≤M)(hw:M≤9223372036854775807)(hs:4+q+jf q≤bs.length)
  (hz:((bs.drop (4+q)).take (jf q)).any (· != 0)=true):
  Calls Tryz.prog 120 #[.pointer (some ⟨p,0,none⟩),.int .i64 (M:Int)] w (KC w p g (.string ⟨#[]⟩) bs 3):=by
 have l1:=uq bs
 rw [hq] at l1
 have hp:=nT q
 have hle:=h.le
 have HQ:=Lib.hid hq
 have HW:=Lib.hid hw
 have HM:=Lib.hid hm
 have HZ:=Lib.hid hz
 clear hq hw hm hz
 obtain⟨o',ho',hsl⟩:=xP (P:=Tryz.prog) 103 5 Tryz.underlying103 KR g o (4+q+jf q) c (4+q) .u64 (4+(q:Int)) (by omega) (by omega)
 have hpl:((bs.drop (4+q)).take (jf q)).length=jf q:=by simp;omega
 have HP:=Lib.hid hpl
 clear hpl
 have hbz:BytesAt w g o' ((bs.drop (4+q)).take (jf q)):=by
  by_cases hc:4+q<c
  ·rw [ho' hc]
   exact (h.bytes.drop (4+q)).take _
  ·rw [show jf q=0 by omega]
   exact BytesAt.nil _ _ _
 have HB:=Lib.hid hbz
 clear hbz ho'
 go_enter Tryz.func120,Tryz.ntmps120
 go_wp2_with fail
 refine aT 0 rfl ?_
 go_wp2_with fail
 refine (BD _ p g o c bs M q HQ.out h hn HM.out HW.out).mono ?_
 rintro e w1 ⟨rfl,m,rfl⟩
 have h1:=h.drewN m
 go_wp2_with fail
 refine (pV _ _ q rfl (by omega)).mono ?_
 rintro e w4 ⟨rfl,rfl⟩
 go_wp2_with fail
 refine (xY _ p g o c bs _ (4+q+jf q) (by omega) h1 hs).mono ?_
 rintro e w1 ⟨rfl,rfl⟩
 go_wp2_with fail
 refine (QL _ g o' (c-(4+q)) (jf q) _ false HP.out (by rw [HZ.out];rfl) (HB.out.drewN m) (by omega)).mono ?_
 rintro e w1 ⟨rfl,rfl⟩
 go_wp2_with fail
 go_step3
 refine⟨rfl,?_⟩
 go_wp2_with fail
 refine (qp _ p g bs 0 3 ⟨o,c,h1⟩).mono ?_
 rintro e w1 ⟨rfl,h1,k1⟩
 go_wp2
 rw [Exit.noGoto_ret]
 go_ret
 exact⟨rfl,h1,((Only.refl [p] w).drewN m).trans k1⟩
set_option maxHeartbeats 400000 in
theorem YJ(w:World)(p g o c:Nat)(bs:List UInt8)(M q:Nat)(hq:hd4 bs=q)(h:xG w p g o c bs 0)(hn:4≤bs.length)(hm:q≤M)(hw:M≤9223372036854775807)(hs:4+q+jf q≤bs.length)
  (hz:((bs.drop (4+q)).take (jf q)).any (· != 0)=false):
  Calls Tryz.prog 120 #[.pointer (some ⟨p,0,none⟩),.int .i64 (M:Int)] w (KC w p g (.string (strOf ((bs.drop 4).take q))) (bs.drop (4+q+jf q)) 0):=by
 have l1:=uq bs
 rw [hq] at l1
 have hp:=nT q
 have hle:=h.le
 have hgp:=h.ne
 have HQ:=Lib.hid hq
 have HW:=Lib.hid hw
 have HM:=Lib.hid hm
 have HZ:=Lib.hid hz
 clear hq hw hm hz
 obtain⟨o',ho',hsl⟩:=xP (P:=Tryz.prog) 103 5 Tryz.underlying103 KR g o (4+q+jf q) c (4+q) .u64 (4+(q:Int)) (by omega) (by omega)
 have hpl:((bs.drop (4+q)).take (jf q)).length=jf q:=by simp;omega
 have HP:=Lib.hid hpl
 clear hpl
 have hbz:BytesAt w g o' ((bs.drop (4+q)).take (jf q)):=by
  by_cases hc:4+q<c
  ·rw [ho' hc]
   exact (h.bytes.drop (4+q)).take _
  ·rw [show jf q=0 by omega]
   exact BytesAt.nil _ _ _
 have HB:=Lib.hid hbz
 clear hbz ho'
 obtain⟨o2,ho2,hsl2⟩:=OW (P:=Tryz.prog) 103 5 Tryz.underlying103 KR g o (4+q+jf q) c 4 (4+q) .i64 .u64 4 (4+(q:Int)) (by omega) (by omega) (by omega) (by omega)
 have htl:((bs.drop 4).take q).length=q:=by simp;omega
 have HT:=Lib.hid htl
 clear htl
 have hb2:BytesAt w g o2 ((bs.drop 4).take q):=by
  by_cases hc:4<c
  ·rw [ho2 hc]
   exact (h.bytes.drop 4).take _
  ·rw [show q=0 by omega]
   exact BytesAt.nil _ _ _
 have HB2:=Lib.hid hb2
 clear hb2 ho2
 go_enter Tryz.func120,Tryz.ntmps120
 go_wp2_with fail
 refine aT 0 rfl ?_
 go_wp2_with fail
 refine (BD _ p g o c bs M q HQ.out h hn HM.out HW.out).mono ?_
 rintro e w1 ⟨rfl,m,rfl⟩
 have h1:=h.drewN m
 go_wp2_with fail
 refine (pV _ _ q rfl (by omega)).mono ?_
 rintro e w4 ⟨rfl,rfl⟩
 go_wp2_with fail
 refine (xY _ p g o c bs _ (4+q+jf q) (by omega) h1 hs).mono ?_
 rintro e w1 ⟨rfl,rfl⟩
 go_wp2_with fail
 refine (QL _ g o' (c-(4+q)) (jf q) _ true HP.out (by rw [HZ.out];rfl) (HB.out.drewN m) (by omega)).mono ?_
 rintro e w1 ⟨rfl,rfl⟩
 go_wp2_with fail
 refine (CJ _ p g o c bs 0 _ (4+q+jf q) c h1 hs).mono ?_
 rintro e w1 ⟨rfl,h2,k2⟩
 have hsrc:=yL.sW (c-4) ((HB2.out.drewN m).kept k2 (by simpa using hgp))
 rw [HT.out] at hsrc
 go_wp2_with (refine dQ _ rfl 103 9 5 (.tmp 40) rfl Tryz.underlying103 Tryz.underlying5 Tryz.underlying9 _ q (c-4) ((bs.drop 4).take q) rfl hsrc ?_)
 rw [fE.ret]
 go_ret
 exact⟨rfl,h2,((Only.refl [p] w).drewN m).trans k2⟩
theorem AA(w:World)(p g:Nat)(bs:List UInt8)(err:Nat)(most:Int)(hm:most≤9223372036854775807)(h:Rd w p g bs err):
  Calls Tryz.prog 120 #[.pointer (some ⟨p,0,none⟩),.int .i64 most] w (KC w p g (.string (strOf (ig most bs err).1)) (ig most bs err).2.1 (ig most bs err).2.2):=by
 obtain⟨o,c,h⟩:=h
 unfold ig
 by_cases he:err≠0
 ·rw [if_pos he]
  have:=Ip w p g o c bs err most h (.inl he)
  rwa [show qI err=err by unfold qI;rw [if_neg he]] at this
 ·rw [if_neg he]
  have he0:err=0:=by omega
  subst he0
  by_cases hl:bs.length<4
  ·rw [if_pos hl]
   exact Ip w p g o c bs 0 most h (.inr (by omega))
  ·rw [if_neg hl]
   by_cases h1:most<(hd4 bs:Int)
   ·rw [if_pos h1]
    exact QX w p g o c bs most h (by omega) h1
   ·rw [if_neg h1]
    obtain⟨M,rfl⟩:=Int.eq_ofNat_of_zero_le (show 0≤most by omega)
    by_cases h2:bs.length<4+hd4 bs+jf (hd4 bs)
    ·rw [if_pos h2]
     exact OI w p g o c bs M _ rfl h (by omega) (by omega) (by omega) h2
    ·rw [if_neg h2]
     by_cases h3:((bs.drop (4+hd4 bs)).take (jf (hd4 bs))).any (· != 0)=true
     ·rw [if_pos h3]
      exact QY w p g o c bs M _ rfl h (by omega) (by omega) (by omega) (by omega) h3
     ·rw [if_neg h3]
      exact YJ w p g o c bs M _ rfl h (by omega) (by omega) (by omega) (by omega) (by simpa using h3)
end Go.Proofs.YtmelaiefbpdifaaGreatDoor
