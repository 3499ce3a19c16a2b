/- Joined: Wal1, Wal2, Wal3, Wal4, Wal5, Wal6. -/
import Derived.Test.YtmelaiefbpdifaaGreatDoorHGc
/- Package wal's small functions: filled, a mark's block, the mark that a block is. -/
namespace Go.Proofs.YtmelaiefbpdifaaGreatDoor
open Go.RowKit
theorem zV(l:List UInt8)(i:Nat)(h:i+4≤l.length):hd4 (l.drop i)=jg l i:=by
 obtain⟨a,b,c,d,r,hr⟩:=four (l.drop i) (by simp;omega)
 have e:∀ j,l.getD (i+j) 0=(l.drop i).getD j 0:=by
  intro j
  rw [List.getD_eq_getElem?_getD,List.getD_eq_getElem?_getD,List.getElem?_drop]
 unfold jg
 rw [show l.getD i 0=l.getD (i+0) 0 by rfl,e 0,e 1,e 2,e 3,hr]
 simp [hd4,KA]
theorem KZ(c:Nat):Lib.repeatL [0] c=rep c 0:=by
 have:=Lib.repeatL_replicate 0 1 c
 simpa [rep] using this
theorem EX(w:World)(l:List UInt8)(hl:l.length≤256):
  Calls Tryz.prog 144 #[.string (strOf l)] w fun e w'=>e = .returned (.string (strOf (oQ l)))∧Only [] w w':=by
 have hsz:(strOf l).size=l.length:=aj l
 have hrep:∀ W,Calls Tryz.prog 196 #[.string ⟨#[0]⟩,.int .i64 ((256-l.length:Nat):Int)] W fun e w'=>e = .returned (.string (strOf (rep (256-l.length) 0)))∧Below W.heap.size W w':=by
  intro W
  have:=Tryz.strings_Repeat ⟨#[0]⟩ (256-l.length) W (by omega) (by simp [ByteArray.size];omega)
  have e:(⟨(Lib.repeatL (⟨#[0]⟩:ByteArray).data.toList (256-l.length)).toArray⟩:ByteArray)=strOf (rep (256-l.length) 0):=by
   rw [←KZ]
   rfl
  rw [e] at this
  exact this
 generalize h0:strOf l=s at *
 replace h0:=Lib.hid h0
 generalize hc:256-l.length=c at *
 have hcl:l.length+c=256:=by omega
 have Gw:oQ l=l++rep c 0:=by rw [oQ,hc]
 rw [Gw]
 clear Gw hc
 go_enter Tryz.func144,Tryz.ntmps144
 go_wp2_with fail
 rw [show (256-(l.length:Int))=(c:Int) by omega]
 refine (hrep _).mono ?_
 rintro e w1 ⟨rfl,h1⟩
 have k1:=Only.of_below h1 []
 go_wp2_with (refine eP _ rfl 9 9 (.tmp 3) (.tmp 7) rfl l (rep c 0) (by simp [h0.out];rfl) rfl (by rw [lu];omega) ?_)
 go_ret
 exact⟨rfl,k1⟩
def pq:List UInt8:=[76,67,79,77]
def iT(b:List UInt8):Nat:=if b.take 4=pq then jg b 4 else 0
def kK(b:List UInt8):Nat:=if b.take 4=pq then jg b 8 else 0
theorem NP(b:List UInt8):iT b<4294967296:=by
 unfold iT
 split
 ·exact jP _ _
 ·omega
theorem WE(b:List UInt8):kK b<4294967296:=by
 unfold kK
 split
 ·exact jP _ _
 ·omega
theorem Lj(b:List UInt8):Lib.hasPrefix b pq=decide (b.take 4=pq):=by
 unfold Lib.hasPrefix
 rw [Bool.eq_iff_iff,decide_eq_true_iff]
 simp only [List.isPrefixOf_iff_prefix,List.prefix_iff_eq_take]
 exact⟨fun h=>h.symm,fun h=>h.symm⟩
theorem fJ{fn:Func}{p:Tmp}{ty:TypeId}(h:fn.results = #[.cell p ty])(tmps:Array Value)(P:Program)(w:World):
  (results fn tmps).run P w=((asAddr (tmps.getD p undef)).run P w).andThen fun a w₁=>(loadVar ty a).run P w₁:=by
 simp only [results,h]
 simp [Sem.run_bind,Result.andThen]
set_option maxRecDepth 100000 in
theorem PO(w:World)(b:List UInt8)(hl:b.length=256):
  Calls Tryz.prog 72 #[.string (strOf b)] w fun e w'=>e = .returned (.agg #[.int .u32 (iT b:Int),.int .u32 (kK b:Int)])∧Only [] w w':=by
 have hpre:∀ W,Calls Tryz.prog 126 #[.string (strOf b),.string ⟨#[76,67,79,77]⟩] W fun e w'=>e = .returned (.bool (decide (b.take 4=pq)))∧w'=W:=by
  intro W
  have:=Tryz.strings_HasPrefix (strOf b) ⟨#[76,67,79,77]⟩ W
  rw [←Lj]
  rw [dh] at this
  exact this
 by_cases hm:b.take 4=pq
 ·have e1:iT b=jg b 4:=by rw [iT,if_pos hm]
  have e2:kK b=jg b 8:=by rw [kK,if_pos hm]
  simp only [hm,decide_true] at hpre
  have hn4:hd4 (b.drop 4)=jg b 4:=zV b 4 (by omega)
  have hn8:hd4 (b.drop 8)=jg b 8:=zV b 8 (by omega)
  have l4:jg b 4<4294967296:=jP _ _
  have l8:jg b 8<4294967296:=jP _ _
  rw [e1,e2]
  have r1:bP (b.drop 4) 0=(jg b 4,b.drop 8,0):=by
   unfold bP
   rw [if_neg (by simp),if_neg (by simp;omega),hn4,List.drop_drop]
  have r2:bP (b.drop 8) 0=(jg b 8,b.drop 12,0):=by
   unfold bP
   rw [if_neg (by simp),if_neg (by simp;omega),hn8,List.drop_drop]
  have aeO:=iy (P:=Tryz.prog) 9 Tryz.underlying9 b 4 4 .i64 rfl (by omega)
  have hnew:∀ W,Calls Tryz.prog 116 #[.string (strOf (b.drop 4))] W (Oz W (b.drop 4)):=fun W=>by
   have:=jr W (strOf (b.drop 4)) (by rw [aj];simp;omega)
   rwa [dh] at this
  clear hn4 hn8 hm e1 e2
  generalize jg b 4=n4 at *
  generalize jg b 8=n8 at *
  generalize hs4:strOf (b.drop 4)=s4 at *
  generalize hs:strOf b=s at *
  generalize b.drop 4=b4 at *
  generalize b.drop 8=b8 at *
  generalize b.drop 12=b12 at *
  clear hs hs4 hl
  have i4:((n4:Nat):Int)<4294967296:=by omega
  have i8:((n8:Nat):Int)<4294967296:=by omega
  clear l4 l8
  generalize hz4:((n4:Nat):Int)=z4 at *
  generalize hz8:((n8:Nat):Int)=z8 at *
  have z40:0≤z4:=by omega
  have z80:0≤z8:=by omega
  replace hz4:=Lib.hid hz4
  replace hz8:=Lib.hid hz8
  replace r1:=Lib.hid r1
  replace r2:=Lib.hid r2
  go_enter Tryz.func72,Tryz.ntmps72
  go_wp2_with fail
  obtain⟨W,hW⟩:∃ W,W=w.alloc (.cells #[.int .u32 0,.int .u32 0] 153):=⟨_,rfl⟩
  obtain⟨q,hq⟩:∃ q,q=w.heap.size:=⟨_,rfl⟩
  have kW:Only [] w W:=by rw [hW];exact (Only.refl [] w).alloc _
  have bq:Blk W q 153 #[.int .u32 0,.int .u32 0]:=by rw [hW,hq];exact Blk.new w _ _
  have hqW:q<W.heap.size:=bq.lt
  have hqw:w.heap.size≤q:=by omega
  rw [←hW,←hq]
  replace hW:=Lib.hid hW
  replace hq:=Lib.hid hq
  refine (hpre _).mono ?_
  rintro e w1 ⟨rfl,rfl⟩
  go_wp2_with fail
  refine (hnew _).mono ?_
  rintro e w2 ⟨p,g,rfl,hrd,hp,hg,k2,hg2⟩
  go_wp2_with fail
  refine (pO _ p g _ 0 hrd).mono ?_
  rintro e w3 ⟨rfl,Dv,k3⟩
  rw [r1.out] at Dv ⊢
  simp only at Dv ⊢
  rw [hz4.out]
  go_wp2_with fail
  refine (pO _ p g _ 0 Dv).mono ?_
  rintro e w4 ⟨rfl,LZ,k4⟩
  rw [r2.out]
  simp only
  rw [hz8.out]
  have bq4:=((bq.kept k2 (by simp)).kept k3 (by simp;omega)).kept k4 (by simp;omega)
  have k14:Only [] w w4:=((kW.trans k2).then k3 (by simp;omega)).then k4 (by simp;omega)
  clear hrd Dv LZ k3 k4 k2
  have f0:=bq4.free 0
  have f1:=bq4.free 1
  have c0:=bq4.cell 0
  have c1:=bq4.cell 1
  simp only [List.getElem?_toArray,List.getElem?_cons_zero,List.getElem?_cons_succ] at c0 c1
  have dw:Only [] w ((w4.setCell ⟨q,0,none⟩ (.int .u32 z4)).setCell ⟨q,1,none⟩ (.int .u32 z8)):=(k14.setCell (.inr hqw) _).setCell (.inr hqw) _
  replace dw:=Lib.hid dw
  clear bq4 bq k14 kW
  go_wp2
  refine bodyPost_ret (v:=.agg #[.int .u32 z4,.int .u32 z8]) (by rw [fJ rfl];go_simp) rfl ?_
  exact⟨rfl,dw.out⟩
 ·have e1:iT b=0:=by rw [iT,if_neg hm]
  have e2:kK b=0:=by rw [kK,if_neg hm]
  simp only [hm,decide_false] at hpre
  rw [e1,e2]
  generalize strOf b=s at *
  go_enter Tryz.func72,Tryz.ntmps72
  go_wp2_with fail
  obtain⟨W,hW⟩:∃ W,W=w.alloc (.cells #[.int .u32 0,.int .u32 0] 153):=⟨_,rfl⟩
  obtain⟨q,hq⟩:∃ q,q=w.heap.size:=⟨_,rfl⟩
  have kW:Only [] w W:=by rw [hW];exact (Only.refl [] w).alloc _
  have bq:Blk W q 153 #[.int .u32 0,.int .u32 0]:=by rw [hW,hq];exact Blk.new w _ _
  have hqw:w.heap.size≤q:=by omega
  rw [←hW,←hq]
  replace hW:=Lib.hid hW
  replace hq:=Lib.hid hq
  refine (hpre _).mono ?_
  rintro e w1 ⟨rfl,rfl⟩
  have f0:=bq.free 0
  have f1:=bq.free 1
  have c0:=bq.cell 0
  have c1:=bq.cell 1
  simp only [List.getElem?_toArray,List.getElem?_cons_zero,List.getElem?_cons_succ] at c0 c1
  have dw:Only [] w ((w1.setCell ⟨q,0,none⟩ (.int .u32 0)).setCell ⟨q,1,none⟩ (.int .u32 0)):=(kW.setCell (.inr hqw) _).setCell (.inr hqw) _
  replace dw:=Lib.hid dw
  clear bq kW
  go_wp2
  refine bodyPost_ret (v:=.agg #[.int .u32 0,.int .u32 0]) (by rw [fJ rfl];go_simp) rfl ?_
  exact⟨rfl,dw.out⟩
end Go.Proofs.YtmelaiefbpdifaaGreatDoor
/- A mark's block. -/
namespace Go.Proofs.YtmelaiefbpdifaaGreatDoor
open Go.RowKit
def dY(n k:Nat):List UInt8:=oQ (pq++(be4 n++be4 k))
theorem U1(w:World)(n k:Nat)(hn:n<4294967296)(hk:k<4294967296):
  Calls Tryz.prog 90 #[.agg #[.int .u32 (n:Int),.int .u32 (k:Int)]] w fun e w'=>e = .returned (.string (strOf (dY n k)))∧Only [] w w':=by
 have hn':(n:Int)<4294967296:=by omega
 have hk':(k:Int)<4294967296:=by omega
 obtain⟨x,hx⟩:∃ x:Int,x=(n:Int):=⟨_,rfl⟩
 obtain⟨y,hy⟩:∃ y:Int,y=(k:Int):=⟨_,rfl⟩
 rw [←hx] at hn' ⊢
 rw [←hy] at hk' ⊢
 have x0:0≤x:=by omega
 have y0:0≤y:=by omega
 replace hx:=Lib.hid hx
 replace hy:=Lib.hid hy
 replace hn:=Lib.hid hn
 replace hk:=Lib.hid hk
 go_enter Tryz.func90,Tryz.ntmps90
 go_wp2_with fail
 have kW:Only [] w (w.alloc (.cells #[.int .u32 x,.int .u32 y] 153)):=(Only.refl [] w).alloc _
 have bm:Blk (w.alloc (.cells #[.int .u32 x,.int .u32 y] 153)) w.heap.size 153 #[.int .u32 x,.int .u32 y]:=Blk.new w _ _
 generalize hW:w.alloc (.cells #[.int .u32 x,.int .u32 y] 153)=W at *
 replace hW:=Lib.hid hW
 have hmW:w.heap.size<W.heap.size:=bm.lt
 obtain⟨m,hm⟩:∃ m,m=w.heap.size:=⟨_,rfl⟩
 rw [←hm] at bm hmW
 have kV:Only [] W (W.alloc (.cells #[.slice none 0 0] 249)):=(Only.refl [] W).alloc _
 have hwr:Wr (W.alloc (.cells #[.slice none 0 0] 249)) W.heap.size [] []:=⟨_,Blk.new W _ _,World.ownsRow_nil _ 0 _ 1,by simp [Value.ownBlock],by simp [Value.ownBlock]⟩
 generalize hV:W.alloc (.cells #[.slice none 0 0] 249)=V at *
 replace hV:=Lib.hid hV
 obtain⟨p,hp⟩:∃ p,p=W.heap.size:=⟨_,rfl⟩
 rw [←hp] at hwr
 have hp1:w.heap.size+1=p:=by rw [hp,←hW.out];simp
 rw [hp1]
 simp only [←hm]
 clear hp1
 have bmV:=bm.kept kV (by simp)
 have hmp:m≠p:=by omega
 have hwm:w.heap.size≤m:=by omega
 have hwp:w.heap.size≤p:=by omega
 have hpV:=hwr.lt
 have hWp:W.heap.size≤p:=by omega
 replace hm:=Lib.hid hm
 replace hp:=Lib.hid hp
 have c0:=bmV.cell 0
 simp only [List.getElem?_toArray,List.getElem?_cons_zero] at c0
 go_wp2_with fail
 refine (gB _ p [] [] x n hx.out hn.out hwr (by simp)).mono ?_
 rintro e w1 ⟨rfl,F1,h1,k1,f1⟩
 have bm1:=bmV.kept k1 (by simp;exact hmp)
 have c1:=bm1.cell 1
 simp only [List.getElem?_toArray,List.getElem?_cons_zero,List.getElem?_cons_succ] at c1
 go_wp2_with fail
 refine (gB _ p F1 _ y k hy.out hk.out h1 (by simp [aU])).mono ?_
 rintro e w2 ⟨rfl,F2,h2,k2,f2⟩
 go_wp2_with fail
 refine (mJ _ p F2 _ h2).mono ?_
 rintro e w3 ⟨rfl,rfl⟩
 go_wp2_with (refine eP _ rfl 9 9 (.const (.string ⟨#[76,67,79,77]⟩)) (.tmp 10) rfl pq ([]++be4 n++be4 k) rfl rfl (by simp [pq,aU]) ?_)
 refine (EX _ _ (by simp [pq,aU])).mono ?_
 rintro e w4 ⟨rfl,k4⟩
 have dw:Only [] w w4:=by
  have a1:Only [] w V:=kW.trans kV
  have a2:=a1.then k1 (by simp;exact hwp)
  have a3:=a2.then k2 (fun i hi=>by
   rcases List.mem_cons.1 hi with rfl | hi
   ·exact .inr hwp
   ·rcases f1 i hi with h | h
    ·cases h
    ·exact .inr (by omega))
  exact a3.trans k4
 replace dw:=Lib.hid dw
 clear h1 h2 k1 k2 k4 hwr bm bmV bm1 f1 f2
 go_wp2
 go_ret
 exact⟨by simp [dY],dw.out⟩
end Go.Proofs.YtmelaiefbpdifaaGreatDoor
/- Lists of writes; settle. -/
namespace Go.Proofs.YtmelaiefbpdifaaGreatDoor
open Go.RowKit
def kG(l:List Bk):List Value:=(l.map fun x=>[Value.int .i64 x.at_,.string (strOf x.data)]).flatten
theorem qP(l:List Bk)(x:Bk):kG (l++[x])=kG l++[.int .i64 x.at_,.string (strOf x.data)]:=by simp [kG]
theorem OG(l:List Bk)(i:Nat)(x:Bk)(h:l[i]?=some x):(kG l)[i*2]?=some (.int .i64 x.at_)∧(kG l)[i*2+1]?=some (.string (strOf x.data)):=by
 have hl:∀ b∈l.map fun x=>[Value.int .i64 x.at_,.string (strOf x.data)],b.length=2:=by
  intro b hb
  simp only [List.mem_map] at hb
  obtain⟨y,_,rfl⟩:=hb
  rfl
 have hg:(l.map fun x=>[Value.int .i64 x.at_,.string (strOf x.data)])[i]?=some [Value.int .i64 x.at_,.string (strOf x.data)]:=by simp [h]
 exact⟨rQ 2 _ i 0 _ _ hl hg rfl,rQ 2 _ i 1 _ _ hl hg rfl⟩
def vJ(w w':World)(v:Value)(l:List Bk):Prop:=
 ∃ A c,v = .slice A l.length c∧Fq w' A l∧Only [] w w'∧∀ a,A=some a→w.heap.size≤a.block
theorem sF{w w':World}{e:TypeId}{v:Value}{l:List Bk}(h:w'.ownsRow 0 e 2 v l.length (kG l))(hok:∀ x∈l,x.okay)(k:Only [] w w')(hnew:∀ g,v.ownBlock=some g→w.heap.size≤g):vJ w w' v l:=by
 by_cases h0:l.length=0
 ·obtain rfl:l = []:=List.eq_nil_of_length_eq_zero h0
  rcases id h.2 with⟨rfl,_⟩ | ⟨g,cap,cur,rfl,hb,hg,r⟩
  ·exact⟨none,0,rfl,⟨.inl rfl,by simp⟩,k,by simp⟩
  ·exact⟨_,_,rfl,⟨.inl rfl,by simp⟩,k,fun a ha=>by injection ha with ha;subst ha;exact hnew g rfl⟩
 ·obtain⟨g,c,rfl,_,_⟩:=h.form (by omega)
  refine⟨_,_,rfl,⟨.inr ⟨g,0,rfl,(h.lt g rfl).2,fun i hi=> ?_⟩,hok⟩,k,fun a ha=>by injection ha with ha;subst ha;exact hnew g rfl⟩
  obtain⟨r1,r2⟩:=OG l i l[i] (List.getElem?_eq_getElem hi)
  have q0:=h.cells rfl _ _ r1
  have q1:=h.cells rfl _ _ r2
  rw [addr_add,Nat.zero_add] at q0 q1
  rw [Nat.zero_add]
  exact⟨q0,q1⟩
def au(s:St):List Bk→Int × St
 | []=>(dW s,bD s)
 | x :: r=>if aI s x.at_ x.data=0 then au (written s x.at_ x.data) r else (aI s x.at_ x.data,written s x.at_ x.data)
theorem iZ(s:St)(k:Int)(b:List UInt8):(written s k b).late.length≤s.late.length+1:=by
 unfold written
 split
 ·omega
 ·split
  ·rw [iC];omega
  ·simp
theorem pF(w:World)(p:Nat)(F:List Nat)(s:St)(A:Option Addr)(c:Nat)(l:List Bk)(hd:Dev w p F s)(hb:Fq w A l)(hA:∀ a,A=some a→a.block∉F)(hlen:s.late.length+l.length≤1048576):
  Calls Tryz.prog 74 #[.pointer (some ⟨p,0,none⟩),.slice A l.length c] w fun e w'=>e = .returned (.int .i64 (au s l).1)∧Did w w' p F (au s l).2:=by
 obtain⟨F0,hd0,hsub,hF0⟩:=hd.trim
 refine Calls.mono (R:=fun e w'=>e = .returned (.int .i64 (au s l).1)∧Did w w' p F0 (au s l).2) ?_ (fun e w' h=>⟨h.1,h.2.mono hsub⟩)
 have hA0:∀ a,A=some a→a.block∉F0:=fun a ha hm=>hA a ha (hsub _ hm)
 clear hd hsub hA
 replace hA0:=Lib.hid hA0
 replace hF0:=Lib.hid hF0
 have hll:l.length≤1048576:=by omega
 go_enter Tryz.func74,Tryz.ntmps74
 go_wp2_with fail
 go_loopw [10] (fun i wr=>∃ (k:Nat) (sk:St) (Fk:List Nat),k≤l.length∧i = .int .i64 k∧au s l=au sk (l.drop k)∧sk.late.length≤s.late.length+k∧Dev wr p Fk sk∧Only F0 w wr∧Hid (∀ j∈Fk,j∈F0∨w.heap.size≤j)) (fun i _=>l.length-(intOf i).toNat)
 case atStart=>exact⟨0,s,F0,Nat.zero_le _,rfl,by rw [List.drop_zero],by omega,hd0,Only.refl _ _,fun j hj=>.inl hj⟩
 case round=>
  obtain⟨k,sk,Fk,hk,rfl,hset,bY,hdk,aF,hfk⟩:=hrel
  replace hset:=Lib.hid hset
  by_cases hlt:k<l.length
  ·obtain⟨g,o,rfl,hg,hat⟩:=hb.get hlt
   have hgF:g∉F0:=hA0.out _ rfl
   have c0:=aF.cell (hat k hlt).1 hgF
   have c1:=aF.cell (hat k hlt).2 hgF
   have hok:=hb.2 l[k] (List.getElem_mem hlt)
   have rE:au s l=if aI sk l[k].at_ l[k].data=0 then au (written sk l[k].at_ l[k].data) (l.drop (k+1)) else (aI sk l[k].at_ l[k].data,written sk l[k].at_ l[k].data):=by
    rw [hset.out,List.drop_eq_getElem_cons hlt,au]
   replace rE:=Lib.hid rE
   generalize l[k]=x at *
   obtain⟨at_,data⟩:=x
   obtain⟨⟨a0,a1⟩,_⟩:=hok
   simp only at c0 c1 a0 a1
   go_wp2_with fail
   refine (write_any _ p Fk sk at_ data a0 a1 (by omega) (hdk.kept ((Only.refl [] wr).alloc _) (by simp))).mono ?_
   rintro e w2 ⟨rfl,wS⟩
   have P8:=wS.from ((Only.refl [] wr).alloc _)
   clear wS c0 c1
   obtain⟨F2,hd2,k2,f2⟩:=P8
   have Yp:Only F0 w w2:=aF.then k2 (fun i hi=>hfk.out i hi)
   have adN:Hid (∀ j∈F2,j∈F0∨w.heap.size≤j):=fun j hj=>by
    rcases f2.out j hj with h | h
    ·exact hfk.out j h
    ·exact .inr (Nat.le_trans aF.size h)
   clear f2
   by_cases he:aI sk at_ data=0
   ·have dF:=rE.out
    rw [if_pos he] at dF
    rw [he]
    have rG:=iZ sk at_ data
    replace dF:=Lib.hid dF
    clear rE hset hdk aF k2
    go_wp2
    go_roundw
    case rel=>exact⟨k+1,written sk at_ data,F2,by omega,by go_num,dF.out,by omega,hd2,Yp,adN⟩
    case measure=>simp [intOf];omega
   ·have dF:=rE.out
    rw [if_neg he] at dF
    have he':(aI sk at_ data != 0)=true:=by simpa using he
    generalize aI sk at_ data=ee at *
    replace dF:=Lib.hid dF
    clear rE hset hdk aF k2
    go_wp2
    go_ret
    rw [dF.out]
    exact⟨rfl,F2,hd2,Yp,adN⟩
  ·have hkl:k=l.length:=by omega
   have dF:=hset.out
   rw [hkl,List.drop_of_length_le (Nat.le_refl _),au] at dF
   clear hset
   replace dF:=Lib.hid dF
   have hge:(l.length:Int)≤k:=by omega
   go_wp2_with fail
   refine (vG _ p Fk sk hdk).mono ?_
   rintro e w2 ⟨rfl,hs⟩
   have hfin:Did w w2 p F0 (bD sk):=⟨Fk,hs.1,aF.then hs.2 (fun i hi=>hfk.out i hi),hfk⟩
   replace hfin:=Lib.hid hfin
   clear hs hdk aF hfk
   go_wp2
   go_ret
   rw [dF.out]
   exact⟨rfl,hfin.out⟩
def aB(l:List Bk):List Bk:=l.mapIdx fun i x=>⟨(1+i:Nat),x.data⟩
theorem gW(l:List Bk):(aB l).length=l.length:=by simp [aB]
theorem G8(l:List Bk)(k:Nat)(h:k<l.length):aB (l.take (k+1))=aB (l.take k)++[⟨(1+k:Nat),l[k].data⟩]:=by
 have ht:l.take (k+1)=l.take k++[l[k]]:=List.take_succ_eq_append_getElem h
 rw [ht,aB,List.mapIdx_append]
 simp [aB,List.length_take,Nat.min_eq_left (Nat.le_of_lt h)]
theorem uF:(Tryz.prog.info? 181).map (fun i=>(i.zero,i.size,i.bytes))=some (some (.agg #[.int .i64 0,.string ⟨#[]⟩]),2,24):=by kernel_rfl
set_option maxRecDepth 100000 in
set_option maxHeartbeats 1000000 in
theorem Qo(w:World)(A:Option Addr)(c:Nat)(l:List Bk)(hb:Fq w A l)(hl:l.length≤1048576):
  Calls Tryz.prog 89 #[.slice A l.length c] w fun e w'=>∃ v,e = .returned v∧vJ w w' v (aB l):=by
 obtain⟨ti,ht1,ht2,ht3,ht4⟩:=info_parts uF
 replace ht1:=Lib.hid ht1
 replace ht2:=Lib.hid ht2
 replace ht3:=Lib.hid ht3
 replace ht4:=Lib.hid ht4
 go_enter Tryz.func89,Tryz.ntmps89
 go_wp2_with fail
 go_loopw [3,8] (fun v i wr=>∃ (k:Nat) (vf:Value),k≤l.length∧i = .int .i64 k∧vf=v∧wr.ownsRow 0 181 2 vf k (kG (aB (l.take k)))∧Only [] w wr∧Hid (∀ g,vf.ownBlock=some g→w.heap.size≤g)) (fun _ i _=>l.length-(intOf i).toNat)
 case atStart=>exact⟨0,_,Nat.zero_le _,rfl,rfl,World.ownsRow_nil _ 0 _ 2,Only.refl _ _,fun g hg=>by simp [Value.ownBlock] at hg⟩
 case round=>
  obtain⟨k,vf,hk,rfl,hvf,hown,aF,hnew⟩:=hrel
  subst hvf
  by_cases hlt:k<l.length
  ·obtain⟨g,o,rfl,hg,hat⟩:=hb.get hlt
   have c0:=aF.cell (hat k hlt).1 (by simp)
   have c1:=aF.cell (hat k hlt).2 (by simp)
   have hcp:=Lib.hid (G8 l k hlt)
   generalize l[k]=x at *
   obtain⟨at_,data⟩:=x
   simp only at c0 c1
   generalize hbs:strOf data=bs at *
   replace hbs:=Lib.hid hbs
   have hk1:wrap64 (1+(k:Int))=1+(k:Int):=by simp only [wrap64];omega
   have news:=World.news_of_block (Blk.new (wr.alloc (.cells #[.int .i64 at_,.string bs] 181)) 181 #[.int .i64 (1+(k:Int)),.string bs])
   rw [show (wr.alloc (.cells #[.int .i64 at_,.string bs] 181)).heap.size=wr.heap.size+1 by simp] at news
   have ka:Only [] wr ((wr.alloc (.cells #[.int .i64 at_,.string bs] 181)).alloc (.cells #[.int .i64 (1+(k:Int)),.string bs] 181)):=((Only.refl [] wr).alloc _).alloc _
   have zJ:=ay hown ka (by simp)
   have hone:∀ u∈[Value.int .i64 (1+(k:Int)),.string bs],u.oneCell'=true:=by
    intro u hu
    simp at hu
    rcases hu with rfl | rfl<;>rfl
   go_wp2_with (at_builtin;go_must (refine wpList_append_lies _ rfl (.tmp 13) (.tmp 19) 155 rfl 0 181 ti (.agg #[.int .i64 0,.string ⟨#[]⟩]) 2 24 Tryz.underlying155 ht1.out ht2.out ht3.out ht4.out rfl (by decide) vf k _ rfl zJ ⟨wr.heap.size+1,0,none⟩ 1 1 [.int .i64 (1+(k:Int)),.string bs] rfl rfl news hone (by decide) (by unfold maxLen;omega) (by omega) (Nat.zero_le _) _ rfl ?go))
   case go=>
    intro g5 cp w5 hown5 hgrow JH Kz
    have hg5:w.heap.size≤g5:=by
     rcases JH with h | h
     ·exact hnew.out g5 h
     ·have:=ka.size;have:=aF.size;omega
    have JB:Only [] w w5:=(aF.trans ka).grown hgrow (fun j hj=>.inr (hnew.out j hj))
    have hown6:w5.ownsRow 0 181 2 (.slice (some ⟨g5,0,none⟩) (k+1) cp) (k+1) (kG (aB (l.take (k+1)))):=by
     rw [hcp.out,qP]
     simpa [hbs.out] using hown5
    have L6:Hid (∀ g,(Value.slice (some ⟨g5,0,none⟩) (k+1) cp).ownBlock=some g→w.heap.size≤g):=fun g hg=>by
     simp only [Value.ownBlock,Option.some.injEq] at hg
     omega
    replace hown6:=Lib.hid hown6
    clear hown5 hgrow JH zJ news ka hown aF hnew c0 c1
    go_wp2
    go_roundw
    case rel=>exact⟨k+1,_,by omega,by go_num,rfl,hown6.out,JB,L6⟩
    case measure=>simp [intOf];omega
  ·have hkl:k=l.length:=by omega
   have hge:(l.length:Int)≤k:=by omega
   have hok:∀ x∈aB l,x.okay:=by
    intro x hx
    simp only [aB,List.mem_mapIdx] at hx
    obtain⟨i,hi,rfl⟩:=hx
    exact⟨⟨by simp only;omega,by simp only;omega⟩,(hb.2 l[i] (List.getElem_mem hi)).2⟩
   have hfin:vJ w wr vf (aB l):=by
    refine sF (e:=181) ?_ hok aF hnew.out
    rw [gW,←hkl]
    rw [hkl,List.take_of_length_le (Nat.le_refl _)] at hown
    rw [hkl]
    exact hown
   replace hfin:=Lib.hid hfin
   clear hown hok
   go_wp2
   go_ret
   exact⟨_,rfl,hfin.out⟩
end Go.Proofs.YtmelaiefbpdifaaGreatDoor
/- The home blocks as a commit is to leave them. -/
namespace Go.Proofs.YtmelaiefbpdifaaGreatDoor
open Go.RowKit
theorem lZ{P:Program}{o:Oper}{ev:Operand→Value}(t u:TypeId)(x y:Operand)(hop:o.op=Op.binOp .add t x y u)(l m:List UInt8)(hx:ev x = .string (strOf l))(hy:ev y = .string (strOf m))(hlen:l.length+m.length≤9223372036854775807)(w:World):
  (execOp ev o).run P w = .ok (.value (.string (strOf (l++m)))) w:=by
 have hr:(binOp .add t (.string (strOf l)) (.string (strOf m))).run P w = .ok (.string (strOf (l++m))) w:=by
  rw [binOp_string_add,run_string_add_sum w _ _ (by rw [aj,aj];exact hlen),mY]
 simp only [execOp,hop,hx,hy,eqGuard_add,Sem.run_bind,Sem.run_pure,Result.andThen_ok,hr]
def jo(n:Nat)(x:Bk):List UInt8:=oQ (be4 (41+x.at_.toNat)++be4 n++x.data)
def homesOf(n:Nat)(l:List Bk):List Bk:=l.map fun x=>⟨41+x.at_,jo n x⟩
theorem dM(n:Nat)(l:List Bk):(homesOf n l).length=l.length:=by simp [homesOf]
theorem nJ(n:Nat)(x:Bk)(h:x.data.length≤248):(jo n x).length=256:=zu _ (by simp [aU];omega)
theorem JC(n:Nat)(l:List Bk)(k:Nat)(h:k<l.length):homesOf n (l.take (k+1))=homesOf n (l.take k)++[⟨41+l[k].at_,jo n l[k]⟩]:=by
 rw [List.take_succ_eq_append_getElem h,homesOf,List.map_append]
 rfl
set_option maxRecDepth 100000 in
set_option maxHeartbeats 2000000 in
theorem MV(w:World)(A:Option Addr)(c:Nat)(l:List Bk)(n:Nat)(hn:n<4294967296)(hb:Fq w A l)(hl:l.length≤1048576)(hgood:∀ x∈l,0≤x.at_∧x.at_≤1048576∧x.data.length≤248):
  Calls Tryz.prog 88 #[.slice A l.length c,.int .u32 (n:Int)] w fun e w'=>∃ v,e = .returned v∧vJ w w' v (homesOf n l):=by
 obtain⟨z,hz⟩:∃ z:Int,z=(n:Int):=⟨_,rfl⟩
 rw [←hz]
 have hz0:0≤z:=by omega
 have hz1:z<4294967296:=by omega
 replace hz:=Lib.hid hz
 replace hn:=Lib.hid hn
 obtain⟨ti,ht1,ht2,ht3,ht4⟩:=info_parts uF
 replace ht1:=Lib.hid ht1
 replace ht2:=Lib.hid ht2
 replace ht3:=Lib.hid ht3
 replace ht4:=Lib.hid ht4
 go_enter Tryz.func88,Tryz.ntmps88
 go_wp2_with fail
 go_loopw [5,11] (fun v i wr=>∃ (k:Nat) (vf:Value),k≤l.length∧i = .int .i64 k∧vf=v∧wr.ownsRow 0 181 2 vf k (kG (homesOf n (l.take k)))∧Only [] w wr∧Hid (∀ g,vf.ownBlock=some g→w.heap.size≤g)) (fun _ i _=>l.length-(intOf i).toNat)
 case atStart=>exact⟨0,_,Nat.zero_le _,rfl,rfl,World.ownsRow_nil _ 0 _ 2,Only.refl _ _,fun g hg=>by simp [Value.ownBlock] at hg⟩
 case round=>
  obtain⟨k,vf,hk,rfl,hvf,hown,aF,hnew⟩:=hrel
  subst hvf
  by_cases hlt:k<l.length
  ·obtain⟨g,o,rfl,hg,hat⟩:=hb.get hlt
   have c0:=aF.cell (hat k hlt).1 (by simp)
   have c1:=aF.cell (hat k hlt).2 (by simp)
   have hcp:=Lib.hid (JC n l k hlt)
   obtain⟨g0,g1,g2⟩:=hgood _ (List.getElem_mem hlt)
   generalize l[k]=x at *
   obtain⟨at_,data⟩:=x
   simp only at c0 c1 g0 g1 g2
   obtain⟨a,rfl⟩:=Int.eq_ofNat_of_zero_le g0
   have hya:Hid ((41:Int)+(a:Int)=((41+a:Nat):Int)):=show _=_ by omega
   generalize hbs:strOf data=bs at *
   replace hbs:=Lib.hid hbs
   obtain⟨q,hq⟩:∃ q,q=wr.heap.size:=⟨_,rfl⟩
   obtain⟨p,hp⟩:∃ p,p=wr.heap.size+1:=⟨_,rfl⟩
   have bq:Blk (wr.alloc (.cells #[.int .i64 (a:Int),.string bs] 184)) q 184 #[.int .i64 (a:Int),.string bs]:=by rw [hq];exact Blk.new wr _ _
   have hwr:Wr ((wr.alloc (.cells #[.int .i64 (a:Int),.string bs] 184)).alloc (.cells #[.slice none 0 0] 249)) p [] []:=by
    refine⟨_,?_,World.ownsRow_nil _ 0 _ 1,by simp [Value.ownBlock],by simp [Value.ownBlock]⟩
    have:=Blk.new (wr.alloc (.cells #[.int .i64 (a:Int),.string bs] 184)) 249 #[.slice none 0 0]
    rwa [show (wr.alloc (.cells #[.int .i64 (a:Int),.string bs] 184)).heap.size=p by rw [hp];simp] at this
   have kV:Only [] wr ((wr.alloc (.cells #[.int .i64 (a:Int),.string bs] 184)).alloc (.cells #[.slice none 0 0] 249)):=((Only.refl [] wr).alloc _).alloc _
   replace bq:=bq.alloc (.cells #[.slice none 0 0] 249)
   have hqV:=bq.lt
   have hpV:=hwr.lt
   have hqp:q≠p:=by omega
   have hwq:w.heap.size≤q:=by have:=aF.size;omega
   have hwp:w.heap.size≤p:=by have:=aF.size;omega
   have hrq:wr.heap.size≤q:=by omega
   have hrp:wr.heap.size≤p:=by omega
   go_wp2_with fail
   rw [←hp]
   simp only [←hq]
   have afd:wr.heap.size=q:=by omega
   generalize ((wr.alloc (.cells #[.int .i64 (a:Int),.string bs] 184)).alloc (.cells #[.slice none 0 0] 249))=V at *
   replace hq:=Lib.hid hq
   replace hp:=Lib.hid hp
   refine (gB _ p [] [] (41+(a:Int)) (41+a) hya.out (by omega) hwr (by simp)).mono ?_
   rintro e w1 ⟨rfl,F1,h1,k1,f1⟩
   go_wp2_with fail
   refine (gB _ p F1 _ z n hz.out hn.out h1 (by simp [aU])).mono ?_
   rintro e w2 ⟨rfl,F2,h2,k2,f2⟩
   have bq1:=bq.kept k1 (by simp;exact hqp)
   have hF1:∀ i∈F1,V.heap.size≤i:=fun i hi=>(f1 i hi).resolve_left (by simp)
   have adr:q∉F1:=fun h=>by have:=hF1 q h;omega
   have bq2:=bq1.kept k2 (by simp;exact⟨hqp,adr⟩)
   have hF2:∀ i∈F2,V.heap.size≤i:=fun i hi=>by
    rcases f2 i hi with h | h
    ·exact hF1 i h
    ·have:=k1.size;omega
   have k02:Only [] wr w2:=by
    refine (kV.then k1 (by simp;exact hrp)).then k2 (fun i hi=> ?_)
    rcases List.mem_cons.1 hi with rfl | hi
    ·exact .inr hrp
    ·have:=hF1 i hi;have:=kV.size;exact .inr (by omega)
   have d0:=bq2.cell 0
   have d1:=bq2.cell 1
   simp only [List.getElem?_toArray,List.getElem?_cons_zero,List.getElem?_cons_succ] at d0 d1
   have ac7:=ay hown k02 (by simp)
   have Za:∀ g,vf.ownBlock=some g→g<wr.heap.size:=fun g hg=>(hown.lt g hg).2
   have adq:=bq2.lt
   have hbytes:([]++be4 (41+a)++be4 n++data).length≤256:=by simp [aU];omega
   have hhome:jo n ⟨(a:Int),data⟩=oQ ([]++be4 (41+a)++be4 n++data):=by simp [jo]
   generalize hall:[]++be4 (41+a)++be4 n=all at *
   replace hall:=Lib.hid hall
   replace hhome:=Lib.hid hhome
   have hlen1:all.length+data.length≤256:=by rw [List.length_append] at hbytes;exact hbytes
   clear bq bq1 k1 k2 f1 f2 hF1 adr h1 hwr hown kV
   go_wp2_with fail
   have hw3:IntKind.i64.wrap (41+(a:Int))=41+(a:Int):=by rw [IntKind.wrap_i64];omega
   have kd:Only [] w2 w2.drew:=(Only.refl [] w2).drew
   have h2d:=h2.kept kd (by simp) (by simp)
   refine wp_region_held_drew (S:=fun w'=>w'.cell? ⟨q,0,none⟩=some (.int .i64 (a:Int))∧w'.cell? ⟨q,1,none⟩=some (.string bs)) (by kernel_rfl) ⟨kd.cell d0 (by simp),kd.cell d1 (by simp)⟩ (fun hHeld=> ?_)
   refine rwT 0 (vf) hHeld ?_;simp only [rwA]
   refine rwT 1 (.pointer (some ⟨q,0,none⟩)) hHeld ?_;simp only [rwA]
   refine rwT 2 (.int .i64 (a:Int)) hHeld ?_;simp only [rwA]
   refine rwT 3 (.int .i64 (41+(a:Int))) hHeld ?_;simp only [rwA]
   refine rwT 5 (.pointer (some ⟨q,1,none⟩)) hHeld ?_;simp only [rwA]
   refine rwT 6 (.string bs) hHeld ?_;simp only [rwA]
   refine ah 4 rfl (by kernel_rfl) (fun K hK=> ?_)
   go_simp
   go_at_call 145
   refine (mJ _ p F2 all h2d).mono ?_
   rintro e w3 ⟨rfl,rfl⟩
   go_wp2_with fail
   refine hK.out _ _ ⟨kd.cell d0 (by simp),kd.cell d1 (by simp)⟩ (fun hHeld=> ?_)
   clear hK K
   refine rwY 7 (.string (strOf (all++data))) hHeld ?_ (hy:=Or.inl ⟨by rfl,fun w' hSw=>lZ 9 9 (.tmp 26) (.tmp 28) rfl all data rfl (congrArg Value.string hbs.out.symm) (by omega) w'⟩);simp only [rwA]
   refine ah 8 rfl (by kernel_rfl) (fun K hK=> ?_)
   go_simp
   go_at_call 144
   refine (EX _ (all++data) (by simp;omega)).mono ?_
   rintro e w4 ⟨rfl,k4⟩
   go_wp2_with fail
   refine hK.out _ _ ⟨k4.cell (kd.cell d0 (by simp)) (by simp),k4.cell (kd.cell d1 (by simp)) (by simp)⟩ (fun hHeld=> ?_)
   clear hK K
   have k24:Only [] w2 w4:=kd.trans k4
   obtain⟨H,hH⟩:∃ H,H=strOf (oQ (all++data)):=⟨_,rfl⟩
   rw [←hH]
   replace hH:=Lib.hid hH
   refine rwT 9 (.agg #[.int .i64 (41+(a:Int)),.string H]) hHeld ?_;simp only [rwA]
   refine ah 10 rfl (by kernel_rfl) (fun K hK=> ?_)
   go_simp
   have k5:Only [] w4 (w4.alloc (.cells #[.int .i64 (41+(a:Int)),.string H] 181)):=(Only.refl [] w4).alloc _
   have news:=World.news_of_block (Blk.new w4 181 #[.int .i64 (41+(a:Int)),.string H])
   refine hK.out _ _ ⟨(k24.trans k5).cell d0 (by simp),(k24.trans k5).cell d1 (by simp)⟩ (fun hHeld=> ?_)
   clear hK K
   have zJ:=ay ac7 (k24.trans k5) (by simp)
   have hone:∀ u∈[Value.int .i64 (41+(a:Int)),.string H],u.oneCell'=true:=by
    intro u hu
    simp at hu
    rcases hu with rfl | rfl<;>rfl
   refine ah 11 rfl (by kernel_rfl) (fun K hK=> ?_)
   refine step_append_lies _ rfl (.tmp 22) (.tmp 32) 155 rfl 0 181 ti (.agg #[.int .i64 0,.string ⟨#[]⟩]) 2 24 Tryz.underlying155 ht1.out ht2.out ht3.out ht4.out rfl (by decide) vf k _ rfl zJ ⟨w4.heap.size,0,none⟩ 1 1 [.int .i64 (41+(a:Int)),.string H] rfl rfl news hone (by decide) (by unfold maxLen;omega) (by omega) (Nat.zero_le _) _ rfl ?_
   intro g5 cp w5 hown5 hgrow JH Kz
   have hg5:w.heap.size≤g5:=by
    rcases JH with h | h
    ·exact hnew.out g5 h
    ·have:=(k24.trans k5).size;have:=k02.size;have:=aF.size;omega
   have adp:vf.ownBlock≠some q:=fun h=>by have:=(Za q h);omega
   have e0:w5.cell? ⟨q,0,none⟩=some (.int .i64 (a:Int)):=(World.cell?_of_block (hgrow.block q (Nat.lt_of_lt_of_le adq (k24.trans k5).size) (fun h=>adp h.symm))).trans ((k24.trans k5).cell d0 (by simp))
   have e1:w5.cell? ⟨q,1,none⟩=some (.string bs):=(World.cell?_of_block (hgrow.block q (Nat.lt_of_lt_of_le adq (k24.trans k5).size) (fun h=>adp h.symm))).trans ((k24.trans k5).cell d1 (by simp))
   refine hK.out _ _ ⟨e0,e1⟩ (fun hHeld=> ?_)
   clear hK K
   simp only [rwA]
   refine rwT 12 (.slice (some ⟨g5,0,none⟩) (k+1) cp) hHeld ?_;simp only [rwA]
   refine wpAnyH_done (by kernel_rfl) ?_ _
   clear hHeld
   have JB:Only [] w w5:=((aF.trans k02).trans (k24.trans k5)).grown hgrow (fun j hj=>.inr (hnew.out j hj))
   have hown6:w5.ownsRow 0 181 2 (.slice (some ⟨g5,0,none⟩) (k+1) cp) (k+1) (kG (homesOf n (l.take (k+1)))):=by
    rw [hcp.out,qP,hhome.out,←hH.out]
    exact hown5
   have L6:Hid (∀ g,(Value.slice (some ⟨g5,0,none⟩) (k+1) cp).ownBlock=some g→w.heap.size≤g):=fun g hg=>by
    simp only [Value.ownBlock,Option.some.injEq] at hg
    omega
   replace hown6:=Lib.hid hown6
   clear hown5 hgrow JH zJ news k5 k24 k02 kd aF hnew c0 c1 d0 d1 e0 e1 ac7 h2 h2d bq2 hF2
   go_wp2
   go_roundw
   case rel=>exact⟨k+1,_,by omega,by go_num,rfl,hown6.out,JB,L6⟩
   case measure=>simp [intOf];omega
  ·have hkl:k=l.length:=by omega
   have hge:(l.length:Int)≤k:=by omega
   have hok:∀ x∈homesOf n l,x.okay:=by
    intro x hx
    simp only [homesOf,List.mem_map] at hx
    obtain⟨y,hy,rfl⟩:=hx
    obtain⟨y0,y1,y2⟩:=hgood y hy
    refine⟨⟨by simp only;omega,by simp only;omega⟩,?_⟩
    simp only [nJ n y y2]
    omega
   have hfin:vJ w wr vf (homesOf n l):=by
    refine sF (e:=181) ?_ hok aF hnew.out
    rw [dM,←hkl]
    rw [hkl,List.take_of_length_le (Nat.le_refl _)] at hown
    rw [hkl]
    exact hown
   replace hfin:=Lib.hid hfin
   clear hown hok
   go_wp2
   go_ret
   exact⟨_,rfl,hfin.out⟩
end Go.Proofs.YtmelaiefbpdifaaGreatDoor
/- What the journal has for the home blocks. -/
namespace Go.Proofs.YtmelaiefbpdifaaGreatDoor
open Go.RowKit
def bI(s:St)(k:Nat):List UInt8:=qg (s.aA.getD k []) s.late k
theorem SX(d:List UInt8)(k:Nat)(hd:d.length=256):∀ l:List (Nat × List UInt8),(∀ x∈l,x.2.length=256)→(qg d l k).length=256:=by
 refine mZ (fun _=>hd) ?_
 intro l x ih h
 rw [lF]
 split
 ·exact h x (by simp)
 ·exact ih (fun y hy=>h y (by simp [hy]))
theorem Fine.blk{s:St}(h:Fine s){k:Nat}(hk:k<s.aA.length):(bI s k).length=256:=
 SX _ k (h.aA _ (List.mem_of_getElem? (wU hk _))) _ (fun x hx=>(h.late x hx).2)
theorem wE(s:St)(k:Nat)(hk:k<s.aA.length)(hd:s.dead=false):readB s (k:Int)=bI s k∧iQ s (k:Int)=0:=by
 have hh:bF s.aA.length (k:Int)=true:=by simp only [bF,decide_eq_true_eq];omega
 simp [readB,iQ,hh,hd,bI]
def qF(s:St)(n i:Nat):Prop:=41≤jg (bI s (1+i)) 0∧jg (bI s (1+i)) 0<s.aA.length∧jg (bI s (1+i)) 4=n
instance (s : St) (n i : Nat) : Decidable (qF s n i) := by unfold qF; infer_instance
def dV(s:St)(k:Nat):List Bk:=(List.range k).map fun i=>⟨(jg (bI s (1+i)) 0:Nat),bI s (1+i)⟩
theorem iM(s:St)(k:Nat):(dV s k).length=k:=by simp [dV]
theorem Dl(s:St)(k:Nat):dV s (k+1)=dV s k++[⟨(jg (bI s (1+k)) 0:Nat),bI s (1+k)⟩]:=by
 simp [dV,List.range_succ]
def Fh(s:St)(n k:Nat):Prop:=k≤40∧∀ i,i<k→qF s n i
instance (s : St) (n k : Nat) : Decidable (Fh s n k) := by
 unfold Fh
 infer_instance
def gK(s:St)(n k:Nat):List Bk:=if Fh s n k then dV s k else []
def zD(w w':World)(e:Ending)(l:List Bk):Prop:=∃ v,e = .returned (.tuple #[v,.int .i64 0])∧vJ w w' v l
theorem zD.nil{w w':World}{l:List Bk}(k:Only [] w w')(h:l = []):zD w w' (.returned (.tuple #[.slice none 0 0,.int .i64 0])) l:=
 ⟨_,rfl,none,0,by rw [h];rfl,⟨.inl h,by rw [h];simp⟩,k,by simp⟩
set_option maxRecDepth 100000 in
set_option maxHeartbeats 2000000 in
theorem VU(w:World)(p:Nat)(F:List Nat)(s:St)(n kk:Nat)(hn:n<4294967296)(hkk:kk<4294967296)(hd:Dev w p F s)(fG:s.dead=false)(hsize:42≤s.aA.length):
  Calls Tryz.prog 73 #[.pointer (some ⟨p,0,none⟩),.agg #[.int .u32 (n:Int),.int .u32 (kk:Int)]] w fun e w'=>zD w w' e (gK s n kk):=by
 obtain⟨z,hz⟩:∃ z:Int,z=(n:Int):=⟨_,rfl⟩
 rw [←hz]
 have hz0:0≤z:=by omega
 have hz1:z<4294967296:=by omega
 obtain⟨W,hW⟩:∃ W,W=w.alloc (.cells #[.int .u32 z,.int .u32 (kk:Int)] 153):=⟨_,rfl⟩
 obtain⟨q,hq⟩:∃ q,q=w.heap.size:=⟨_,rfl⟩
 have kW:Only [] w W:=by rw [hW];exact (Only.refl [] w).alloc _
 have bq:Blk W q 153 #[.int .u32 z,.int .u32 (kk:Int)]:=by rw [hW,hq];exact Blk.new w _ _
 have hqw:w.heap.size≤q:=by omega
 replace hW:=Lib.hid hW
 replace hq:=Lib.hid hq
 have kk1:(kk:Int)<4294967296:=by omega
 replace hz:=Lib.hid hz
 replace hn:=Lib.hid hn
 replace hkk:=Lib.hid hkk
 by_cases hbig:40<kk
 ·have hr:gK s n kk = []:=by unfold gK;rw [if_neg (fun h=>by have:=h.1;omega)]
  rw [hr]
  have c1:=bq.cell 1
  simp only [List.getElem?_toArray,List.getElem?_cons_zero,List.getElem?_cons_succ] at c1
  have hb:(40:Int)<(kk:Int):=by omega
  clear bq
  go_enter Tryz.func73,Tryz.ntmps73
  go_wp2_with fail
  rw [←hW.out,←hq.out]
  go_wp2
  go_ret2
  exact zD.nil kW rfl
 have acA:kk≤40:=by omega
 have hnb:¬(40:Int)<(kk:Int):=by omega
 clear kk1
 have kk1:(kk:Int)≤40:=by omega
 obtain⟨ti,ht1,ht2,ht3,ht4⟩:=info_parts uF
 replace ht1:=Lib.hid ht1
 replace ht2:=Lib.hid ht2
 replace ht3:=Lib.hid ht3
 replace ht4:=Lib.hid ht4
 have c1:=bq.cell 1
 simp only [List.getElem?_toArray,List.getElem?_cons_zero,List.getElem?_cons_succ] at c1
 have hdW:=hd.kept kW (by simp)
 have fine:=hd.fine
 go_enter Tryz.func73,Tryz.ntmps73
 go_wp2_with fail
 rw [←hW.out,←hq.out]
 go_wp2_with fail
 go_loopw [6,19] (fun v i wr=>∃ (k:Nat) (vf:Value),k≤kk∧i = .int .i64 k∧vf=v∧wr.ownsRow 0 181 2 vf k (kG (dV s k))∧Hid (∀ i,i<k→qF s n i)∧Only [] W wr∧Hid (∀ g,vf.ownBlock=some g→W.heap.size≤g)) (fun _ i _=>kk-(intOf i).toNat)
 case atStart=>exact⟨0,_,Nat.zero_le _,rfl,rfl,World.ownsRow_nil _ 0 _ 2,fun i hi=>by omega,Only.refl _ _,fun g hg=>by simp [Value.ownBlock] at hg⟩
 case round=>
  obtain⟨k,vf,hk,rfl,hvf,hown,ace,aF,hnew⟩:=hrel
  subst hvf
  have bqr:=bq.kept aF (by simp)
  have d0:=bqr.cell 0
  simp only [List.getElem?_toArray,List.getElem?_cons_zero] at d0
  by_cases hlt:k<kk
  ·have hki:1+k<s.aA.length:=by omega
   obtain⟨r1,r2⟩:=wE s (1+k) hki fG
   have hbl:=fine.blk hki
   have hread:=wC wr p F s ((1+k:Nat):Int) (hdW.kept aF (by simp))
   rw [r1,r2] at hread
   rw [show (((1+k:Nat)):Int)=1+(k:Int) by omega] at hread
   have hnew2:∀ W,Calls Tryz.prog 116 #[.string (strOf (bI s (1+k)))] W (Oz W (bI s (1+k))):=fun W=>by
    have:=jr W (strOf (bI s (1+k))) (by rw [aj];omega)
    rwa [dh] at this
   have q1:bP (bI s (1+k)) 0=(jg (bI s (1+k)) 0,(bI s (1+k)).drop 4,0):=by
    unfold bP
    rw [if_neg (by simp),if_neg (by omega)]
    have:=zV (bI s (1+k)) 0 (by omega)
    rw [List.drop_zero] at this
    rw [this]
   have q2:bP ((bI s (1+k)).drop 4) 0=(jg (bI s (1+k)) 4,((bI s (1+k)).drop 4).drop 4,0):=by
    unfold bP
    rw [if_neg (by simp),if_neg (by simp;omega),zV (bI s (1+k)) 4 (by omega)]
   have BN:qF s n k↔(41≤jg (bI s (1+k)) 0∧jg (bI s (1+k)) 0<s.aA.length∧jg (bI s (1+k)) 4=n):=Iff.rfl
   have hsucc:=Dl s k
   have l0:=jP (bI s (1+k)) 0
   have l4:=jP (bI s (1+k)) 4
   have hblocks:=fun W h=>o7 W p F s h
   have hfew:=fine.few
   clear r1 r2
   generalize hB:bI s (1+k)=B at *
   generalize jg B 0=m0 at *
   generalize jg B 4=m4 at *
   generalize hBs:strOf B=bs at *
   generalize B.drop 4=B4 at *
   generalize B4.drop 4=B8 at *
   obtain⟨y0,hy0⟩:∃ y:Int,y=(m0:Int):=⟨_,rfl⟩
   obtain⟨y4,hy4⟩:∃ y:Int,y=(m4:Int):=⟨_,rfl⟩
   have y00:0≤y0:=by omega
   have y01:y0<4294967296:=by omega
   have y40:0≤y4:=by omega
   have y41:y4<4294967296:=by omega
   generalize hN:s.aA.length=N at *
   have hwk:wrap64 (1+(k:Int))=1+(k:Int):=by simp only [wrap64];omega
   replace q1:=Lib.hid q1
   replace q2:=Lib.hid q2
   replace BN:=Lib.hid BN
   replace hsucc:=Lib.hid hsucc
   replace hBs:=Lib.hid hBs
   replace hB:=Lib.hid hB
   replace hy0:=Lib.hid hy0
   replace hy4:=Lib.hid hy4
   replace hN:=Lib.hid hN
   replace hread:=Lib.hid hread
   replace l0:=Lib.hid l0
   replace l4:=Lib.hid l4
   replace hnew2:=Lib.hid hnew2
   replace hblocks:=Lib.hid hblocks
   replace hsize:=Lib.hid hsize
   replace hbl:=Lib.hid hbl
   replace hki:=Lib.hid hki
   replace fine:=Lib.hid fine
   replace hfew:=Lib.hid hfew
   go_wp2_with fail
   refine hread.out.mono ?_
   rintro e w1 ⟨rfl,rfl⟩
   go_wp2_with fail
   refine (hnew2.out _).mono ?_
   rintro e w2 ⟨pr,g,rfl,hrd,hp,hg,k2,hg2⟩
   go_wp2_with fail
   refine (pO _ pr g _ 0 hrd).mono ?_
   rintro e w3 ⟨rfl,Dv,k3⟩
   rw [q1.out] at Dv ⊢
   simp only at Dv ⊢
   rw [←hy0.out]
   go_wp2_with fail
   refine (pO _ pr g _ 0 Dv).mono ?_
   rintro e w4 ⟨rfl,LZ,k4⟩
   rw [q2.out]
   simp only
   rw [←hy4.out]
   have k14:Only [] W w4:=(aF.trans k2).then (k3.trans k4) (by simp;have:=aF.size;omega)
   have own4:=ay (ay hown k2 (by simp)) (k3.trans k4) (fun g hg=>by simp;rintro rfl;have:=(hown.lt _ hg).2;omega)
   have hd4:=hdW.kept k14 (by simp)
   have bq4:=bq.kept k14 (by simp)
   have e0:=bq4.cell 0
   simp only [List.getElem?_toArray,List.getElem?_cons_zero] at e0
   have hnil:Hid (¬qF s n k→gK s n kk = []):=fun h=>by
    unfold gK
    rw [if_neg (fun h'=>h (h'.2 k hlt))]
   have abm:Only [] w w4:=kW.trans k14
   replace BN:=BN.out
   clear hrd Dv LZ k2 k3 k4 hown aF bqr bq4 d0 q1 q2
   by_cases t1:y0<41
   ·have hno:gK s n kk = []:=hnil.out (fun h=>by rw [BN] at h;have:=hy0.out;omega)
    replace hno:=Lib.hid hno
    replace BN:=Lib.hid BN
    go_wp2
    go_ret2
    exact zD.nil abm hno.out
   by_cases t2:(N:Int)≤y0
   ·have hno:gK s n kk = []:=hnil.out (fun h=>by rw [BN] at h;have:=hy0.out;omega)
    replace hno:=Lib.hid hno
    replace BN:=Lib.hid BN
    go_wp2_with fail
    refine (hblocks.out _ hd4).mono ?_
    rintro e w5 ⟨rfl,rfl⟩
    go_wp2
    go_ret2
    exact zD.nil abm hno.out
   by_cases t3:y4=z
   ·have hyes:qF s n k:=by rw [BN];have:=hy0.out;have:=hy4.out;have:=hz.out;omega
    have acd:Hid (∀ i,i<k+1→qF s n i):=fun i hi=>by
     by_cases hik:i=k
     ·subst hik;exact hyes
     ·exact ace.out i (by omega)
    subst t3
    replace BN:=Lib.hid BN
    clear hyes hnil ace
    go_wp2_with fail
    refine (hblocks.out _ hd4).mono ?_
    rintro e w5 ⟨rfl,rfl⟩
    have news:=World.news_of_block (Blk.new w5 181 #[.int .i64 y0,.string bs])
    have k5:Only [] w5 (w5.alloc (.cells #[.int .i64 y0,.string bs] 181)):=(Only.refl [] w5).alloc _
    have zJ:=ay own4 k5 (by simp)
    have hone:∀ u∈[Value.int .i64 y0,.string bs],u.oneCell'=true:=by
     intro u hu
     simp at hu
     rcases hu with rfl | rfl<;>rfl
    go_wp2_with (at_builtin;go_must (refine wpList_append_lies _ rfl (.tmp 53) (.tmp 57) 155 rfl 0 181 ti (.agg #[.int .i64 0,.string ⟨#[]⟩]) 2 24 Tryz.underlying155 ht1.out ht2.out ht3.out ht4.out rfl (by decide) vf k _ rfl zJ ⟨w5.heap.size,0,none⟩ 1 1 [.int .i64 y0,.string bs] rfl rfl news hone (by decide) (by unfold maxLen;omega) (by omega) (Nat.zero_le _) _ rfl ?go))
    case go=>
     intro g5 cp w6 hown5 hgrow JH Kz
     have hg5:W.heap.size≤g5:=by
      rcases JH with h | h
      ·exact hnew.out g5 h
      ·have:=k5.size;have:=k14.size;omega
     have aaJ:Only [] W w6:=(k14.trans k5).grown hgrow (fun j hj=>.inr (hnew.out j hj))
     have hown6:w6.ownsRow 0 181 2 (.slice (some ⟨g5,0,none⟩) (k+1) cp) (k+1) (kG (dV s (k+1))):=by
      rw [hsucc.out,qP]
      simp only [hBs.out,←hy0.out]
      exact hown5
     have Ub:Hid (∀ g,(Value.slice (some ⟨g5,0,none⟩) (k+1) cp).ownBlock=some g→W.heap.size≤g):=fun g hg=>by
      simp only [Value.ownBlock,Option.some.injEq] at hg
      omega
     replace hown6:=Lib.hid hown6
     clear hown5 hgrow JH zJ news k5 k14 abm own4 hd4 e0 bq c1
     go_wp2
     go_roundw
     case rel=>exact⟨k+1,_,by omega,by go_num,rfl,hown6.out,acd,aaJ,Ub⟩
     case measure=>simp [intOf];omega
   ·have hno:gK s n kk = []:=hnil.out (fun h=>by rw [BN] at h;have:=hy4.out;have:=hz.out;omega)
    have t3':(y4 != z)=true:=by simpa using t3
    replace t3:=Lib.hid t3
    replace hno:=Lib.hid hno
    replace BN:=Lib.hid BN
    go_wp2_with fail
    refine (hblocks.out _ hd4).mono ?_
    rintro e w5 ⟨rfl,rfl⟩
    go_wp2
    go_ret2
    exact zD.nil abm hno.out
  ·have hkl:k=kk:=by omega
   have hge:(kk:Int)≤k:=by omega
   have hyes:gK s n kk=dV s kk:=by
    unfold gK
    rw [if_pos ⟨acA,fun i hi=>ace.out i (by omega)⟩]
   have hok:∀ x∈dV s kk,x.okay:=by
    intro x hx
    simp only [dV,List.mem_map,List.mem_range] at hx
    obtain⟨i,hi,rfl⟩:=hx
    have hl:=fine.blk (k:=1+i) (by omega)
    have hn4:=jP (bI s (1+i)) 0
    refine⟨⟨by simp only;omega,by simp only;omega⟩,by simp only;omega⟩
   have hfin:vJ W wr vf (dV s kk):=by
    refine sF (e:=181) ?_ hok aF hnew.out
    rw [iM,←hkl]
    exact hown
   have rJ:zD w wr (.returned (.tuple #[vf,.int .i64 0])) (gK s n kk):=by
    rw [hyes]
    obtain⟨A,c,h1,h2,h3,h4⟩:=hfin
    exact⟨_,rfl,A,c,h1,h2,kW.trans h3,fun a ha=>Nat.le_trans kW.size (h4 a ha)⟩
   replace rJ:=Lib.hid rJ
   clear hown hok hyes hfin fine
   go_wp2
   go_ret2
   exact rJ.out
end Go.Proofs.YtmelaiefbpdifaaGreatDoor
/- Open. -/
namespace Go.Proofs.YtmelaiefbpdifaaGreatDoor
open Go.RowKit
def fA(s:St):List Bk:=gK s (iT (bI s 0)) (kK (bI s 0))
def aY(s:St):Int:=if s.aA.length≤41 then 1 else if s.dead=true then 5 else if fA s = [] then 0 else (au s (fA s)).1
def aJ(s:St):St:=if s.aA.length≤41 then s else if s.dead=true then s else if fA s = [] then s else (au s (fA s)).2
def fF(s:St):Nat:=iT (bI s 0)
theorem FZ(s:St):fF s<4294967296:=NP _
theorem Jb(s:St):(fA s).length≤40:=by
 unfold fA gK
 split
 ·rename_i h
  rw [iM]
  exact h.1
 ·simp
def oh(w:World)(lp p:Nat)(n:Nat)(f:Bool):Prop:=Blk w lp 160 #[.pointer (some ⟨p,0,none⟩),.int .u32 (n:Int),.bool f]
def Opened(w w':World)(p:Nat)(F:List Nat)(s:St)(e:Ending):Prop:=
 ∃ F',Dev w' p F' (aJ s)∧Only F w w'∧Hid (∀ j∈F',(j∈F∨w.heap.size≤j)∧j<w'.heap.size) ∧
  ((aY s≠0∧e = .returned (.tuple #[.pointer none,.int .i64 (aY s)])) ∨
   (aY s=0∧∃ lp,e = .returned (.tuple #[.pointer (some ⟨lp,0,none⟩),.int .i64 0])∧oh w' lp p (fF s) false∧w.heap.size≤lp∧lp∉F'))
theorem Opened.mono{w w':World}{p:Nat}{F G:List Nat}{s:St}{e:Ending}(h:Opened w w' p F s e)(hG:∀ i∈F,i∈G):Opened w w' p G s e:=by
 obtain⟨F',h1,h2,h3,h4⟩:=h
 exact⟨F',h1,h2.more (fun i hi=>.inl (hG i hi)),fun j hj=>⟨(h3.out j hj).1.imp (hG j) id,(h3.out j hj).2⟩,h4⟩
theorem Bg{w w':World}{p:Nat}{F:List Nat}{s:St}{x:Int}(hd:Did w w' p F (aJ s))(h:aY s=x)(hx:x≠0):Opened w w' p F s (.returned (.tuple #[.pointer none,.int .i64 x])):=by
 obtain⟨F',h1,h2,h3⟩:=hd
 obtain⟨F2,k1,k2,k3⟩:=h1.trim
 exact⟨F2,k1,h2,fun j hj=>⟨h3.out j (k2 j hj),k3 j hj⟩,.inl ⟨by rw [h];exact hx,by rw [h]⟩⟩
theorem Ej{w w':World}{p:Nat}{F:List Nat}{s:St}{y:Int}(hd:Did w w' p F (aJ s))(h:aY s=0)(hy:y=(fF s:Nat)):
  Opened w (w'.alloc (.cells #[.pointer (some ⟨p,0,none⟩),.int .u32 y,.bool false] 160)) p F s (.returned (.tuple #[.pointer (some ⟨w'.heap.size,0,none⟩),.int .i64 0])):=by
 obtain⟨F',h1,h2,h3⟩:=hd
 obtain⟨F2,k1,k2,k3⟩:=h1.trim
 refine⟨F2,k1.kept ((Only.refl [] w').alloc _) (by simp),h2.trans ((Only.refl F w').alloc _),fun j hj=>⟨h3.out j (k2 j hj),by have:=k3 j hj;simp;omega⟩,.inr ⟨h,w'.heap.size,rfl,?_,h2.size,fun hm=>by have:=k3 _ hm;omega⟩⟩
 unfold oh
 rw [←hy]
 exact Blk.new _ _ _
set_option maxRecDepth 100000 in
set_option maxHeartbeats 2000000 in
theorem open_any(w:World)(p:Nat)(F:List Nat)(s:St)(hd:Dev w p F s)(bY:s.late.length+40≤1048576):
  Calls Tryz.prog 33 #[.pointer (some ⟨p,0,none⟩)] w fun e w'=>Opened w w' p F s e:=by
 obtain⟨F0,hd0,hsub,hF0⟩:=hd.trim
 refine Calls.mono (R:=fun e w'=>Opened w w' p F0 s e) ?_ (fun e w' h=>h.mono hsub)
 clear hd hsub F
 rename List Nat=>F
 rename Dev w p F s=>hd
 replace hF0:=Lib.hid hF0
 have fine:=hd.fine
 have hblocks:=o7 w p F s hd
 have hself:Did w w p F s:=⟨F,hd,Only.refl _ _,fun k hk=>.inl hk⟩
 by_cases hA:s.aA.length≤41
 ·have e1:aY s=1:=by rw [aY,if_pos hA]
  have e2:aJ s=s:=by rw [aJ,if_pos hA]
  have hfin:Opened w w p F s (.returned (.tuple #[.pointer none,.int .i64 1])):=Bg (by rw [e2];exact hself) e1 (by decide)
  replace hfin:=Lib.hid hfin
  have hA':(s.aA.length:Int)≤41:=by omega
  clear fine e1 e2 hself hd
  generalize s.aA.length=N at *
  go_enter Tryz.func33,Tryz.ntmps33
  go_wp2_with fail
  refine hblocks.mono ?_
  rintro e w1 ⟨rfl,rfl⟩
  go_wp2
  go_ret2
  exact hfin.out
 have hA':¬(s.aA.length:Int)≤41:=by omega
 have hread:=wC w p F s ((0:Nat):Int) hd
 by_cases hB:s.dead=true
 ·have e1:aY s=5:=by rw [aY,if_neg hA,if_pos hB]
  have e2:aJ s=s:=by rw [aJ,if_neg hA,if_pos hB]
  have hfin:Opened w w p F s (.returned (.tuple #[.pointer none,.int .i64 5])):=Bg (by rw [e2];exact hself) e1 (by decide)
  replace hfin:=Lib.hid hfin
  have hh:bF s.aA.length ((0:Nat):Int)=true:=by simp only [bF,decide_eq_true_eq];omega
  have r1:iQ s ((0:Nat):Int)=5:=by simp [iQ,hB];have:=hh;simpa using this
  rw [r1] at hread
  generalize strOf (readB s ((0:Nat):Int))=rb at *
  clear fine e1 e2 hself hd hA hh r1 hB bY
  generalize s.aA.length=N at *
  replace hread:=Lib.hid hread
  go_enter Tryz.func33,Tryz.ntmps33
  go_wp2_with fail
  refine hblocks.mono ?_
  rintro e w1 ⟨rfl,rfl⟩
  go_wp2_with fail
  refine hread.out.mono ?_
  rintro e w1 ⟨rfl,rfl⟩
  go_wp2
  go_ret2
  exact hfin.out
 have hB':s.dead=false:=by simpa using hB
 obtain⟨r1,r2⟩:=wE s 0 (by omega) hB'
 rw [r1,r2] at hread
 have hb0:=fine.blk (k:=0) (by omega)
 have hmark:=fun W=>PO W (bI s 0) hb0
 have hN:=NP (bI s 0)
 have hK:=WE (bI s 0)
 have Xb:=fun W h=>VU W p F s (iT (bI s 0)) (kK (bI s 0)) hN hK h hB' (by omega)
 rw [show gK s (iT (bI s 0)) (kK (bI s 0))=fA s from rfl] at Xb
 have hfew:=Jb s
 have e1:aY s=if fA s = [] then 0 else (au s (fA s)).1:=by rw [aY,if_neg hA,if_neg hB]
 have e2:aJ s=if fA s = [] then s else (au s (fA s)).2:=by rw [aJ,if_neg hA,if_neg hB]
 have hset:=fun W A c h h2 h3=>pF W p F s A c (fA s) h h2 h3 (by omega)
 have hNn:((iT (bI s 0):Nat):Int)=(fF s:Nat):=rfl
 generalize hL:fA s=L at *
 generalize strOf (bI s 0)=b0 at *
 generalize ((iT (bI s 0):Nat):Int)=y at *
 generalize ((kK (bI s 0):Nat):Int)=yk at *
 have y0:0≤y:=by omega
 have y1:y<4294967296:=by have:=FZ s;omega
 clear hN hK hb0 r1 r2
 replace hNn:=Lib.hid hNn
 replace hread:=Lib.hid hread
 replace hmark:=Lib.hid hmark
 replace Xb:=Lib.hid Xb
 replace hset:=Lib.hid hset
 replace e1:=Lib.hid e1
 replace e2:=Lib.hid e2
 replace hL:=Lib.hid hL
 replace hblocks:=Lib.hid hblocks
 have aeR:(L.length:Int)≤40:=by omega
 clear fine hself hA hB bY hfew
 generalize s.aA.length=N at *
 go_enter Tryz.func33,Tryz.ntmps33
 go_wp2_with fail
 refine hblocks.out.mono ?_
 rintro e w1 ⟨rfl,rfl⟩
 go_wp2_with fail
 refine hread.out.mono ?_
 rintro e w2 ⟨rfl,rfl⟩
 go_wp2_with fail
 refine (hmark.out _).mono ?_
 rintro e w3 ⟨rfl,k3⟩
 go_wp2_with fail
 have k4:Only [] w3 (w3.alloc (.cells #[.int .u32 y,.int .u32 yk] 153)):=(Only.refl [] w3).alloc _
 have bm:Blk (w3.alloc (.cells #[.int .u32 y,.int .u32 yk] 153)) w3.heap.size 153 #[.int .u32 y,.int .u32 yk]:=Blk.new _ _ _
 generalize hW:w3.alloc (.cells #[.int .u32 y,.int .u32 yk] 153)=W at *
 obtain⟨q,hq⟩:∃ q,q=w3.heap.size:=⟨_,rfl⟩
 rw [←hq] at bm
 simp only [←hq]
 have k04:=k3.trans k4
 have hd4:=hd.kept k04 (by simp)
 refine (Xb.out _ hd4).mono ?_
 rintro e w5 ⟨v,rfl,A,c,rfl,hbl,k5,Zg⟩
 have k05:=k04.trans k5
 have bm5:=bm.kept k5 (by simp)
 have hd5:=hd.kept k05 (by simp)
 have c0:=bm5.cell 0
 simp only [List.getElem?_toArray,List.getElem?_cons_zero] at c0
 replace hW:=Lib.hid hW
 replace hq:=Lib.hid hq
 by_cases hLn:L = []
 ·have e1':=e1.out
  have e2':=e2.out
  rw [if_pos hLn] at e1' e2'
  have hl0:(L.length:Int)=0:=by rw [hLn];rfl
  have hfin:Opened w2 (w5.alloc (.cells #[.pointer (some ⟨p,0,none⟩),.int .u32 y,.bool false] 160)) p F s (.returned (.tuple #[.pointer (some ⟨w5.heap.size,0,none⟩),.int .i64 0])):=by
   refine Ej ?_ e1' hNn.out
   rw [e2']
   exact⟨F,hd5,k05.more (by simp),fun j hj=>.inl hj⟩
  replace hfin:=Lib.hid hfin
  replace hLn:=Lib.hid hLn
  clear hd hd4 hd5 bm bm5 k3 k4 k04 k5 k05 hbl e1' e2' Zg
  go_wp2
  go_ret2
  exact hfin.out
 ·have hl0:(0:Int)<(L.length:Int):=by
   have:=List.length_pos_iff.2 hLn
   omega
  have e1':=e1.out
  have e2':=e2.out
  rw [if_neg hLn] at e1' e2'
  have hAF:∀ a,A=some a→a.block∉F:=fun a ha hm=>by
   have:=Zg a ha
   have:=hF0.out _ hm
   have:=k04.size
   omega
  go_wp2_with fail
  refine (hset.out _ A c hd5 hbl hAF).mono ?_
  rintro e w6 ⟨rfl,wS⟩
  have hqF:q∉F:=fun hm=>by
   have:=hF0.out _ hm
   have:=k3.size
   have:=hq.out
   omega
  have d0:=wS.cell c0 hqF
  have P8:=wS.from k05
  clear wS c0 bm bm5 k3 k4 k04 k5 k05 hbl Zg hAF hd hd4 hd5
  by_cases hz:(au s L).1=0
  ·have hfin:Opened w2 (w6.alloc (.cells #[.pointer (some ⟨p,0,none⟩),.int .u32 y,.bool false] 160)) p F s (.returned (.tuple #[.pointer (some ⟨w6.heap.size,0,none⟩),.int .i64 0])):=by
    refine Ej ?_ (by rw [e1',hz]) hNn.out
    rw [e2']
    exact P8
   rw [hz]
   replace hfin:=Lib.hid hfin
   replace hz:=Lib.hid hz
   replace hLn:=Lib.hid hLn
   clear e1' e2' P8
   go_wp2
   go_ret2
   exact hfin.out
  ·have hfin:Opened w2 w6 p F s (.returned (.tuple #[.pointer none,.int .i64 (au s L).1])):=by
    refine Bg ?_ e1' hz
    rw [e2']
    exact P8
   have hz':((au s L).1 != 0)=true:=by simpa using hz
   clear e1' e2' P8
   generalize (au s L).1=ee at *
   replace hfin:=Lib.hid hfin
   replace hLn:=Lib.hid hLn
   go_wp2
   go_ret2
   exact hfin.out
end Go.Proofs.YtmelaiefbpdifaaGreatDoor
