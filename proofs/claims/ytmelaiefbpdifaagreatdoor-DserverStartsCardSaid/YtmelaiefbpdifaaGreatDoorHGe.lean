/- Joined: Wal7, Wal8, Wal9, Sem, Own. -/
import Derived.Test.YtmelaiefbpdifaaGreatDoorHGd
/- A log's size, its number, its reading; whether blocks may be committed. -/
namespace Go.Proofs.YtmelaiefbpdifaaGreatDoor
open Go.RowKit
theorem oh.cells{w:World}{lp p n:Nat}{f:Bool}(h:oh w lp p n f):w.cell? ⟨lp,0,none⟩=some (.pointer (some ⟨p,0,none⟩))∧w.cell? ⟨lp,1,none⟩=some (.int .u32 (n:Int))∧w.cell? ⟨lp,2,none⟩=some (.bool f):=by
 have c0:=Blk.cell h 0
 have c1:=Blk.cell h 1
 have c2:=Blk.cell h 2
 simp only [List.getElem?_toArray,List.getElem?_cons_zero,List.getElem?_cons_succ] at c0 c1 c2
 exact⟨c0,c1,c2⟩
theorem size_any(w:World)(lp p n:Nat)(f:Bool)(F:List Nat)(s:St)(h:oh w lp p n f)(hd:Dev w p F s):
  Calls Tryz.prog 34 #[.pointer (some ⟨lp,0,none⟩)] w fun e w'=>e = .returned (.int .i64 ((s.aA.length:Int)-41))∧w'=w:=by
 obtain⟨c0,_,_⟩:=h.cells
 have hb:=o7 w p F s hd
 have hfew:=hd.fine.few
 have hw:wrap64 ((s.aA.length:Int)-41)=(s.aA.length:Int)-41:=by simp only [wrap64];omega
 clear h hd hfew
 generalize (s.aA.length:Int)=N at *
 go_enter Tryz.func34,Tryz.ntmps34
 go_wp2_with fail
 refine hb.mono ?_
 rintro e w1 ⟨rfl,rfl⟩
 go_wp2
 go_ret
 refine⟨?_,rfl⟩
 show Ending.returned (.int .i64 (wrap64 (N-41)))=_
 rw [hw]
def gV(n:Nat)(k:Int):Bool:=decide (0≤k∧k<(n:Int)-41)
theorem NS(w:World)(lp p n:Nat)(f:Bool)(F:List Nat)(s:St)(k:Int)(h:oh w lp p n f)(hd:Dev w p F s):
  Calls Tryz.prog 133 #[.pointer (some ⟨lp,0,none⟩),.int .i64 k] w fun e w'=>e = .returned (.bool (gV s.aA.length k))∧w'=w:=by
 have hs:=size_any w lp p n f F s h hd
 clear h hd
 have hh:gV s.aA.length k=decide (0≤k∧k<(s.aA.length:Int)-41):=rfl
 rw [hh]
 generalize (s.aA.length:Int)-41=N at *
 by_cases h0:0≤k
 ·have e:decide (0≤k∧k<N)=decide (k<N):=by simp [h0]
  rw [e]
  go_enter Tryz.func133,Tryz.ntmps133
  go_wp2_with fail
  refine hs.mono ?_
  rintro e w1 ⟨rfl,rfl⟩
  go_wp2
  go_ret
  exact⟨rfl,rfl⟩
 ·have e:decide (0≤k∧k<N)=false:=by simp [h0]
  rw [e]
  go_enter Tryz.func133,Tryz.ntmps133
  go_wp2
  go_ret
  exact⟨by simp,rfl⟩
def dG(s:St)(f:Bool)(k:Int):Int:=if gV s.aA.length k=false then 1 else if f=true then 5 else if s.dead=true then 5 else 0
def iE(s:St)(f:Bool)(k:Int):List UInt8:=if gV s.aA.length k=false then [] else if f=true then [] else if s.dead=true then [] else (bI s (41+k.toNat)).drop 8
theorem Tj(w:World)(lp p n:Nat)(f:Bool)(F:List Nat)(s:St)(k:Int)(h:oh w lp p n f)(hd:Dev w p F s):
  Calls Tryz.prog 75 #[.pointer (some ⟨lp,0,none⟩),.int .i64 k] w fun e w'=>e = .returned (.tuple #[.string (strOf (iE s f k)),.int .i64 (dG s f k)])∧w'=w:=by
 obtain⟨c0,_,c2⟩:=h.cells
 have hh:=NS w lp p n f F s k h hd
 cases hk:gV s.aA.length k with
 | false=>
  rw [hk] at hh
  have e1:dG s f k=1:=by rw [dG,if_pos hk]
  have e2:iE s f k = []:=by rw [iE,if_pos hk]
  rw [e1,e2]
  clear h hd e1 e2 hk
  go_enter Tryz.func75,Tryz.ntmps75
  go_wp2_with fail
  refine hh.mono ?_
  rintro e w1 ⟨rfl,rfl⟩
  go_wp2
  go_ret2
  exact⟨rfl,rfl⟩
 | true=>
  rw [hk] at hh
  have hkn:¬gV s.aA.length k=false:=by rw [hk];decide
  cases hf:f with
  | true=>
   have e1:dG s true k=5:=by rw [dG,if_neg hkn,if_pos rfl]
   have e2:iE s true k = []:=by rw [iE,if_neg hkn,if_pos rfl]
   rw [e1,e2]
   rw [hf] at c2
   clear h hd e1 e2 hk hkn
   go_enter Tryz.func75,Tryz.ntmps75
   go_wp2_with fail
   refine hh.mono ?_
   rintro e w1 ⟨rfl,rfl⟩
   go_wp2
   go_ret2
   exact⟨rfl,rfl⟩
  | false=>
   rw [hf] at c2
   have hk':0≤k∧k<(s.aA.length:Int)-41:=by simpa [gV] using hk
   obtain⟨k,rfl⟩:=Int.eq_ofNat_of_zero_le hk'.1
   have hr:=wC w p F s ((41+k:Nat):Int) hd
   have hfew:=hd.fine.few
   have hw:wrap64 (41+(k:Int))=41+(k:Int):=by simp only [wrap64];omega
   cases fG:s.dead with
   | true=>
    have hhb:bF s.aA.length ((41+k:Nat):Int)=true:=by simp only [bF,decide_eq_true_eq];omega
    have e1:dG s false k=5:=by rw [dG,if_neg hkn,if_neg (by decide),if_pos fG]
    have e2:iE s false k = []:=by rw [iE,if_neg hkn,if_neg (by decide),if_pos fG]
    have r1:iQ s ((41+k:Nat):Int)=5:=by rw [iQ,if_neg (by rw [hhb];decide),if_pos fG]
    rw [e1,e2]
    rw [r1] at hr
    rw [show ((41+k:Nat):Int)=41+(k:Int) by omega] at hr
    generalize strOf (readB s (41+(k:Int)))=rb at *
    clear h hd e1 e2 hk hkn r1 hhb hk' hfew
    go_enter Tryz.func75,Tryz.ntmps75
    go_wp2_with fail
    refine hh.mono ?_
    rintro e w1 ⟨rfl,rfl⟩
    go_wp2_with fail
    refine hr.mono ?_
    rintro e w1 ⟨rfl,rfl⟩
    go_wp2
    go_ret2
    exact⟨rfl,rfl⟩
   | false=>
    obtain⟨r1,r2⟩:=wE s (41+k) (by omega) fG
    have e1:dG s false k=0:=by rw [dG,if_neg hkn,if_neg (by decide),if_neg (by rw [fG];decide)]
    have e2:iE s false k=(bI s (41+k)).drop 8:=by rw [iE,if_neg hkn,if_neg (by decide),if_neg (by rw [fG];decide)];rfl
    have hl:=hd.fine.blk (k:=41+k) (by omega)
    rw [r1,r2] at hr
    rw [show ((41+k:Nat):Int)=41+(k:Int) by omega] at hr
    rw [e1,e2]
    have hcut:=iy (P:=Tryz.prog) 9 Tryz.underlying9 (bI s (41+k)) 8 8 .i64 rfl (by omega)
    generalize strOf ((bI s (41+k)).drop 8)=y at *
    generalize strOf (bI s (41+k))=x at *
    clear h hd e1 e2 hk hkn r1 r2 hk' hfew hl
    go_enter Tryz.func75,Tryz.ntmps75
    go_wp2_with fail
    refine hh.mono ?_
    rintro e w1 ⟨rfl,rfl⟩
    go_wp2_with fail
    refine hr.mono ?_
    rintro e w1 ⟨rfl,rfl⟩
    go_wp2
    go_ret2
    exact⟨rfl,rfl⟩
theorem PX(w:World)(a b:Int)(x:ByteArray)(q:Nat)(h:w.cell? ⟨q,0,none⟩=some (.int .i64 b)):
  Calls Tryz.prog 193 #[.agg #[.int .i64 a,.string x],.pointer (some ⟨q,0,none⟩)] w fun e w'=>e = .returned (.bool (a==b))∧Only [] w w':=by
 have k:Only [] w (w.alloc (.cells #[.int .i64 a,.string x] 184)):=(Only.refl [] w).alloc _
 have h':=k.cell h (by simp)
 go_enter Tryz.func193,Tryz.ntmps193
 go_wp2
 go_ret
 exact⟨rfl,k⟩
def Among(l:List Bk)(n:Nat)(b:Int):Prop:=∃ k y,k<n∧l[k]?=some y∧y.at_=b
set_option maxRecDepth 100000 in
theorem TQ(w:World)(g o c n:Nat)(l:List Bk)(b:Int)(q:Nat)(hat:OA w g o l)(hn:n≤l.length)(hl:l.length≤1048576)(h:w.cell? ⟨q,0,none⟩=some (.int .i64 b)):
  Calls Tryz.prog 224 #[.slice (some ⟨g,o,none⟩) n c,.func (.func 193) #[] #[.pointer (some ⟨q,0,none⟩)]] w fun e w'=>(∃ r:Int,e = .returned (.int .i64 r)∧(0≤r↔Among l n b))∧Only [] w w':=by
 go_enter Tryz.func224,Tryz.ntmps224
 go_wp2_with fail
 go_loopw [8] (fun i wr=>∃ k:Nat,k≤n∧i = .int .i64 k∧Hid (∀ j y,j<k→l[j]?=some y→y.at_≠b)∧Only [] w wr) (fun i _=>n-(intOf i).toNat)
 case atStart=>exact⟨0,Nat.zero_le _,rfl,fun j y hj=>by omega,Only.refl _ _⟩
 case round=>
  obtain⟨k,hk,rfl,hno,aF⟩:=hrel
  by_cases hlt:k<n
  ·have hkl:k<l.length:=by omega
   have c0:=aF.cell (hat k hkl).1 (by simp)
   have c1:=aF.cell (hat k hkl).2 (by simp)
   have hq:=aF.cell h (by simp)
   have hx:l[k]?=some l[k]:=List.getElem?_eq_getElem hkl
   generalize l[k]=x at *
   obtain⟨at_,data⟩:=x
   simp only at c0 c1
   generalize strOf data=bs at *
   have hs:=PX wr at_ b bs q hq
   by_cases he:at_=b
   ·have he2:(at_==b)=true:=by simpa using he
    rw [he2] at hs
    have hyes:Hid (Among l n b):=⟨k,_,hlt,hx,he⟩
    replace hs:=Lib.hid hs
    clear he2 he hx
    go_wp2_with fail
    refine hs.out.mono ?_
    rintro e w2 ⟨rfl,k2⟩
    have dw:=aF.trans k2
    clear k2 c0 c1 hq
    go_wp2
    go_ret
    exact⟨⟨_,rfl,fun _=>hyes,fun _=>by omega⟩,dw⟩
   ·have he2:(at_==b)=false:=by simpa using he
    rw [he2] at hs
    have abx:Hid (∀ j y,j<k+1→l[j]?=some y→y.at_≠b):=fun j y hj hy=>by
     by_cases hjk:j=k
     ·subst hjk
      rw [hx] at hy
      injection hy with hy
      subst hy
      exact he
     ·exact hno.out j y (by omega) hy
    replace hs:=Lib.hid hs
    clear he2 he hx hno
    go_wp2_with fail
    refine hs.out.mono ?_
    rintro e w2 ⟨rfl,k2⟩
    have dw:=aF.trans k2
    clear k2 c0 c1 hq
    go_wp2
    go_roundw
    case rel=>exact⟨k+1,by omega,by go_num,abx,dw⟩
    case measure=>simp [intOf];omega
  ·have hkn:k=n:=by omega
   subst hkn
   have hnot:Hid (¬Among l k b):=fun ⟨j,y,hj,hy,he⟩=>hno.out j y hj hy he
   clear hno
   go_wp2
   go_ret
   exact⟨⟨_,rfl,fun h=>absurd h (by decide),fun h=>absurd h hnot.out⟩,aF⟩
theorem J3(w:World)(g o c n:Nat)(l:List Bk)(b:Int)(q:Nat)(hat:OA w g o l)(hn:n≤l.length)(hl:l.length≤1048576)(h:w.cell? ⟨q,0,none⟩=some (.int .i64 b)):
  Calls Tryz.prog 194 #[.slice (some ⟨g,o,none⟩) n c,.func (.func 193) #[] #[.pointer (some ⟨q,0,none⟩)]] w fun e w'=>Says (Among l n b) e∧Only [] w w':=by
 go_enter Tryz.func194,Tryz.ntmps194
 go_wp2_with fail
 refine (TQ _ g o c n l b q hat hn hl h).mono ?_
 rintro e w1 ⟨⟨r,rfl,hr⟩,k1⟩
 replace hr:=Lib.hid hr
 go_wp2
 go_ret
 exact⟨⟨_,rfl,by rw [←hr.out];simp⟩,k1⟩
end Go.Proofs.YtmelaiefbpdifaaGreatDoor
/- fit, refusal. -/
namespace Go.Proofs.YtmelaiefbpdifaaGreatDoor
open Go.RowKit
set_option maxRecDepth 100000 in
set_option maxHeartbeats 2000000 in
theorem ZE(w:World)(lp p n:Nat)(f:Bool)(F:List Nat)(s:St)(A:Option Addr)(c:Nat)(l:List Bk)(h:oh w lp p n f)(hd:Dev w p F s)(hb:Fq w A l)(hl:l.length≤1048576)(hc:l.length≤c):
  Calls Tryz.prog 142 #[.pointer (some ⟨lp,0,none⟩),.slice A l.length c] w fun e w'=>Says (∀ i,i<l.length→lV l ((s.aA.length:Int)-41) i) e∧Only [] w w':=by
 have hhas:=fun W (k:Only [] w W) x=>NS W lp p n f F s x (Blk.kept h k (by simp)) (hd.kept k (by simp))
 have hdef:∀ x,gV s.aA.length x=decide (0≤x∧x<(s.aA.length:Int)-41):=fun x=>rfl
 simp only [hdef] at hhas
 have hfew:=hd.fine.few
 generalize (s.aA.length:Int)-41=N at *
 replace hhas:=Lib.hid hhas
 clear h hd hdef hfew
 go_enter Tryz.func142,Tryz.ntmps142
 go_wp2_with fail
 go_loopw [10] (fun i wr=>∃ k:Nat,k≤l.length∧i = .int .i64 k∧Hid (∀ j,j<k→lV l N j)∧Only [] w wr) (fun i _=>l.length-(intOf i).toNat)
 case atStart=>exact⟨0,Nat.zero_le _,rfl,fun j hj=>by omega,Only.refl _ _⟩
 case round=>
  obtain⟨k,hk,rfl,hgood,aF⟩:=hrel
  by_cases hlt:k<l.length
  ·obtain⟨g,o,rfl,hg,hat⟩:=hb.get hlt
   have c0:=aF.cell (hat k hlt).1 (by simp)
   have c1:=aF.cell (hat k hlt).2 (by simp)
   have hx:l[k]?=some l[k]:=List.getElem?_eq_getElem hlt
   have hgx:lV l N k↔(0≤l[k].at_∧l[k].at_<N∧l[k].data.length≤248∧¬Among l k l[k].at_):=by
    constructor
    ·intro h
     obtain⟨h1,h2,h3,h4⟩:=h _ hx
     exact⟨h1,h2,h3,fun ⟨j,y,hj,hy,he⟩=>h4 j y hj hy he⟩
    ·intro ⟨h1,h2,h3,h4⟩ z hz
     rw [hx] at hz
     injection hz with hz
     subst hz
     exact⟨h1,h2,h3,fun j y hj hy he=>h4 ⟨j,y,hj,hy,he⟩⟩
   have hsz:(strOf l[k].data).size=l[k].data.length:=aj _
   generalize l[k]=x at *
   obtain⟨at_,data⟩:=x
   simp only at c0 c1 hgx hsz
   generalize strOf data=bs at *
   replace hgx:=Lib.hid hgx
   have hnot:Hid (¬lV l N k→¬ ∀ i,i<l.length→lV l N i):=fun h h'=>h (h' k hlt)
   have kq:Only [] wr (wr.alloc (.cells #[.int .i64 at_,.string bs] 184)):=(Only.refl [] wr).alloc _
   have bq:Blk (wr.alloc (.cells #[.int .i64 at_,.string bs] 184)) wr.heap.size 184 #[.int .i64 at_,.string bs]:=Blk.new _ _ _
   obtain⟨q,hq⟩:∃ q,q=wr.heap.size:=⟨_,rfl⟩
   rw [←hq] at bq
   go_wp2_with fail
   simp only [←hq]
   generalize wr.alloc (.cells #[.int .i64 at_,.string bs] 184)=W at *
   have q0:=bq.cell 0
   have q1:=bq.cell 1
   simp only [List.getElem?_toArray,List.getElem?_cons_zero,List.getElem?_cons_succ] at q0 q1
   have kW:=aF.trans kq
   replace hq:=Lib.hid hq
   have BM:=hhas.out W kW at_
   clear c0 c1 hx
   by_cases t1:0≤at_∧at_<N
   ·have d1:decide (0≤at_∧at_<N)=true:=by simp [t1]
    rw [d1] at BM
    by_cases t2:data.length≤248
    ·have t2':¬(248:Int)<(bs.size:Int):=by omega
     have hcont:=J3 W g o c k l at_ q (fun i hi=>⟨kW.cell (hat i hi).1 (by simp),kW.cell (hat i hi).2 (by simp)⟩) (by omega) hl q0
     replace hcont:=Lib.hid hcont
     replace BM:=Lib.hid BM
     replace hsz:=Lib.hid hsz
     replace t1:=Lib.hid t1
     have hkc:(k:Int)≤(c:Int):=by omega
     clear bq d1
     refine BM.out.mono ?_
     rintro e w2 ⟨rfl,rfl⟩
     go_wp2_with fail
     refine hcont.out.mono ?_
     rintro e w3 ⟨⟨r,rfl,hr⟩,k3⟩
     have dw:=kW.trans k3
     cases r with
     | true=>
      have hno:¬ ∀ i,i<l.length→lV l N i:=hnot.out (fun h=>(hgx.out.1 h).2.2.2 (hr.1 rfl))
      replace hno:=Lib.hid hno
      clear hr k3 hgx hnot hgood hcont
      go_wp2
      go_ret
      exact⟨Says.no hno.out,dw⟩
     | false=>
      have hyes:lV l N k:=hgx.out.2 ⟨t1.out.1,t1.out.2,t2,fun h=>by have:=hr.2 h;cases this⟩
      have Ue:Hid (∀ j,j<k+1→lV l N j):=fun j hj=>by
       by_cases hjk:j=k
       ·subst hjk;exact hyes
       ·exact hgood.out j (by omega)
      clear hr k3 hgx hnot hgood hyes hcont
      go_wp2
      go_roundw
      case rel=>exact⟨k+1,by omega,by go_num,Ue,dw⟩
      case measure=>simp [intOf];omega
    ·have t2':(248:Int)<(bs.size:Int):=by omega
     have hno:¬ ∀ i,i<l.length→lV l N i:=hnot.out (fun h=>t2 (hgx.out.1 h).2.2.1)
     replace hno:=Lib.hid hno
     replace BM:=Lib.hid BM
     clear hgx hnot hgood
     refine BM.out.mono ?_
     rintro e w2 ⟨rfl,rfl⟩
     go_wp2
     go_ret
     exact⟨Says.no hno.out,kW⟩
   ·have d1:decide (0≤at_∧at_<N)=false:=decide_eq_false t1
    rw [d1] at BM
    have hno:¬ ∀ i,i<l.length→lV l N i:=hnot.out (fun h=>t1 ⟨(hgx.out.1 h).1,(hgx.out.1 h).2.1⟩)
    replace hno:=Lib.hid hno
    replace BM:=Lib.hid BM
    replace t1:=Lib.hid t1
    clear hgx hnot hgood
    refine BM.out.mono ?_
    rintro e w2 ⟨rfl,rfl⟩
    go_wp2
    go_ret
    exact⟨Says.no hno.out,kW⟩
  ·have hyes:Hid (∀ i,i<l.length→lV l N i):=fun i hi=>hgood.out i (by omega)
   have hge:(l.length:Int)≤k:=by omega
   clear hgood
   go_wp2
   go_ret
   exact⟨Says.yes hyes.out,aF⟩
def gX(size:Int)(f:Bool)(n:Nat)(l:List Bk)(x:Int):Prop:=
 (¬dn l size∧x=1)∨(dn l size∧f=true∧x=5)∨(dn l size∧f=false∧n=4294967295∧x=16)∨(dn l size∧f=false∧n≠4294967295∧x=0)
set_option maxRecDepth 100000 in
set_option maxHeartbeats 1000000 in
theorem La(w:World)(lp p n:Nat)(f:Bool)(F:List Nat)(s:St)(A:Option Addr)(c:Nat)(l:List Bk)(h:oh w lp p n f)(hd:Dev w p F s)(hb:Fq w A l)(hl:l.length≤9223372036854775807)(hc:l.length≤c):
  Calls Tryz.prog 87 #[.pointer (some ⟨lp,0,none⟩),.slice A l.length c] w fun e w'=>(∃ x,e = .returned (.int .i64 x)∧gX ((s.aA.length:Int)-41) f n l x)∧Only [] w w':=by
 by_cases h0:l.length=0
 ·have hno:Hid (gX ((s.aA.length:Int)-41) f n l 1):=.inl ⟨fun h=>by have:=h.1;omega,rfl⟩
  have h0':(l.length:Int)=0:=by omega
  clear h hd hb
  go_enter Tryz.func87,Tryz.ntmps87
  go_wp2
  go_ret
  exact⟨⟨1,rfl,hno.out⟩,Only.refl _ _⟩
 have h0':((l.length:Int)==0)=false:=beq_eq_false_iff_ne.2 (by omega)
 by_cases h1:40<l.length
 ·have hno:Hid (gX ((s.aA.length:Int)-41) f n l 1):=.inl ⟨fun h=>by have:=h.2.1;omega,rfl⟩
  have h1':(40:Int)<(l.length:Int):=by omega
  clear h hd hb h0
  go_enter Tryz.func87,Tryz.ntmps87
  go_wp2
  go_ret
  exact⟨⟨1,rfl,hno.out⟩,Only.refl _ _⟩
 have h1':¬(40:Int)<(l.length:Int):=by omega
 have hfit:=ZE w lp p n f F s A c l h hd hb (by omega) hc
 have hright:dn l ((s.aA.length:Int)-41)↔∀ i,i<l.length→lV l ((s.aA.length:Int)-41) i:=⟨fun h=>h.2.2,fun h=>⟨by omega,by omega,h⟩⟩
 rw [←hright] at hfit
 obtain⟨_,c1,c2⟩:=h.cells
 generalize (s.aA.length:Int)-41=N at *
 replace hright:=Lib.hid hright
 obtain⟨z,hz⟩:∃ z:Int,z=(n:Int):=⟨_,rfl⟩
 rw [←hz] at c1
 clear h hd hb h0 h1
 replace hfit:=Lib.hid hfit
 replace hz:=Lib.hid hz
 go_enter Tryz.func87,Tryz.ntmps87
 go_wp2_with fail
 refine hfit.out.mono ?_
 rintro e w1 ⟨⟨r,rfl,hr⟩,k1⟩
 have d1:=k1.cell c1 (by simp)
 have d2:=k1.cell c2 (by simp)
 clear c1 c2
 cases r with
 | false=>
  have hno:Hid (gX N f n l 1):=.inl ⟨fun h=>Bool.noConfusion (hr.2 h),rfl⟩
  clear hr
  go_wp2
  go_ret
  exact⟨⟨1,rfl,hno.out⟩,k1⟩
 | true=>
  have hyes:Hid (dn l N):=hr.1 rfl
  clear hr
  cases hf:f with
  | true=>
   rw [hf] at d2
   have hno:Hid (gX N f n l 5):=.inr (.inl ⟨hyes.out,hf,rfl⟩)
   go_wp2
   go_ret
   exact⟨⟨5,rfl,hno.out⟩,k1⟩
  | false=>
   rw [hf] at d2
   by_cases hm:z=4294967295
   ·have hno:Hid (gX N f n l 16):=.inr (.inr (.inl ⟨hyes.out,hf,by have:=hz.out;omega,rfl⟩))
    rw [hm] at d1
    clear hm
    go_wp2
    go_ret
    exact⟨⟨16,rfl,hno.out⟩,k1⟩
   ·have hno:Hid (gX N f n l 0):=.inr (.inr (.inr ⟨hyes.out,hf,by have:=hz.out;omega,rfl⟩))
    have hm':(z==4294967295)=false:=by simpa using hm
    clear hm
    go_wp2
    go_ret
    exact⟨⟨0,rfl,hno.out⟩,k1⟩
end Go.Proofs.YtmelaiefbpdifaaGreatDoor
/- Commit. -/
namespace Go.Proofs.YtmelaiefbpdifaaGreatDoor
open Go.RowKit
def aH(s:St)(n:Nat)(l:List Bk):Int × St:=
 if (au s (aB (homesOf (n+1) l))).1≠0 then au s (aB (homesOf (n+1) l)) else
 if (au (au s (aB (homesOf (n+1) l))).2 [⟨0,dY (n+1) l.length⟩]).1≠0 then au (au s (aB (homesOf (n+1) l))).2 [⟨0,dY (n+1) l.length⟩] else
 au (au (au s (aB (homesOf (n+1) l))).2 [⟨0,dY (n+1) l.length⟩]).2 (homesOf (n+1) l)
section
variable {s s1 s2:St}{n:Nat}{l:List Bk}{x:Int}
theorem CS(h1:au s (aB (homesOf (n+1) l))=(x,s1))(h:x≠0):aH s n l=(x,s1):=by
 unfold aH
 rw [h1,if_pos h]
theorem CQ(h1:au s (aB (homesOf (n+1) l))=(0,s1))(h2:au s1 [⟨0,dY (n+1) l.length⟩]=(x,s2))(h:x≠0):aH s n l=(x,s2):=by
 unfold aH
 rw [h1]
 simp only [ne_eq,not_true_eq_false,if_false,h2]
 rw [if_pos h]
theorem CP(h1:au s (aB (homesOf (n+1) l))=(0,s1))(h2:au s1 [⟨0,dY (n+1) l.length⟩]=(0,s2)):aH s n l=au s2 (homesOf (n+1) l):=by
 unfold aH
 rw [h1]
 simp only [ne_eq,not_true_eq_false,if_false,h2]
end
theorem nH(n k:Nat):(dY n k).length=256:=zu _ (by simp [pq,aU])
theorem fH(s:St)(k:Int)(b:List UInt8):(written s k b).aA=s.aA:=by
 unfold written
 split
 ·rfl
 ·split<;>simp [dK]
theorem mM(s:St):(bD s).aA.length=s.aA.length:=by
 unfold bD
 split
 ·rw [dK]
 ·simp [bW,dL,dK]
theorem aQ:∀ (l:List Bk) (s:St),(au s l).2.aA.length=s.aA.length
 | [],s=>mM s
 | x :: r,s=>by
  rw [au]
  split
  ·rw [aQ r,fH]
  ·rw [fH]
theorem vH(s:St):(bD s).late.length≤s.late.length:=by
 unfold bD
 split
 ·rw [iC];omega
 ·simp [bW]
theorem gJ:∀ (l:List Bk) (s:St),(au s l).2.late.length≤s.late.length+l.length
 | [],s=>by have:=vH s;simpa [au] using this
 | x :: r,s=>by
  have h1:=iZ s x.at_ x.data
  rw [au]
  split
  ·have:=gJ r (written s x.at_ x.data)
   simp only [List.length_cons]
   omega
  ·simp only [List.length_cons]
   omega
theorem iO:∀ (l:List Bk) (s:St),(∀ x∈l,bF s.aA.length x.at_=true∧x.data.length=256)→(au s l).1=0∨(au s l).1=5
 | [],s,_=>by
  simp only [au,dW]
  split
  ·exact .inr rfl
  ·exact .inl rfl
 | x :: r,s,h=>by
  have hx:=h x (by simp)
  have he:aI s x.at_ x.data=0∨aI s x.at_ x.data=5:=by
   rw [aI,hx.1,if_neg (by simp [hx.2])]
   split
   ·exact .inr rfl
   ·exact .inl rfl
  rw [au]
  split
  ·exact iO r _ (fun y hy=>by rw [fH];exact h y (by simp [hy]))
  ·rename_i h0
   exact .inr (he.resolve_left h0)
theorem zx{n N:Nat}{l:List Bk}(hl:l.length≤40)(hN:42≤N)(hd:∀ x∈l,x.data.length≤248):∀ x∈aB (homesOf n l),bF N x.at_=true∧x.data.length=256:=by
 intro x hx
 simp only [aB,List.mem_mapIdx] at hx
 obtain⟨i,hi,rfl⟩:=hx
 rw [dM] at hi
 refine⟨by simp only [bF,decide_eq_true_eq];omega,?_⟩
 simp only [homesOf,List.getElem_map]
 exact nJ n _ (hd _ (List.getElem_mem hi))
theorem BK{n N:Nat}{l:List Bk}(hd:∀ x∈l,(0≤x.at_∧x.at_<(N:Int)-41)∧x.data.length≤248):∀ x∈homesOf n l,bF N x.at_=true∧x.data.length=256:=by
 intro x hx
 simp only [homesOf,List.mem_map] at hx
 obtain⟨y,hy,rfl⟩:=hx
 obtain⟨h1,h2⟩:=hd y hy
 exact⟨by simp only [bF,decide_eq_true_eq];omega,nJ n y h2⟩
theorem lQ{l:List Bk}{N:Nat}(h:dn l ((N:Int)-41)):∀ x∈l,(0≤x.at_∧x.at_<(N:Int)-41)∧x.data.length≤248:=by
 intro x hx
 obtain⟨i,hi,rfl⟩:=List.getElem_of_mem hx
 obtain⟨h1,h2,h3,_⟩:=h.2.2 i hi _ (List.getElem?_eq_getElem hi)
 exact⟨⟨h1,h2⟩,h3⟩
theorem lq{l:List Bk}{N:Nat}(h:dn l ((N:Int)-41)):42≤N:=by
 have h1:=h.1
 have:=lQ h (l[0]'(by omega)) (List.getElem_mem _)
 omega
def bV(s:St)(n:Nat)(f:Bool)(l:List Bk)(x:Int)(s':St)(n':Nat)(f':Bool):Prop:=
 (x≠0∧gX ((s.aA.length:Int)-41) f n l x∧s'=s∧n'=n∧f'=f) ∨
 (gX ((s.aA.length:Int)-41) f n l 0∧x=(aH s n l).1∧s'=(aH s n l).2∧((x=0∧n'=n+1∧f'=false)∨(x=5∧n'=n∧f'=true)))
def DF(w w':World)(lp p:Nat)(F:List Nat)(s:St)(n:Nat)(f:Bool):Prop:=
 ∃ F',Dev w' p F' s∧oh w' lp p n f∧Only (lp :: F) w w'∧∀ j∈F',(j∈F∨w.heap.size≤j)∧j<w'.heap.size
theorem yJ{w w0 w':World}{lp p n:Nat}{F:List Nat}{s:St}(k:Only [] w w0)(hd:Did w0 w' p F s)(tu:oh w0 lp p n false)(hlp:lp∉F)(JD:lp<w.heap.size):
  DF w (w'.setCell ⟨lp,2,none⟩ (.bool true)) lp p F s n true:=by
 obtain⟨F1,h1,h2,h3⟩:=hd
 obtain⟨F2,k1,k2,k3⟩:=h1.trim
 have hl1:oh w' lp p n false:=Blk.kept tu h2 hlp
 have hlF:lp∉F2:=fun hm=>by
  rcases h3.out lp (k2 _ hm) with h | h
  ·exact hlp h
  ·have:=k.size;omega
 have ks:Only [lp] w' (w'.setCell ⟨lp,2,none⟩ (.bool true)):=Only.set w' [lp] (by simp) _
 refine⟨F2,k1.kept ks (by intro i hi;simp;rintro rfl;exact hlF hi),?_,?_,fun j hj=>⟨?_,by have:=k3 j hj;simpa [World.setCell] using this⟩⟩
 ·have:=Blk.set hl1 2 (.bool true)
  simpa [oh] using this
 ·exact ((k.more (T:=lp :: F) (by simp)).then h2 (fun i hi=>.inl (by simp [hi]))).then ks (by simp)
 ·rcases h3.out j (k2 j hj) with h | h
  ·exact .inl h
  ·have:=k.size;exact .inr (by omega)
theorem X6{w w0 w':World}{lp p n:Nat}{x:Int}{F:List Nat}{s:St}(k:Only [] w w0)(hd:Did w0 w' p F s)(tu:oh w0 lp p n false)(hlp:lp∉F)(JD:lp<w.heap.size)(hx:x=((n+1:Nat):Int)):
  DF w (w'.setCell ⟨lp,1,none⟩ (.int .u32 x)) lp p F s (n+1) false:=by
 obtain⟨F1,h1,h2,h3⟩:=hd
 obtain⟨F2,k1,k2,k3⟩:=h1.trim
 have hl1:oh w' lp p n false:=Blk.kept tu h2 hlp
 have hlF:lp∉F2:=fun hm=>by
  rcases h3.out lp (k2 _ hm) with h | h
  ·exact hlp h
  ·have:=k.size;omega
 have ks:Only [lp] w' (w'.setCell ⟨lp,1,none⟩ (.int .u32 x)):=Only.set w' [lp] (by simp) _
 refine⟨F2,k1.kept ks (by intro i hi;simp;rintro rfl;exact hlF hi),?_,?_,fun j hj=>⟨?_,by have:=k3 j hj;simpa [World.setCell] using this⟩⟩
 ·have:=Blk.set hl1 1 (.int .u32 x)
  rw [hx] at this
  simpa [oh,hx] using this
 ·exact ((k.more (T:=lp :: F) (by simp)).then h2 (fun i hi=>.inl (by simp [hi]))).then ks (by simp)
 ·rcases h3.out j (k2 j hj) with h | h
  ·exact .inl h
  ·have:=k.size;exact .inr (by omega)
theorem QB{w w':World}{lp p n:Nat}{f:Bool}{F:List Nat}{s:St}(hd:Dev w p F s)(tu:oh w lp p n f)(hF:∀ i∈F,i<w.heap.size)(k:Only [] w w'):DF w w' lp p F s n f:=
 ⟨F,hd.kept k (by simp),Blk.kept tu k (by simp),k.more (by simp),fun j hj=>⟨.inl hj,Nat.lt_of_lt_of_le (hF j hj) k.size⟩⟩
theorem DF.mono{w w':World}{lp p n:Nat}{f:Bool}{F G:List Nat}{s:St}(h:DF w w' lp p F s n f)(hG:∀ i∈F,i∈G):DF w w' lp p G s n f:=by
 obtain⟨F',h1,h2,h3,h4⟩:=h
 exact⟨F',h1,h2,h3.more (fun i hi=>.inl (by rcases List.mem_cons.1 hi with rfl | hi;simp;simp [hG i hi])),fun j hj=>⟨(h4 j hj).1.imp (hG j) id,(h4 j hj).2⟩⟩
theorem Did.trans'{w w1 w2:World}{p:Nat}{F F1:List Nat}{t:St}(h:Only F w w1)(hF1:Hid (∀ k∈F1,k∈F∨w.heap.size≤k))(k:Did w1 w2 p F1 t):Did w w2 p F t:=by
 obtain⟨F2,h1,h2,h3⟩:=k
 refine⟨F2,h1,h.then h2 (fun i hi=>hF1.out i hi),fun j hj=> ?_⟩
 rcases h3.out j hj with h' | h'
 ·exact hF1.out j h'
 ·exact .inr (Nat.le_trans h.size h')
set_option maxRecDepth 100000 in
set_option maxHeartbeats 4000000 in
theorem Qq(w:World)(lp p n:Nat)(f:Bool)(F:List Nat)(s:St)(A:Option Addr)(c:Nat)(l:List Bk)(hn:n<4294967296)(h:oh w lp p n f)(hd:Dev w p F s)(hlp:lp∉F)(hb:Fq w A l)(hl:l.length≤9223372036854775807)(hc:l.length≤c)(bY:s.late.length+200≤1048576):
  Calls Tryz.prog 41 #[.pointer (some ⟨lp,0,none⟩),.slice A l.length c] w fun e w'=>∃ x s' n' f',e = .returned (.int .i64 x)∧bV s n f l x s' n' f'∧DF w w' lp p F s' n' f':=by
 obtain⟨F0,hd0,hsub,hF0⟩:=hd.trim
 refine Calls.mono (R:=fun e w'=>∃ x s' n' f',e = .returned (.int .i64 x)∧bV s n f l x s' n' f'∧DF w w' lp p F0 s' n' f') ?_ (fun e w' ⟨x,s',n',f',h1,h2,h3⟩=>⟨x,s',n',f',h1,h2,h3.mono hsub⟩)
 have zU:lp∉F0:=fun hm=>hlp (hsub _ hm)
 clear hd hlp hsub F
 rename List Nat=>F
 rename Dev w p F s=>hd
 have JD:=Blk.lt h
 have hpre:=fun W (k:Only [] w W)=>La W lp p n f F s A c l (Blk.kept h k (by simp)) (hd.kept k (by simp)) (hb.kept k (by simp)) hl hc
 obtain⟨m,hm⟩:∃ m,m=w.heap.size:=⟨_,rfl⟩
 have km:Only [] w (w.alloc (.cells #[.int .u32 0,.int .u32 0] 153)):=(Only.refl [] w).alloc _
 have bm:Blk (w.alloc (.cells #[.int .u32 0,.int .u32 0] 153)) m 153 #[.int .u32 0,.int .u32 0]:=by rw [hm];exact Blk.new w _ _
 obtain⟨z,hz⟩:∃ z:Int,z=(n:Int):=⟨_,rfl⟩
 replace hn:=Lib.hid hn
 replace bY:=Lib.hid bY
 replace hF0:=Lib.hid hF0
 replace hpre:=Lib.hid hpre
 replace hz:=Lib.hid hz
 go_enter Tryz.func41,Tryz.ntmps41
 go_wp2_with fail
 refine aT 0 rfl ?_
 go_wp2_with fail
 simp only [←hm]
 generalize w.alloc (.cells #[.int .u32 0,.int .u32 0] 153)=W at *
 have hmw:w.heap.size≤m:=by omega
 replace hm:=Lib.hid hm
 refine (hpre.out W km).mono ?_
 rintro e w1 ⟨⟨x,rfl,hx⟩,k1⟩
 have kw1:=km.trans k1
 by_cases hx0:x=0
 ·subst hx0
  have hx':=hx
  simp only [gX] at hx'
  have hok:dn l ((s.aA.length:Int)-41)∧f=false∧n≠4294967295:=by
   rcases hx' with⟨_,h⟩ | ⟨_,_,h⟩ | ⟨_,_,_,h⟩ | ⟨h1,h2,h3,_⟩
   ·omega
   ·omega
   ·omega
   ·exact⟨h1,h2,h3⟩
  clear hx'
  obtain⟨hright,hf,hnm⟩:=hok
  rw [hf] at h
  have Gu:oh w1 lp p n false:=Blk.kept h kw1 (by simp)
  obtain⟨l0,l1,l2⟩:=Gu.cells
  rw [←hz.out] at l1
  have hall:=lQ hright
  have hN:=lq hright
  have Yt:l.length≤40:=hright.2.1
  have aeH:(l.length:Int)≤40:=by omega
  have bm1:=bm.kept k1 (by simp)
  have f0:=bm1.free 0
  have f1:=bm1.free 1
  have hz0:0≤z:=by have:=hz.out;omega
  have hz1:z<4294967295:=by have:=hz.out;have:=hn.out;omega
  have hzz:IntKind.u32.wrap (z+1)=z+1:=by rw [IntKind.wrap_u32];omega
  have b0:=bm1.cell 0
  have b1:=bm1.cell 1
  simp only [List.getElem?_toArray,List.getElem?_cons_zero,List.getElem?_cons_succ] at b0 b1
  replace hx:=Lib.hid hx
  replace hall:=Lib.hid hall
  replace hright:=Lib.hid hright
  replace hN:=Lib.hid hN
  replace hf:=Lib.hid hf
  replace hnm:=Lib.hid hnm
  replace Gu:=Lib.hid Gu
  replace hl:=Lib.hid hl
  replace Yt:=Lib.hid Yt
  go_wp2_with fail
  have k2:Only [m] w1 ((w1.setCell ⟨m,0,none⟩ (.int .u32 (z+1))).setCell ⟨m,1,none⟩ (.int .u32 (l.length:Int))):=((Only.refl [m] w1).setCell (.inl (by simp)) _).setCell (.inl (by simp)) _
  have bm2:=Blk.set (Blk.set bm1 0 (.int .u32 (z+1))) 1 (.int .u32 (l.length:Int))
  simp only [List.setIfInBounds_toArray,List.set_cons_zero,List.set_cons_succ] at bm2
  generalize (w1.setCell ⟨m,0,none⟩ (.int .u32 (z+1))).setCell ⟨m,1,none⟩ (.int .u32 (l.length:Int))=W2 at *
  have aeD:lp≠m:=by omega
  have kw2:Only [] w W2:=kw1.then k2 (by simp;exact hmw)
  have L9:=Blk.kept Gu.out k2 (by simp;exact aeD)
  have hd2:=hd.kept kw2 (by simp)
  have hb2:=hb.kept kw2 (by simp)
  have hz2:z+1=((n+1:Nat):Int):=by have:=hz.out;omega
  have hn2:n+1<4294967296:=by have:=hn.out;have:=hnm.out;omega
  have hch:=MV W2 A c l (n+1) hn2 hb2 (by have:=Yt.out;omega) (fun y hy=>by have:=hall.out y hy;have:=hd.fine.few;omega)
  rw [←hz2] at hch
  have rD:=BK (n:=n+1) hall.out
  have MC:=zx (n:=n+1) Yt.out hN.out (fun y hy=>(hall.out y hy).2)
  have hhl:=dM (n+1) l
  generalize hhs:homesOf (n+1) l=hs at *
  have hcl:=gW hs
  replace hhs:=Lib.hid hhs
  replace rD:=Lib.hid rD
  replace MC:=Lib.hid MC
  replace hz2:=Lib.hid hz2
  replace hn2:=Lib.hid hn2
  have Ug:(aB hs).length≤40:=by have:=Yt.out;omega
  have Xk:hs.length≤40:=by have:=Yt.out;omega
  replace hhl:=Lib.hid hhl
  replace hcl:=Lib.hid hcl
  replace Ug:=Lib.hid Ug
  replace Xk:=Lib.hid Xk
  replace hd2:=Lib.hid hd2
  clear hb2 k1 k2 km bm bm1 f0 f1 b0 b1 l0 l1 l2 Gu
  refine hch.mono ?_
  rintro e w3 ⟨v1,rfl,A1,c1,rfl,acM,k3,hnew1⟩
  have kw3:=kw2.trans k3
  have P7:=Blk.kept L9 k3 (by simp)
  have bm3:=bm2.kept k3 (by simp)
  have hd3:=hd.kept kw3 (by simp)
  have hA1:∀ a,A1=some a→a.block∉F:=fun a ha hm=>by
   have:=hnew1 a ha
   have:=hF0.out _ hm
   have:=kw2.size
   omega
  clear hch bm2 hd2
  go_wp2_with fail
  have kd:Only [] w3 w3.drew:=(Only.refl [] w3).drew
  have l0:=(oh.cells P7).1
  refine wp_region_held_drew (S:=fun w'=>w'.cell? ⟨lp,0,none⟩=some (.pointer (some ⟨p,0,none⟩))) (by kernel_rfl) (kd.cell l0 (by simp)) (fun hHeld=> ?_)
  refine rwT 0 (.pointer (some ⟨lp,0,none⟩)) hHeld ?_;simp only [rwA]
  refine rwT 1 (.pointer (some ⟨lp,0,none⟩)) hHeld ?_;simp only [rwA]
  refine rwT 2 (.pointer (some ⟨lp,0,none⟩)) hHeld ?_;simp only [rwA]
  refine rwT 3 (.pointer (some ⟨p,0,none⟩)) hHeld ?_;simp only [rwA]
  refine rwT 4 (.slice A1 hs.length c1) hHeld ?_;simp only [rwA]
  refine ah 5 rfl (by kernel_rfl) (fun K hK=> ?_)
  go_simp
  go_at_call 89
  refine (Qo _ A1 c1 hs (acM.kept kd (by simp)) (by have:=Xk.out;omega)).mono ?_
  rintro e w4 ⟨v2,rfl,A2,c2,rfl,adU,k4,hnew2⟩
  go_wp2_with fail
  refine hK.out _ _ (k4.cell (kd.cell l0 (by simp)) (by simp)) (fun hHeld=> ?_)
  clear hK K
  have kw4:=(kw3.trans kd).trans k4
  have hA2:∀ a,A2=some a→a.block∉F:=fun a ha hm=>by
   have h1:=hnew2 a ha
   have h2:=hF0.out _ hm
   have h3:=kw3.size
   have h4:=kd.size
   omega
  refine ah 6 rfl (by kernel_rfl) (fun K hK=> ?_)
  go_simp
  go_at_call 74
  refine (pF w4 p F s A2 c2 (aB hs) (hd.kept kw4 (by simp)) adU hA2 (by have:=bY.out;have:=Ug.out;omega)).mono ?_
  rintro e w5 ⟨rfl,MB⟩
  have oO:=(Blk.kept (Blk.kept P7 kd (by simp)) k4 (by simp))
  have bm4:=((bm3.kept kd (by simp)).kept k4 (by simp))
  have acL:=(acM.kept kd (by simp)).kept k4 (by simp)
  have hmF:m∉F:=fun hm=>by have:=hF0.out _ hm;omega
  have l5:=MB.cell (oh.cells oO).1 zU
  go_wp2_with fail
  refine hK.out _ _ l5 (fun hHeld=> ?_)
  clear hK K
  refine rwT 7 (.int .i64 (au s (aB hs)).1) hHeld ?_;simp only [rwA]
  refine wpAnyH_done (by kernel_rfl) ?_ _
  clear hHeld
  clear adU k4 kd hnew2 hA2 l0 l5
  have aaU:=iO (aB hs) s MC.out
  have Yr:=gJ (aB hs) s
  have adM:=aQ (aB hs) s
  generalize hr1:au s (aB hs)=r1 at *
  obtain⟨x1,s1⟩:=r1
  simp only at aaU Yr adM MB ⊢
  replace hr1:=Lib.hid hr1
  by_cases hx1:x1=0
  ·subst hx1
   have hblk:∀ W,Calls Tryz.prog 90 #[.agg #[.int .u32 (z+1),.int .u32 (l.length:Int)]] W fun e w'=>e = .returned (.string (strOf (dY (n+1) l.length)))∧Only [] W w':=fun W=>by
    have:=U1 W (n+1) l.length hn2.out (by have:=Yt.out;omega)
    rwa [←hz2.out] at this
   obtain⟨F5a,adR,k5,f5a⟩:=id MB
   obtain⟨F5,hd5,aaD,Kz⟩:=adR.trim
   have f5:Hid (∀ i∈F5,i∈F∨w4.heap.size≤i):=fun i hi=>f5a.out i (aaD i hi)
   clear adR f5a aaD
   have Xj:oh w5 lp p n false:=Blk.kept oO k5 zU
   have bm5:=bm4.kept k5 hmF
   obtain⟨g1,o1,rfl,hg1,_⟩:=acL.get (i:=0) (by have:=hhl.out;have:=hright.out.1;omega)
   have hF5:∀ i∈F5,i∈F∨w4.heap.size≤i:=f5.out
   have adA:m∉F5:=fun h=>by
    rcases hF5 m h with h | h
    ·exact hmF h
    ·have:=bm4.lt;omega
   have aaM:lp∉F5:=fun h=>by
    rcases hF5 lp h with h | h
    ·exact zU h
    ·have:=Blk.lt oO;omega
   have adK:g1∉F:=hA1 _ rfl
   have aaR:g1∉F5:=fun h=>by
    rcases hF5 g1 h with h | h
    ·exact adK h
    ·omega
   have adT:=acL.kept k5 (fun a ha=>by injection ha with ha;subst ha;exact adK)
   have adG:s1.late.length+2≤1048576:=by have:=bY.out;have:=Ug.out;omega
   have l0:=(oh.cells Xj).1
   have m0:=bm5.cell 0
   have m1:=bm5.cell 1
   simp only [List.getElem?_toArray,List.getElem?_cons_zero,List.getElem?_cons_succ] at m0 m1
   have hml:=nH (n+1) l.length
   generalize hM:dY (n+1) l.length=ML at *
   replace hblk:=Lib.hid hblk
   replace hM:=Lib.hid hM
   clear acM acL bm3 bm4 P7 k3 hd3 hnew1
   go_wp2_with fail
   have kd:Only [] w5 w5.drew:=(Only.refl [] w5).drew
   refine wp_region_held_drew (S:=fun w'=>w'.cell? ⟨lp,0,none⟩=some (.pointer (some ⟨p,0,none⟩))∧w'.cell? ⟨m,0,none⟩=some (.int .u32 (z+1))∧w'.cell? ⟨m,1,none⟩=some (.int .u32 (l.length:Int))) (by kernel_rfl) ⟨kd.cell l0 (by simp),kd.cell m0 (by simp),kd.cell m1 (by simp)⟩ (fun hHeld=> ?_)
   refine rwT 0 (.pointer (some ⟨lp,0,none⟩)) hHeld ?_;simp only [rwA]
   refine rwT 1 (.pointer (some ⟨lp,0,none⟩)) hHeld ?_;simp only [rwA]
   refine rwT 2 (.pointer (some ⟨lp,0,none⟩)) hHeld ?_;simp only [rwA]
   refine rwT 3 (.pointer (some ⟨p,0,none⟩)) hHeld ?_;simp only [rwA]
   refine rwT 4 (.agg #[.int .u32 (z+1),.int .u32 (l.length:Int)]) hHeld ?_;simp only [rwA]
   refine ah 5 rfl (by kernel_rfl) (fun K hK=> ?_)
   go_simp
   go_at_call 90
   refine (hblk.out _).mono ?_
   rintro e w6 ⟨rfl,k6⟩
   go_wp2_with fail
   refine hK.out _ _ ⟨k6.cell (kd.cell l0 (by simp)) (by simp),k6.cell (kd.cell m0 (by simp)) (by simp),k6.cell (kd.cell m1 (by simp)) (by simp)⟩ (fun hHeld=> ?_)
   clear hK K
   have k56:=kd.trans k6
   generalize hMs:strOf ML=M at *
   refine rwT 6 (.agg #[.int .i64 0,.string M]) hHeld ?_;simp only [rwA]
   refine ah 7 rfl (by kernel_rfl) (fun K hK=> ?_)
   go_simp
   have ka:Only [] w6 (w6.alloc (.cells #[.int .i64 0,.string M] 181)):=(Only.refl [] w6).alloc _
   have ba:Blk (w6.alloc (.cells #[.int .i64 0,.string M] 181)) w6.heap.size 181 #[.int .i64 0,.string M]:=Blk.new _ _ _
   obtain⟨g2,hg2⟩:∃ g,g=w6.heap.size:=⟨_,rfl⟩
   rw [←hg2] at ba
   generalize w6.alloc (.cells #[.int .i64 0,.string M] 181)=w7 at *
   have k57:=k56.trans ka
   refine hK.out _ _ ⟨k57.cell l0 (by simp),k57.cell m0 (by simp),k57.cell m1 (by simp)⟩ (fun hHeld=> ?_)
   clear hK K
   have acK:Fq w7 (some ⟨g2,0,none⟩) [⟨0,ML⟩]:=by
    refine⟨.inr ⟨g2,0,rfl,ba.lt,fun i hi=> ?_⟩,fun y hy=> ?_⟩
    ·have hi0:i=0:=by simpa using hi
     subst hi0
     have q0:=ba.cell 0
     have q1:=ba.cell 1
     simp only [List.getElem?_toArray,List.getElem?_cons_zero,List.getElem?_cons_succ] at q0 q1
     exact⟨q0,by rw [List.getElem_cons_zero,hMs];exact q1⟩
    ·simp only [List.mem_singleton] at hy
     subst hy
     exact⟨⟨by simp only;omega,by simp only;omega⟩,by simp only;omega⟩
   have aaQ:g2∉F5:=fun h=>by
    have:=Kz _ h
    have:=k56.size
    omega
   rw [hg2] at acK aaQ
   refine ah 8 rfl (by kernel_rfl) (fun K hK=> ?_)
   go_simp
   go_at_call 74
   refine (pF w7 p F5 s1 (some ⟨w6.heap.size,0,none⟩) 1 [⟨0,ML⟩] (hd5.kept k57 (by simp)) acK (fun a ha=>by injection ha with ha;subst ha;exact aaQ) (by simp;omega)).mono ?_
   rintro e w8 ⟨rfl,Zq⟩
   have Oa:=Zq.from k57
   obtain⟨F8a,adQ,k58,f8a⟩:=id Oa
   obtain⟨F8,hd8,aaC,afq⟩:=adQ.trim
   have f8:Hid (∀ i∈F8,i∈F5∨w5.heap.size≤i):=fun i hi=>f8a.out i (aaC i hi)
   clear adQ f8a aaC
   have JG:=Did.trans' k5 f5 Oa
   have Xi:oh w8 lp p n false:=Blk.kept Xj k58 aaM
   have bm8:=bm5.kept k58 adA
   have adS:=adT.kept k58 (fun a ha=>by injection ha with ha;subst ha;exact aaR)
   have acp:lp∉F8:=fun h=>by
    rcases f8.out lp h with h | h
    ·exact aaM h
    ·have:=Blk.lt Xj;omega
   have acD:g1∉F8:=fun h=>by
    rcases f8.out g1 h with h | h
    ·exact aaR h
    ·have:=k5.size;omega
   go_wp2_with fail
   refine hK.out _ _ ⟨(oh.cells Xi).1,by simpa using bm8.cell 0,by simpa using bm8.cell 1⟩ (fun hHeld=> ?_)
   clear hK K
   refine rwT 9 (.int .i64 (au s1 [⟨0,ML⟩]).1) hHeld ?_;simp only [rwA]
   refine wpAnyH_done (by kernel_rfl) ?_ _
   clear hHeld
   have Y7:∀ y∈[(⟨0,ML⟩:Bk)],bF s1.aA.length y.at_=true∧y.data.length=256:=by
    intro y hy
    simp only [List.mem_singleton] at hy
    subst hy
    exact⟨by simp only [bF,decide_eq_true_eq];have:=hN.out;omega,hml⟩
   have uY:=iO _ s1 Y7
   have rG:=gJ [⟨0,ML⟩] s1
   have adL:=aQ [⟨0,ML⟩] s1
   generalize hr2:au s1 [⟨0,ML⟩]=r2 at *
   obtain⟨x2,s2⟩:=r2
   simp only at uY rG adL hd8 JG Oa Zq ⊢
   replace hr2:=Lib.hid hr2
   clear acK ba ka Zq Oa k6 k56 k57 kd hHeld
   by_cases hx2:x2=0
   ·subst hx2
    have Ob:aH s n l=au s2 hs:=by
     rw [CP (by rw [hhs.out];exact hr1.out) (by rw [hM.out];exact hr2.out),hhs.out]
    have l08:=(oh.cells Xi).1
    have TV:=pF w8 p F8 s2 (some ⟨g1,o1,none⟩) c1 hs hd8 adS (fun a ha=>by injection ha with ha;subst ha;exact acD) (by have:=Xk.out;have:=bY.out;have:=Ug.out;simp at rG;omega)
    have aaT:=iO hs s2 (by rw [adL,adM];exact rD.out)
    generalize hr3:au s2 hs=r3 at *
    obtain⟨x3,s3⟩:=r3
    simp only at aaT TV
    replace TV:=Lib.hid TV
    go_wp2_with fail
    refine TV.out.mono ?_
    rintro e w9 ⟨rfl,Xp⟩
    have aaN:oh w9 lp p n false:=by
     obtain⟨_,_,kE,_⟩:=Xp
     exact Blk.kept Xi kE acp
    have bm9:Blk w9 m 153 #[.int .u32 (z+1),.int .u32 (l.length:Int)]:=by
     obtain⟨_,_,kE,_⟩:=Xp
     refine bm8.kept kE (fun h=> ?_)
     rcases f8.out m h with h | h
     ·exact adA h
     ·have:=bm5.lt;omega
    have aeS:Hid (∀ i∈F8,i∈F∨w4.heap.size≤i):=fun i hi=>by
     rcases f8.out i hi with h | h
     ·exact f5.out i h
     ·have:=k5.size;exact .inr (by omega)
    have k48:Only F w4 w8:=k5.then k58 (fun i hi=>f5.out i hi)
    have JF:=Did.trans' k48 aeS Xp
    clear Xp TV adT adS hd5 hd8 MB
    by_cases hx3:x3=0
    ·subst hx3
     have nY:=aaN
     have frE:=Blk.free nY 1
     have lE:=(oh.cells nY).2.1
     have mE:=bm9.cell 0
     simp only [List.getElem?_toArray,List.getElem?_cons_zero] at mE
     have hend:=X6 kw4 JF oO zU JD hz2.out
     have hcom:bV s n f l 0 s3 (n+1) false:=.inr ⟨hx.out,by rw [Ob],by rw [Ob],.inl ⟨rfl,rfl,rfl⟩⟩
     replace hcom:=Lib.hid hcom
     replace hend:=Lib.hid hend
     clear JF JG nY Ob oO Xj Xi aaN bm5 bm8 bm9
     go_wp2
     rw [fE.ret]
     go_ret
     exact⟨0,s3,n+1,false,rfl,hcom.out,hend.out⟩
    ·obtain rfl:x3=5:=aaT.resolve_left hx3
     have nY:oh w9 lp p n false:=by
      obtain⟨_,_,kE,_⟩:=JF
      exact Blk.kept oO kE zU
     have frE:=Blk.free nY 2
     have lE:=(oh.cells nY).2.2
     have hend:=yJ kw4 JF oO zU JD
     have hcom:bV s n f l 5 s3 n true:=.inr ⟨hx.out,by rw [Ob],by rw [Ob],.inr ⟨rfl,rfl,rfl⟩⟩
     replace hcom:=Lib.hid hcom
     replace hend:=Lib.hid hend
     clear JF nY Ob
     go_wp2_with fail
     go_step3
     refine⟨rfl,?_⟩
     go_wp2
     rw [Exit.noGoto_ret]
     go_ret
     exact⟨5,s3,n,true,rfl,hcom.out,hend.out⟩
   ·obtain rfl:x2=5:=uY.resolve_left hx2
    have Ob:aH s n l=(5,s2):=CQ (by rw [hhs.out];exact hr1.out) (by rw [hM.out];exact hr2.out) (by decide)
    have nY:oh w8 lp p n false:=by
     obtain⟨_,_,kE,_⟩:=JG
     exact Blk.kept oO kE zU
    have frE:=Blk.free nY 2
    have lE:=(oh.cells nY).2.2
    have hend:=yJ kw4 JG oO zU JD
    have hcom:bV s n f l 5 s2 n true:=.inr ⟨hx.out,by rw [Ob],by rw [Ob],.inr ⟨rfl,rfl,rfl⟩⟩
    replace hcom:=Lib.hid hcom
    replace hend:=Lib.hid hend
    clear JG nY Ob
    go_wp2_with fail
    go_step3
    refine⟨rfl,?_⟩
    go_wp2
    rw [Exit.noGoto_ret]
    go_ret
    exact⟨5,s2,n,true,rfl,hcom.out,hend.out⟩
  ·obtain rfl:x1=5:=aaU.resolve_left hx1
   have Ob:aH s n l=(5,s1):=CS (by rw [hhs.out];exact hr1.out) (by decide)
   have nY:oh w5 lp p n false:=by
    obtain⟨_,_,kE,_⟩:=MB
    exact Blk.kept oO kE zU
   have frE:=Blk.free nY 2
   have lE:=(oh.cells nY).2.2
   have hend:=yJ kw4 MB oO zU JD
   have hcom:bV s n f l 5 s1 n true:=.inr ⟨hx.out,by rw [Ob],by rw [Ob],.inr ⟨rfl,rfl,rfl⟩⟩
   replace hcom:=Lib.hid hcom
   replace hend:=Lib.hid hend
   clear MB nY Ob
   go_wp2_with fail
   go_step3
   refine⟨rfl,?_⟩
   go_wp2
   rw [Exit.noGoto_ret]
   go_ret
   exact⟨5,s1,n,true,rfl,hcom.out,hend.out⟩
 ·have hcom:bV s n f l x s n f:=.inl ⟨hx0,hx,rfl,rfl,rfl⟩
  have hend:=QB hd h hF0.out kw1
  have hx5:x=5→f=true:=by
   intro h5
   rcases hx with⟨_,h⟩ | ⟨_,h,_⟩ | ⟨_,_,_,h⟩ | ⟨_,_,_,h⟩
   ·omega
   ·exact h
   ·omega
   ·omega
  have hx0':(x != 0)=true:=by simpa using hx0
  replace hcom:=Lib.hid hcom
  replace hx:=Lib.hid hx
  by_cases h5:x=5
  ·have hf:=hx5 h5
   subst h5
   have nY:oh w1 lp p n f:=Blk.kept h kw1 (by simp)
   have frE:=Blk.free nY 2
   have lE:=(oh.cells nY).2.2
   have Zo:DF w (w1.setCell ⟨lp,2,none⟩ (.bool true)) lp p F s n f:=by
    rw [hf] at nY ⊢
    have ks:Only [lp] w1 (w1.setCell ⟨lp,2,none⟩ (.bool true)):=Only.set w1 [lp] (by simp) _
    refine⟨F,(hd.kept kw1 (by simp)).kept ks (by intro i hi;simp;rintro rfl;exact zU hi),?_,(kw1.more (by simp)).trans (ks.more (by simp)),fun j hj=>⟨.inl hj,?_⟩⟩
    ·have:=Blk.set nY 2 (.bool true)
     simpa [oh] using this
    ·have:=hF0.out j hj
     have:=kw1.size
     simp [World.setCell]
     omega
   replace Zo:=Lib.hid Zo
   replace hx5:=Lib.hid hx5
   replace hf:=Lib.hid hf
   clear hend nY
   go_wp2_with fail
   go_step3
   refine⟨rfl,?_⟩
   go_wp2
   rw [Exit.noGoto_ret]
   go_ret
   exact⟨5,s,n,f,rfl,hcom.out,Zo.out⟩
  ·have h5':(x==5)=false:=by simpa using h5
   replace hend:=Lib.hid hend
   replace hx5:=Lib.hid hx5
   go_wp2_with fail
   go_step3
   refine⟨rfl,?_⟩
   go_wp2
   rw [Exit.noGoto_ret]
   go_ret
   exact⟨x,s,n,f,rfl,hcom.out,hend.out⟩
end Go.Proofs.YtmelaiefbpdifaaGreatDoor
/- What opening and committing make of the blocks, as long as nothing dies. -/
namespace Go.Proofs.YtmelaiefbpdifaaGreatDoor
def Live(s:St):Prop:=s.dead=false∧s.fuse<0
theorem Live.dZ{s:St}(h:Live s):dZ s=true:=by
 have h1:=h.1
 have h2:=h.2
 have:¬s.fuse=0:=by omega
 simp [Go.Proofs.YtmelaiefbpdifaaGreatDoor.dZ,h1,this]
theorem Live.dD{s:St}(h:Live s):Go.Proofs.YtmelaiefbpdifaaGreatDoor.dD s=s:=by
 have h2:=h.2
 unfold Go.Proofs.YtmelaiefbpdifaaGreatDoor.dD
 rw [if_pos h.dZ,if_neg (by omega)]
def There(N:Nat)(x:Bk):Prop:=bF N x.at_=true∧x.data.length=256
theorem Live.written{s:St}(h:Live s){x:Bk}(hx:There s.aA.length x):aI s x.at_ x.data=0∧Go.Proofs.YtmelaiefbpdifaaGreatDoor.written s x.at_ x.data = { s with late:=s.late++[(x.at_.toNat,x.data)] }:=by
 have h1:(bF s.aA.length x.at_ && decide (x.data.length=256))=true:=by rw [hx.1,hx.2];rfl
 constructor
 ·rw [aI,h1,if_neg (by decide),if_neg (by rw [h.dZ];decide)]
 ·rw [Go.Proofs.YtmelaiefbpdifaaGreatDoor.written,h1,if_neg (by decide),if_neg (by rw [h.dZ];decide),h.dD]
theorem Ko(s:St)(x:Bk)(h0:0≤x.at_)(k:Nat):bI { s with late:=s.late++[(x.at_.toNat,x.data)] } k=if x.at_=(k:Int) then x.data else bI s k:=by
 unfold bI
 simp only [lF]
 by_cases h:x.at_=(k:Int)
 ·rw [if_pos h,if_pos (by omega)]
 ·rw [if_neg h,if_neg (by omega)]
theorem Live.bD{s:St}(h:Live s):dW s=0∧Live (Go.Proofs.YtmelaiefbpdifaaGreatDoor.bD s)∧(Go.Proofs.YtmelaiefbpdifaaGreatDoor.bD s).late = []∧∀ k,k<s.aA.length→bI (Go.Proofs.YtmelaiefbpdifaaGreatDoor.bD s) k=bI s k:=by
 refine⟨by rw [dW,if_neg (by rw [h.dZ];decide)],?_⟩
 rw [Go.Proofs.YtmelaiefbpdifaaGreatDoor.bD,if_neg (by rw [h.dZ];decide),h.dD]
 refine⟨⟨h.1,h.2⟩,rfl,fun k hk=> ?_⟩
 unfold bI
 simp only [bW,Je]
 have:=OY s.aA k _ (wU hk ([]:List UInt8)) s.late
 rw [List.getD_eq_getElem?_getD,this]
 rfl
def zN(v:Nat→List UInt8):List Bk→Nat→List UInt8
 | [],k=>v k
 | x :: r,k=>zN (fun k=>if x.at_=(k:Int) then x.data else v k) r k
theorem sQ:∀ (l:List Bk) (v u:Nat→List UInt8) (k:Nat),v k=u k→zN v l k=zN u l k
 | [],_,_,_,h=>h
 | x :: r,v,u,k,h=>by
  rw [zN,zN]
  refine sQ r _ _ k ?_
  simp only [h]
theorem ng:∀ (l:List Bk) (s:St),Live s→(∀ x∈l,There s.aA.length x) →
  (au s l).1=0∧Live (au s l).2∧(au s l).2.late = []∧∀ k,k<s.aA.length→bI (au s l).2 k=zN (bI s) l k
 | [],s,h,_=>by
  obtain⟨h1,h2,h3,h4⟩:=h.bD
  exact⟨h1,h2,h3,h4⟩
 | x :: r,s,h,hl=>by
  have hx:=hl x (by simp)
  obtain⟨h1,h2⟩:=h.written hx
  have h0:0≤x.at_:=by
   have:=hx.1
   simp only [bF,decide_eq_true_eq] at this
   exact this.1
  rw [au,if_pos h1,h2]
  have hlive:Live { s with late:=s.late++[(x.at_.toNat,x.data)] }:=⟨h.1,h.2⟩
  obtain⟨k1,k2,k3,k4⟩:=ng r { s with late:=s.late++[(x.at_.toNat,x.data)] } hlive (fun y hy=>hl y (by simp [hy]))
  refine⟨k1,k2,k3,fun k hk=> ?_⟩
  rw [k4 k hk,zN]
  exact sQ r _ _ k (Ko s x h0 k)
theorem qQ{n N:Nat}{l:List Bk}(h:dn l ((N:Int)-41)):∀ x∈aB (homesOf n l),There N x:=
 zx h.2.1 (lq h) (fun y hy=>(lQ h y hy).2)
theorem uG{n N:Nat}{l:List Bk}(h:dn l ((N:Int)-41)):∀ x∈homesOf n l,There N x:=BK (lQ h)
theorem OH{n k N:Nat}(hN:42≤N):∀ x∈[(⟨0,dY n k⟩:Bk)],There N x:=by
 intro x hx
 simp only [List.mem_singleton] at hx
 subst hx
 exact⟨by simp only [bF,decide_eq_true_eq];omega,nH _ _⟩
theorem zB{s:St}{n:Nat}{l:List Bk}(h:Live s)(hr:dn l ((s.aA.length:Int)-41)):
  (aH s n l).1=0∧Live (aH s n l).2∧(aH s n l).2.late = []∧(aH s n l).2.aA.length=s.aA.length ∧
   ∀ k,k<s.aA.length→bI (aH s n l).2 k=zN (zN (zN (bI s) (aB (homesOf (n+1) l))) [⟨0,dY (n+1) l.length⟩]) (homesOf (n+1) l) k:=by
 have hN:=lq hr
 obtain⟨a1,a2,a3,a4⟩:=ng (aB (homesOf (n+1) l)) s h (qQ hr)
 have a5:=aQ (aB (homesOf (n+1) l)) s
 generalize hq1:au s (aB (homesOf (n+1) l))=q1 at *
 obtain⟨x1,s1⟩:=q1
 simp only at a1 a2 a3 a4 a5
 subst a1
 obtain⟨b1,b2,b3,b4⟩:=ng [⟨0,dY (n+1) l.length⟩] s1 a2 (OH (by omega))
 have b5:=aQ [⟨0,dY (n+1) l.length⟩] s1
 generalize hq2:au s1 [⟨0,dY (n+1) l.length⟩]=q2 at *
 obtain⟨x2,s2⟩:=q2
 simp only at b1 b2 b3 b4 b5
 subst b1
 rw [CP hq1 hq2]
 obtain⟨c1,c2,c3,c4⟩:=ng (homesOf (n+1) l) s2 b2 (by rw [b5,a5];exact uG hr)
 have c5:=aQ (homesOf (n+1) l) s2
 refine⟨c1,c2,c3,by omega,fun k hk=> ?_⟩
 rw [c4 k (by omega)]
 refine sQ _ _ _ k ?_
 rw [b4 k (by omega)]
 exact sQ _ _ _ k (a4 k hk)
theorem UL{l:List Bk}{x:Bk}(h:x∈aB l):∃ i,∃ hi:i<l.length,x=⟨(1+i:Nat),l[i].data⟩:=by
 simp only [aB,List.mem_mapIdx] at h
 obtain⟨i,hi,rfl⟩:=h
 exact⟨i,hi,rfl⟩
theorem Xg{n:Nat}{l:List Bk}{x:Bk}(h:x∈homesOf n l):∃ y∈l,x=⟨41+y.at_,jo n y⟩:=by
 simp only [homesOf,List.mem_map] at h
 obtain⟨y,hy,rfl⟩:=h
 exact⟨y,hy,rfl⟩
section
variable {s:St}{n:Nat}{l:List Bk}
end
def dP(s:St):List (List UInt8):=(List.range (s.aA.length-41)).map fun j=>(bI s (41+j)).drop 8
theorem nN(s:St):(dP s).length=s.aA.length-41:=by simp [dP]
theorem JY(s:St)(j:Nat)(hj:j<s.aA.length-41):(dP s)[j]?=some ((bI s (41+j)).drop 8):=by simp [dP,hj]
theorem Lr{s:St}(hf:Fine s)(hN:42≤s.aA.length):∀ x∈fA s,There s.aA.length x∧41≤x.at_:=by
 intro x hx
 unfold fA gK at hx
 split at hx
 ·rename_i h
  simp only [dV,List.mem_map,List.mem_range] at hx
  obtain⟨i,hi,rfl⟩:=hx
  obtain⟨h1,h2,_⟩:=h.2 i hi
  have:=h.1
  exact⟨⟨by simp only [bF,decide_eq_true_eq];omega,hf.blk (by omega)⟩,by simp only;omega⟩
 ·cases hx
theorem Jo(n k:Nat):(dY n k).take 4=pq:=rfl
theorem Tf(n k:Nat)(hn:n<4294967296)(hk:k<4294967296):iT (dY n k)=n∧kK (dY n k)=k:=by
 unfold iT kK
 rw [if_pos (Jo n k),if_pos (Jo n k)]
 have e1:dY n k=pq++(be4 n++(be4 k++rep (256-(pq++(be4 n++be4 k)).length) 0)):=by simp [dY,oQ]
 have e2:dY n k=(pq++be4 n)++(be4 k++rep (256-(pq++(be4 n++be4 k)).length) 0):=by simp [dY,oQ]
 constructor
 ·rw [e1];exact NK n hn pq _
 ·rw [e2];exact NK k hk (pq++be4 n) _
end Go.Proofs.YtmelaiefbpdifaaGreatDoor
/- Texts of the call's own; a device and its log of the call's own; marks of number nought or one alone: of no law. -/
namespace Go.Proofs.YtmelaiefbpdifaaGreatDoor
open Go.RowKit
def Strs(w:World)(A:Option Addr)(L:List (List UInt8)):Prop:=L = []∨∃ g o,A=some ⟨g,o,none⟩∧g<w.heap.size∧∀ i (h:i<L.length),w.cell? ⟨g,o+i,none⟩=some (.string (strOf L[i]))
theorem Strs.kept{S:List Nat}{w w':World}{A:Option Addr}{L:List (List UInt8)}(h:Strs w A L)(k:Only S w w')(hA:∀ a,A=some a→a.block∉S):Strs w' A L:=by
 refine h.imp id ?_
 rintro⟨g,o,rfl,hg,hc⟩
 have hS:=hA _ rfl
 exact⟨g,o,rfl,Nat.lt_of_lt_of_le hg k.size,fun i hi=>k.cell (hc i hi) hS⟩
theorem Strs.get{w:World}{A:Option Addr}{L:List (List UInt8)}(h:Strs w A L){i:Nat}(hi:i<L.length):∃ g o,A=some ⟨g,o,none⟩∧g<w.heap.size∧∀ i (h:i<L.length),w.cell? ⟨g,o+i,none⟩=some (.string (strOf L[i])):=by
 rcases h with rfl | h
 ·simp at hi
 ·exact h
def Nr(w w':World)(v:Value)(L:List (List UInt8)):Prop:=
 ∃ A c,v = .slice A L.length c∧Strs w' A L∧Only [] w w'∧∀ a,A=some a→w.heap.size≤a.block
theorem Iz(L:List (List UInt8))(i:Nat)(h:i<L.length):(strCells L)[i]?=some (.string (strOf L[i])):=by simp [strCells,h]
theorem Ir{w w':World}{e:TypeId}{v:Value}{L:List (List UInt8)}(h:w'.ownsRow 0 e 1 v L.length (strCells L))(k:Only [] w w')(hnew:∀ g,v.ownBlock=some g→w.heap.size≤g):Nr w w' v L:=by
 by_cases h0:L.length=0
 ·obtain rfl:L = []:=List.eq_nil_of_length_eq_zero h0
  rcases id h.2 with⟨rfl,_⟩ | ⟨g,cap,cur,rfl,hb,hg,r⟩
  ·exact⟨none,0,rfl,.inl rfl,k,by simp⟩
  ·exact⟨_,_,rfl,.inl rfl,k,fun a ha=>by injection ha with ha;subst ha;exact hnew g rfl⟩
 ·obtain⟨g,c,rfl,_,_⟩:=h.form (by omega)
  refine⟨_,_,rfl,.inr ⟨g,0,rfl,(h.lt g rfl).2,fun i hi=> ?_⟩,k,fun a ha=>by injection ha with ha;subst ha;exact hnew g rfl⟩
  have q0:=h.cells rfl _ _ (Iz L i hi)
  rw [addr_add,Nat.zero_add] at q0
  rw [Nat.zero_add]
  exact q0
theorem take_snoc(s:St)(k:Nat)(h:k<s.aA.length-41):(dP s).take (k+1)=(dP s).take k++[(bI s (41+k)).drop 8]:=by
 rw [List.take_add_one,JY s k h]
 rfl
theorem vT(L:List (List UInt8))(b:List UInt8):strCells (L++[b])=strCells L++[.string (strOf b)]:=by simp [strCells]
theorem Iw{a b:List UInt8}(h:strOf a=strOf b):a=b:=by
 have:=congrArg (fun s:ByteArray=>s.data.toList) h
 simpa [strOf] using this
theorem BZ(N k:Nat)(hk:k<N):bI (fresh N) k=rep 256 0:=by
 unfold bI
 show qg ((List.replicate N (rep 256 0)).getD k []) [] k=_
 rw [Je,List.getD_eq_getElem?_getD,List.getElem?_replicate,if_pos hk]
 rfl
theorem Bq:iT (rep 256 0)=0∧kK (rep 256 0)=0:=by decide +kernel
theorem EN(N:Nat):Live (fresh N):=⟨rfl,by show (-1:Int)<0;decide⟩
theorem sO(s:St)(n:Nat):gK s n 0 = []:=by
 unfold gK
 split<;>rfl
theorem Em(N:Nat)(hN:42≤N):aY (fresh N)=0∧aJ (fresh N)=fresh N∧fF (fresh N)=0:=by
 have hl:fA (fresh N) = []:=by
  unfold fA
  rw [BZ N 0 (by omega),Bq.2]
  exact sO _ _
 have hA:¬(fresh N).aA.length≤41:=by rw [jk];omega
 have hd:¬(fresh N).dead=true:=by show ¬false=true;decide
 exact⟨by rw [aY,if_neg hA,if_neg hd,if_pos hl],by rw [aJ,if_neg hA,if_neg hd,if_pos hl],by rw [fF,BZ N 0 (by omega)];exact Bq.1⟩
theorem J4{s s':St}{n n':Nat}{l:List Bk}{x:Int}{f':Bool}(h:Live s)(hr:dn l ((s.aA.length:Int)-41))(hn:n≠4294967295)(hc:bV s n false l x s' n' f'):x=0∧s'=(aH s n l).2∧n'=n+1∧f'=false:=by
 have h0:=(zB (n:=n) h hr).1
 rcases hc with⟨hx,hR,_⟩ | ⟨_,hx,hs,hrest⟩
 ·exfalso
  rcases hR with⟨h1,_⟩ | ⟨_,h1,_⟩ | ⟨_,_,h1,_⟩ | ⟨_,_,_,h1⟩
  ·exact h1 hr
  ·cases h1
  ·exact hn h1
  ·exact hx h1
 ·rw [h0] at hx
  rcases hrest with⟨_,h1,h2⟩ | ⟨h1,_⟩
  ·exact⟨hx,hs,h1,h2⟩
  ·omega
theorem away{F F':List Nat}{w:World}{g:Nat}(hF:∀ j∈F',j∈F∨w.heap.size≤j)(hg:g∉F)(hlt:g<w.heap.size):g∉F':=fun h=>by
 rcases hF g h with h | h
 ·exact hg h
 ·omega
structure Own(w w':World)(F:List Nat)(lp p:Nat)(s:St)(n:Nat)(f:Bool):Prop where
 dev:Dev w' p F s
 log:oh w' lp p n f
 out:lp∉F
 old:w.heap.size≤lp
 only:Only [] w w'
 new:∀ j∈F,w.heap.size≤j∧j<w'.heap.size
section
variable {w w1 w2:World}{F:List Nat}{lp p n:Nat}{s:St}{f:Bool}
theorem Own.lt(h:Own w w1 F lp p s n f):lp<w1.heap.size:=Blk.lt h.log
theorem Own.keep(h:Own w w1 F lp p s n f)(k:Only [] w1 w2):Own w w2 F lp p s n f:=
 ⟨h.dev.kept k (by simp),Blk.kept h.log k (by simp),h.out,h.old,h.only.trans k,fun j hj=>⟨(h.new j hj).1,Nat.lt_of_lt_of_le (h.new j hj).2 k.size⟩⟩
theorem Own.beside{S:List Nat}(h:Own w w1 F lp p s n f)(k:Only S w1 w2)(hw:Only [] w w2)(hS:∀ i∈S,i∉lp :: F):Own w w2 F lp p s n f:=
 ⟨h.dev.kept k (fun i hi hm=>hS i hm (by simp [hi])),Blk.kept h.log k (fun hm=>hS lp hm (by simp)),h.out,h.old,hw,fun j hj=>⟨(h.new j hj).1,Nat.lt_of_lt_of_le (h.new j hj).2 k.size⟩⟩
theorem Own.acX{s':St}{n':Nat}{f':Bool}(h:Own w w1 F lp p s n f)(k:DF w1 w2 lp p F s' n' f'):∃ F',Own w w2 F' lp p s' n' f'∧Only (lp :: F) w1 w2∧∀ j∈F',j∈F∨w1.heap.size≤j:=by
 obtain⟨F',h1,h2,h3,h4⟩:=k
 refine⟨F',⟨h1,h2,away (fun j hj=>(h4 j hj).1) h.out h.lt,h.old,h.only.then h3 (fun i hi=> ?_),fun j hj=>⟨?_,(h4 j hj).2⟩⟩,h3,fun j hj=>(h4 j hj).1⟩
 ·rcases List.mem_cons.1 hi with rfl | hi
  ·exact .inr h.old
  ·exact .inr (h.new i hi).1
 ·rcases (h4 j hj).1 with h' | h'
  ·exact (h.new j h').1
  ·have:=h.only.size;omega
theorem Own.commit(h:Own w w1 F lp p s n f)(A:Option Addr)(c:Nat)(l:List Bk)(hn:n<4294967296)(hb:Fq w1 A l)(hl:l.length≤9223372036854775807)(hc:l.length≤c)(bY:s.late.length+200≤1048576):
  Calls Tryz.prog 41 #[.pointer (some ⟨lp,0,none⟩),.slice A l.length c] w1 fun e w'=>∃ x s' n' f' F',e = .returned (.int .i64 x)∧bV s n f l x s' n' f'∧Own w w' F' lp p s' n' f'∧Only (lp :: F) w1 w'∧∀ j∈F',j∈F∨w1.heap.size≤j:=by
 refine (Qq w1 lp p n f F s A c l hn h.log h.dev h.out hb hl hc bY).mono ?_
 rintro e w' ⟨x,s',n',f',h1,h2,h3⟩
 obtain⟨F',k1,k2,k3⟩:=h.acX h3
 exact⟨x,s',n',f',F',h1,h2,k1,k2,k3⟩
end
structure xH(w w':World)(F:List Nat)(p:Nat)(s:St):Prop where
 dev:Dev w' p F s
 only:Only [] w w'
 new:∀ j∈F,w.heap.size≤j∧j<w'.heap.size
theorem Own.d{w w1:World}{F:List Nat}{lp p n:Nat}{s:St}{f:Bool}(h:Own w w1 F lp p s n f):xH w w1 F p s:=⟨h.dev,h.only,h.new⟩
theorem xH.keep{w w1 w2:World}{F:List Nat}{p:Nat}{s:St}(h:xH w w1 F p s)(k:Only [] w1 w2):xH w w2 F p s:=
 ⟨h.dev.kept k (by simp),h.only.trans k,fun j hj=>⟨(h.new j hj).1,Nat.lt_of_lt_of_le (h.new j hj).2 k.size⟩⟩
theorem Ei(w w1:World)(N:Nat)(h1:1≤N)(h2:N≤1024)(k:Only [] w w1):
  Calls Tryz.prog 10 #[.int .i64 (N:Int)] w1 fun e w'=>∃ p F,e = .returned (.pointer (some ⟨p,0,none⟩))∧xH w w' F p (fresh N)∧Only [] w1 w'∧∀ j∈F,w1.heap.size≤j:=by
 refine (new_any w1 (N:Int) (by omega) (by omega)).mono ?_
 rintro e w' ⟨p,F,he,hd,hk,hF⟩
 have hc:clamp (N:Int)=N:=by unfold clamp;omega
 rw [hc] at hd
 obtain⟨F',k1,k2,k3⟩:=hd.trim
 exact⟨p,F',he,⟨k1,k.trans hk,fun j hj=>⟨Nat.le_trans k.size (hF j (k2 j hj)),k3 j hj⟩⟩,hk,fun j hj=>hF j (k2 j hj)⟩
theorem xH.opens{w w1:World}{F:List Nat}{p:Nat}{s:St}(h:xH w w1 F p s)(hok:aY s=0)(bY:s.late.length+40≤1048576):
  Calls Tryz.prog 33 #[.pointer (some ⟨p,0,none⟩)] w1 fun e w'=>∃ lp F',e = .returned (.tuple #[.pointer (some ⟨lp,0,none⟩),.int .i64 0])∧Own w w' F' lp p (aJ s) (fF s) false∧Only F w1 w'∧w1.heap.size≤lp∧∀ j∈F',j∈F∨w1.heap.size≤j:=by
 refine (open_any w1 p F s h.dev bY).mono ?_
 rintro e w' ⟨F',k1,k2,k3,k4⟩
 rcases k4 with⟨h0,_⟩ | ⟨_,lp,he,tu,hlp,hout⟩
 ·exact absurd hok h0
 ·refine⟨lp,F',he,⟨k1,tu,hout,Nat.le_trans h.only.size hlp,h.only.then k2 (fun i hi=>.inr (h.new i hi).1),fun j hj=>⟨?_,(k3.out j hj).2⟩⟩,k2,hlp,fun j hj=>(k3.out j hj).1⟩
  rcases (k3.out j hj).1 with h' | h'
  ·exact (h.new j h').1
  ·have:=h.only.size;omega
def Mk(s:St):Prop:=iT (s.aA.getD 0 [])≤1∧∀ x∈s.late,x.1=0→iT x.2≤1
theorem Mk.settled{s:St}(h:Mk s)(keep:Nat)(h1:1≤s.aA.length):Mk (bW s keep):=by
 refine⟨?_,fun x hx=>by cases hx⟩
 show iT ((settle keep s.late s.aA).getD 0 [])≤1
 have hg:=wU (l:=settle keep s.late s.aA) (k:=0) (by rw [dL];omega) ([]:List UInt8)
 rcases OX keep s.aA 0 _ s.late hg with h' | h'
 ·have:=wU (l:=s.aA) (k:=0) (by omega) ([]:List UInt8)
  rw [h'] at this
  injection this with this
  rw [this]
  exact h.1
 ·exact h.2 _ h' rfl
theorem Mk.dD{s:St}(h:Mk s):Mk (dD s):=by
 unfold Mk
 rw [dK,iC]
 exact h
theorem Mk.written{s:St}(h:Mk s)(k:Int)(b:List UInt8)(hb:k=0→iT b≤1):Mk (written s k b):=by
 unfold Go.Proofs.YtmelaiefbpdifaaGreatDoor.written
 split
 ·exact h
 ·rename_i hk
  split
  ·exact h.dD
  ·refine⟨h.dD.1,fun x hx hx0=> ?_⟩
   rcases List.mem_append.1 hx with hx | hx
   ·exact h.2 x hx hx0
   ·simp at hx
    subst hx
    simp only at hx0
    simp [bF] at hk
    exact hb (by omega)
theorem Mk.bD{s:St}(h:Mk s)(h1:1≤s.aA.length):Mk (bD s):=by
 unfold Go.Proofs.YtmelaiefbpdifaaGreatDoor.bD
 split
 ·exact h.dD
 ·exact h.dD.settled _ (by rw [dK];exact h1)
theorem Mk.au:∀ (l:List Bk) (s:St),Mk s→1≤s.aA.length→(∀ x∈l,x.at_=0→iT x.data≤1)→Mk (au s l).2
 | [],s,h,h1,_=>h.bD h1
 | x :: r,s,h,h1,hl=>by
  have hw:=h.written x.at_ x.data (hl x (by simp))
  rw [Go.Proofs.YtmelaiefbpdifaaGreatDoor.au]
  split
  ·exact Mk.au r _ hw (by rw [fH];exact h1) (fun y hy=>hl y (by simp [hy]))
  ·exact hw
theorem Mk.aH{s:St}{l:List Bk}(h:Mk s)(hr:dn l ((s.aA.length:Int)-41)):Mk (aH s 0 l).2:=by
 have hN:=lq hr
 have h40:=hr.2.1
 have c1:∀ x∈aB (homesOf (0+1) l),x.at_=0→iT x.data≤1:=fun x hx h0=>by
  obtain⟨i,hi,rfl⟩:=UL hx
  simp only at h0
  omega
 have c2:∀ x∈[(⟨0,dY (0+1) l.length⟩:Bk)],x.at_=0→iT x.data≤1:=fun x hx _=>by
  simp only [List.mem_singleton] at hx
  subst hx
  simp only
  rw [(Tf (0+1) l.length (by decide) (by omega)).1]
  omega
 have c3:∀ x∈homesOf (0+1) l,x.at_=0→iT x.data≤1:=fun x hx h0=>by
  obtain⟨y,hy,rfl⟩:=Xg hx
  have:=(lQ hr y hy).1
  simp only at h0
  omega
 have m1:=Mk.au _ s h (by omega) c1
 have f1:=aQ (aB (homesOf (0+1) l)) s
 have m2:=Mk.au _ _ m1 (by omega) c2
 have f2:=aQ [⟨0,dY (0+1) l.length⟩] (Go.Proofs.YtmelaiefbpdifaaGreatDoor.au s (aB (homesOf (0+1) l))).2
 have m3:=Mk.au _ _ m2 (by omega) c3
 unfold Go.Proofs.YtmelaiefbpdifaaGreatDoor.aH
 split
 ·exact m1
 ·split
  ·exact m2
  ·exact m3
theorem Mk.crashed{s:St}(h:Mk s)(keep:Nat)(h1:1≤s.aA.length):Mk (crashed s keep):=h.settled keep h1
theorem Mk.number{s:St}(h:Mk s):fF s≤1:=by
 unfold fF bI
 rcases BF (s.aA.getD 0 []) 0 s.late with⟨_,h2,_⟩ | ⟨_,_,h3⟩
 ·rw [h2];exact h.1
 ·exact h.2 _ (List.mem_of_getElem? h3) rfl
theorem Mk.fresh(N:Nat)(hN:1≤N):Mk (fresh N):=by
 refine⟨?_,fun x hx=>by cases hx⟩
 show iT ((List.replicate N (rep 256 0)).getD 0 [])≤1
 rw [List.getD_eq_getElem?_getD,List.getElem?_replicate,if_pos (by omega)]
 show iT (rep 256 0)≤1
 rw [Bq.1]
 omega
theorem Qp{s s':St}{n n':Nat}{l:List Bk}{x:Int}{f':Bool}(hc:bV s n false l x s' n' f'):s'=s∨(dn l ((s.aA.length:Int)-41)∧s'=(aH s n l).2):=by
 rcases hc with⟨_,_,h,_⟩ | ⟨hR,_,h,_⟩
 ·exact .inl h
 ·refine .inr ⟨?_,h⟩
  rcases hR with⟨_,h1⟩ | ⟨_,_,h1⟩ | ⟨_,_,_,h1⟩ | ⟨h1,_⟩
  ·omega
  ·omega
  ·omega
  ·exact h1
theorem MQ(s:St)(n:Nat)(l:List Bk):(aH s n l).2.aA.length=s.aA.length:=by
 have f1:=aQ (aB (homesOf (n+1) l)) s
 have f2:=aQ [⟨0,dY (n+1) l.length⟩] (au s (aB (homesOf (n+1) l))).2
 have f3:=aQ (homesOf (n+1) l) (au (au s (aB (homesOf (n+1) l))).2 [⟨0,dY (n+1) l.length⟩]).2
 unfold aH
 split
 ·exact f1
 ·split
  ·omega
  ·omega
section
variable {w w1:World}{F:List Nat}{lp p n:Nat}{s:St}{f:Bool}
theorem xH.same(h:xH w w1 F p s){w2:World}{t:St}(k:Same w1 w2 p F t):xH w w2 F p t:=
 ⟨k.1,h.only.then k.2 (fun i hi=>.inr (h.new i hi).1),fun j hj=>⟨(h.new j hj).1,Nat.lt_of_lt_of_le (h.new j hj).2 k.2.size⟩⟩
theorem Own.fuse(h:Own w w1 F lp p s n f)(x:Int)(h0 : -9223372036854775808≤x)(h1:x≤9223372036854775807):
  Calls Tryz.prog 22 #[.pointer (some ⟨p,0,none⟩),.int .i64 x] w1 fun e w'=>e = .returned (.tuple #[])∧Own w w' F lp p (lit s x) n f:=
 (Oe w1 p F s x h0 h1 h.dev).mono fun _ _ ⟨he,hs⟩=>⟨he,(h.d.same hs).dev,Blk.kept h.log hs.2 h.out,h.out,h.old,(h.d.same hs).only,(h.d.same hs).new⟩
theorem xH.crash(h:xH w w1 F p s)(keep:Nat)(hk:keep<18446744073709551616):
  Calls Tryz.prog 20 #[.pointer (some ⟨p,0,none⟩),.int .u64 (keep:Int)] w1 fun e w'=>e = .returned (.tuple #[])∧xH w w' F p (crashed s keep)∧Only F w1 w':=
 (CB w1 p F s keep hk h.dev).mono fun _ _ ⟨he,hs⟩=>⟨he,h.same hs,hs.2⟩
end
end Go.Proofs.YtmelaiefbpdifaaGreatDoor
