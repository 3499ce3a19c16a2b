/- Joined: Fn1, Fn2, Ap13, Sv, Mm13, Ld13 -/
import Derived.Test.YtmelaiefbpdifaaGreatDoorHGf
import Derived.Deep.Upon
import Derived.Lib.SliceRun
import Derived.Test.YtmelaiefbpdifaaGreatDoorHIe
import Derived.Test.YtmelaiefbpdifaaGreatDoorHJb
import Derived.Maps.Views
namespace Go.Proofs.YtmelaiefbpdifaaGreatDoor.Srv
open Go.RowKit Go.Maps
def eK(x:Nat):List UInt8:=69 :: be4 x
def bK:List UInt8:=[66]
def numOf(l:List UInt8):Nat:=(bP l 0).1
theorem wZ(x:Nat):(eK x).length=5:=rfl
theorem zQ(l:List UInt8):numOf l<4294967296:=by
 unfold numOf bP
 have h1:=uq l
 split
 ·simp
 ·split
  ·simp
  ·simp only;omega
theorem Jd(n:Nat)(h:n<4294967296):numOf (be4 n)=n:=by
 have:=Lh n [] h
 rw [List.append_nil] at this
 unfold numOf
 rw [this]
theorem vC(w:World)(x:Int)(n:Nat)(hx:x=n)(hn:n<4294967296):
  Calls Tryz.prog 94 #[.int .u32 x] w fun e w'=>e = .returned (.string (strOf (be4 n)))∧Only [] w w':=by
 have hnum:=fun W p F (h:Wr W p F [])=>gB W p F [] x n hx hn h (by simp)
 have h1:Wr (w.alloc (.cells #[.slice none 0 0] 249)) w.heap.size [] []:=⟨.slice none 0 0,Blk.new w _ _,⟨rfl,.inl ⟨rfl,rfl⟩⟩,by simp [Value.ownBlock],by simp [Value.ownBlock]⟩
 have k1:Only [] w (w.alloc (.cells #[.slice none 0 0] 249)):=(Only.refl [] w).alloc _
 replace hnum:=Lib.hid hnum
 clear hx
 go_enter Tryz.func94,Tryz.ntmps94
 go_wp2_with fail
 refine (hnum.out _ _ _ h1).mono ?_
 rintro e w2 ⟨rfl,F2,hw2,ho2,hF2⟩
 go_wp2_with fail
 refine (mJ _ _ _ _ hw2).mono ?_
 rintro e w3 ⟨rfl,rfl⟩
 go_wp2
 go_ret
 exact⟨rfl,k1.then ho2 (fun i hi=>.inr (by simp at hi;omega))⟩
theorem qZ(w:World)(l:List UInt8)(h:l.length≤1048576):
  Calls Tryz.prog 93 #[.string (strOf l)] w fun e w'=>e = .returned (.int .u32 (numOf l:Int))∧Only [] w w':=by
 have hnew:=jr w (strOf l) (by rw [aj];omega)
 rw [dh] at hnew
 generalize strOf l=s at *
 unfold numOf
 go_enter Tryz.func93,Tryz.ntmps93
 go_wp2_with fail
 refine hnew.mono ?_
 rintro e w1 ⟨p,g,rfl,hr,hp,hg,k1,_⟩
 go_wp2_with fail
 refine (pO w1 p g l 0 hr).mono ?_
 rintro e w2 ⟨rfl,_,k2⟩
 go_wp2
 go_ret
 exact⟨rfl,k1.then k2 (fun i hi=>.inr (by simp at hi;omega))⟩
theorem rV(w:World)(x:Int)(n:Nat)(hx:x=n)(hn:n<4294967296):
  Calls Tryz.prog 111 #[.int .u32 x] w fun e w'=>e = .returned (.string (strOf (eK n)))∧Only [] w w':=by
 have hb:=vC w x n hx hn
 have happ:strOf [69]++strOf (be4 n)=strOf (eK n):=mY _ _
 have s1:(strOf [69]).size=1:=by rw [aj];rfl
 have s2:(strOf (be4 n)).size=4:=by rw [aj];rfl
 have hadd:∀ W,(Op.stringOp .add (strOf [69]) (strOf (be4 n))).run Tryz.prog W = .ok (.string (strOf (eK n))) W:=fun W=>by
  rw [run_string_add_sum W _ _ (by omega),happ]
 change ∀ W,(Op.stringOp .add ⟨#[69]⟩ (strOf (be4 n))).run Tryz.prog W = .ok (.string (strOf (eK n))) W at hadd
 clear happ s1 s2 hx
 generalize strOf (eK n)=S3 at *
 generalize strOf (be4 n)=S2 at *
 go_enter Tryz.func111,Tryz.ntmps111
 go_wp2_with fail
 refine hb.mono ?_
 rintro e w1 ⟨rfl,k1⟩
 go_wp2
 go_ret
 exact⟨rfl,k1⟩
theorem jI(w:World)(x y:Int)(h0:0≤x∧x<4294967296)(h1:0≤y∧y<4294967296):
  Calls Tryz.prog 202 #[.int .u32 x,.int .u64 y] w fun e w'=>e = .returned (.bool (decide (x+y≤1024)))∧w'=w:=by
 have hw:IntKind.u64.wrap x=x:=by rw [IntKind.wrap_u64];omega
 have hw2:IntKind.u64.wrap (x+y)=x+y:=by rw [IntKind.wrap_u64];omega
 go_enter Tryz.func202,Tryz.ntmps202
 go_wp2
 go_ret
 simp
end Go.Proofs.YtmelaiefbpdifaaGreatDoor.Srv
namespace Go.Proofs.YtmelaiefbpdifaaGreatDoor.Srv
open Go.RowKit Go.Maps
theorem TF(w:World)(v:Value):Calls Tryz.prog 57 #[.pointer none,v] w fun e w'=>e = .returned (.tuple #[.int .u32 0,.bool false])∧w'=w:=by
 go_enter Tryz.func57,Tryz.ntmps57
 go_wp2
 go_ret2
 exact⟨rfl,rfl⟩
set_option maxRecDepth 100000 in
theorem NU(w:World)(sb rp mb lp:Nat)(M:List Rw)(x:Int)(n:Nat)(hx:x=n)(hn:n<4294967296)(hsb:w.cell? ⟨sb,3,none⟩=some (.pointer (some ⟨rp,0,none⟩)))(hr:gy w rp mb lp M)(hv:(kF M (eK n)).length≤1048576):
  Calls Tryz.prog 57 #[.pointer (some ⟨sb,0,none⟩),.int .u32 x] w fun e w'=>e = .returned (.tuple #[.int .u32 (numOf (kF M (eK n)):Int),.bool (aK M (eK n)).isSome])∧Only [] w w':=by
 have hkey:=fun W=>rV W x n hx hn
 have hget:=fun W (k:Only [] w W)=>get_any W rp mb lp M (eK n) (by rw [wZ];decide) (hr.kept k (by simp) (by simp))
 have hnum:=fun W=>qZ W (kF M (eK n)) hv
 replace hkey:=Lib.hid hkey
 replace hget:=Lib.hid hget
 replace hnum:=Lib.hid hnum
 clear hr hv hx
 generalize strOf (kF M (eK n))=vs at *
 generalize numOf (kF M (eK n))=y at *
 generalize strOf (eK n)=ks at *
 generalize (aK M (eK n)).isSome=b at *
 go_enter Tryz.func57,Tryz.ntmps57
 go_wp2_with fail
 have kd:Only [] w w.drew:=(Only.refl [] w).drew
 have cd:=kd.cell hsb (by simp)
 refine wp_region_held_drew (S:=fun w'=>w'.cell? ⟨sb,3,none⟩=some (.pointer (some ⟨rp,0,none⟩))) (by kernel_rfl) cd (fun hHeld=> ?_)
 generalize w.drew=wd at *
 refine rwT 0 (.pointer (some ⟨sb,0,none⟩)) hHeld ?_;simp only [rwA]
 refine rwT 1 (.pointer (some ⟨sb,0,none⟩)) hHeld ?_;simp only [rwA]
 refine rwT 2 (.pointer (some ⟨sb,3,none⟩)) hHeld ?_;simp only [rwA]
 refine rwT 3 (.pointer (some ⟨rp,0,none⟩)) hHeld ?_;simp only [rwA]
 refine rwT 4 (.int .u32 x) hHeld ?_;simp only [rwA]
 refine ah 5 rfl (by kernel_rfl) (fun K hK=> ?_)
 go_simp
 refine (hkey.out _).mono ?_;rintro e w1 ⟨rfl,k1⟩
 have c1:=k1.cell cd (by simp)
 have k01:=kd.trans k1
 go_wp2_with fail
 refine hK.out _ _ c1 (fun hHeld=> ?_)
 clear hK K
 refine ah 6 rfl (by kernel_rfl) (fun K hK=> ?_)
 go_simp
 refine (hget.out _ k01).mono ?_;rintro e w2 ⟨rfl,k2⟩
 have c2:=k2.cell c1 (by simp)
 have k02:=k01.trans k2
 go_wp2_with fail
 refine hK.out _ _ c2 (fun hHeld=> ?_)
 clear hK K
 refine rwT 7 (.tuple #[.string vs,.bool b]) hHeld ?_;simp only [rwA]
 refine rwT 8 (.string vs) hHeld ?_;simp only [rwA]
 refine rwT 9 (.bool b) hHeld ?_;simp only [rwA]
 refine rwT 10 (.string vs) hHeld ?_;simp only [rwA]
 refine rwT 11 (.bool b) hHeld ?_;simp only [rwA]
 refine wpAnyH_done (by kernel_rfl) ?_ _
 clear hHeld
 go_wp2_with fail
 refine (hnum.out _).mono ?_;rintro e w3 ⟨rfl,k3⟩
 have dw:=k02.trans k3
 go_wp2
 go_ret2
 exact⟨rfl,dw⟩
theorem UA(w:World)(v:Value):Calls Tryz.prog 18 #[.pointer none,v] w fun e w'=>e = .returned (.int .u32 0)∧w'=w:=by
 go_enter Tryz.func18,Tryz.ntmps18
 go_wp2_with fail
 refine (TF _ _).mono ?_;rintro e w1 ⟨rfl,rfl⟩
 go_wp2
 go_ret
 exact⟨rfl,rfl⟩
theorem XF(w:World)(sb rp mb lp:Nat)(M:List Rw)(x:Int)(n:Nat)(hx:x=n)(hn:n<4294967296)(hsb:w.cell? ⟨sb,3,none⟩=some (.pointer (some ⟨rp,0,none⟩)))(hr:gy w rp mb lp M)(hv:(kF M (eK n)).length≤1048576):
  Calls Tryz.prog 18 #[.pointer (some ⟨sb,0,none⟩),.int .u32 x] w fun e w'=>e = .returned (.int .u32 (numOf (kF M (eK n)):Int))∧Only [] w w':=by
 have hk:=NU w sb rp mb lp M x n hx hn hsb hr hv
 clear hx hr hv
 go_enter Tryz.func18,Tryz.ntmps18
 go_wp2_with fail
 refine hk.mono ?_;rintro e w1 ⟨rfl,k1⟩
 go_wp2
 go_ret
 exact⟨rfl,k1⟩
end Go.Proofs.YtmelaiefbpdifaaGreatDoor.Srv
namespace Go.Proofs.YtmelaiefbpdifaaGreatDoor.Srv
open Go.RowKit Go.Maps
section
variable {α:Type}{enc:α→List Value}{k:Nat}{w:World}
theorem zY(hk:∀ x,(enc x).length=k)(h0:0<k){g o:Nat}{l:List α}(h:jq enc k w g o l):∀ j u,(encs enc l)[j]?=some u→w.cell? ((⟨g,o,none⟩:Addr).add j)=some u:=by
 intro j u hu
 rw [addr_add]
 have hj:j<l.length*k:=by
  have:=(List.getElem?_eq_some_iff.1 hu).1
  rwa [mg hk] at this
 have hi:j / k<l.length:=Nat.div_lt_of_lt_mul (by rw [Nat.mul_comm];exact hj)
 have hr:j % k<(enc l[j / k]).length:=by rw [hk];exact Nat.mod_lt _ h0
 have hv:=List.getElem?_eq_getElem hr
 have e:j / k*k+j % k=j:=by rw [Nat.mul_comm];exact Nat.div_add_mod j k
 have h1:=rW hk l (j / k) hi (j % k) _ hv
 rw [e,hu] at h1
 injection h1 with h1
 have h2:=h (j / k) hi (j % k) _ hv
 rw [Nat.add_assoc,e,←h1] at h2
 exact h2
theorem jq.drop{g o:Nat}{l:List α}(h:jq enc k w g o l)(n:Nat):jq enc k w g (o+n*k) (l.drop n):=by
 intro i hi j v hv
 have hi':n+i<l.length:=by simp at hi;omega
 simp only [List.getElem_drop] at hv
 have:=h (n+i) hi' j v hv
 rwa [Nat.add_mul,←Nat.add_assoc] at this
theorem jq.take{g o:Nat}{l:List α}(h:jq enc k w g o l)(n:Nat):jq enc k w g o (l.take n):=by
 intro i hi j v hv
 have hi':i<l.length:=by simp at hi;omega
 simp only [List.getElem_take] at hv
 exact h i hi' j v hv
theorem qw(l m:List α):encs enc (l++m)=encs enc l++encs enc m:=by simp [encs]
variable {P:Program}
theorem bZ(hk:∀ x,(enc x).length=k)(h0:0<k)(h1:∀ x,∀ v∈enc x,v.oneCell'=true){ops:Array Oper}{rest:List Oper}{o:Oper}{a:Act}{Q:Exit→Act→World→Prop}(hgd:o.guard=none)(s y:Operand)(t:TypeId)
  (ho:o.op = .call { callee:=.builtin .append,args:=#[s,y],argTypes:=#[t,t] })
  (e:TypeId) (z:Value) (bytes:Nat) (ht:P.underlying t=some (.slice e)) (hinfo:(P.info? e).map (fun i=>(i.zero,i.size,i.bytes))=some (some z,k,bytes)) (hzs:z.cells.size=k)
  (v:Value) (n:Nat) (xs:List α) (hs:a.eval s=v) (hown:w.ownsRow 0 e k v n (encs enc xs))
  (g p m c:Nat) (ys:List α) (hm:m=ys.length) (hx:a.eval y = .slice (some ⟨g,p,none⟩) m c) (hsrc:jq enc k w g p ys)
  (h63:n+m≤maxLen) (hbytes:(n+m)*bytes≤140737488355328)
  (h:∀ v' w',w'.ownsRow 0 e k v' (n+m) (encs enc (xs++ys))→w.grownBy w' v.ownBlock→(v'.ownBlock=v.ownBlock∨v'.ownBlock=some w.heap.size)→wpList P ops Q rest (a.put o.dst v') w'):wpList P ops Q (o :: rest) a w:=by
 subst hm
 refine wpList_plain hgd fun K hK=> ?_
 obtain⟨i,hi,hz0,hz1,hz2⟩:=info_parts hinfo
 obtain⟨v',w',hrun,h2,h3,_,h4⟩:=run_append_own_at (P:=P) w 0 t o.type e i z k bytes ht hi hz0 hz1 hz2 hzs h0 v n (encs enc xs) hown ⟨g,p,none⟩ ys.length c (encs enc ys) (mg hk ys) (zY hk h0 hsrc) (GZ h1 ys) h63 hbytes (Nat.zero_le _)
 rw [←qw] at h2
 unfold Oper.wp execOp
 simp only [ho,resolve,invoke,builtin,Sem.run_bind,Sem.run_pure,Result.andThen_ok,List.map_toArray,List.map_cons,List.map_nil,hs,hx,hrun]
 exact hK _ _ (h v' w' h2 h3 h4)
end
section
variable {α:Type}{enc:α→List Value}{k:Nat}{w:World}{P:Program}
theorem dI(hk:∀ x,(enc x).length=k)(h0:0<k)(h1:∀ x,∀ v∈enc x,v.oneCell'=true){ops:Array Oper}{rest:List Oper}{o:Oper}{a:Act}{Q:Exit→Act→World→Prop}(hgd:o.guard=none)(s y:Operand)(t:TypeId)
  (ho:o.op = .call { callee:=.builtin .append,args:=#[s,y],argTypes:=#[t,t] })
  (e:TypeId) (z:Value) (bytes:Nat) (ht:P.underlying t=some (.slice e)) (hinfo:(P.info? e).map (fun i=>(i.zero,i.size,i.bytes))=some (some z,k,bytes)) (hzs:z.cells.size=k)
  (v:Value) (n:Nat) (xs:List α) (hs:a.eval s=v) (hown:w.ownsRow 0 e k v n (encs enc xs))
  (A:Option Addr) (c:Nat) (ys:List α) (hx:a.eval y = .slice A ys.length c) (hsrc:Els enc k w A ys)
  (h63:n+ys.length≤maxLen) (hbytes:(n+ys.length)*bytes≤140737488355328)
  (h:∀ v' w',w'.ownsRow 0 e k v' (n+ys.length) (encs enc (xs++ys))→w.grownBy w' v.ownBlock→(v'.ownBlock=v.ownBlock∨v'.ownBlock=some w.heap.size)→wpList P ops Q rest (a.put o.dst v') w'):wpList P ops Q (o :: rest) a w:=by
 rcases hsrc with hnil | ⟨g,p,rfl,hg,hat⟩
 ·subst hnil
  refine wpList_plain hgd fun K hK=> ?_
  obtain⟨i,hi,hz0,hz1,hz2⟩:=info_parts hinfo
  have hsrc:Src P i.size t (.slice A 0 c) 0 [] w:=by
   cases A with
   | none=>exact Src.ofNil w ht c
   | some a=>exact Src.ofSlice w ht a 0 c [] (by simp) (fun j u hj=>by simp at hj) (fun _ h=>by cases h)
  have hrun:(Builtin.append_ #[t,t] o.type #[v,.slice A 0 c]).run P w = .ok v w:=by
   rcases id hown.2 with⟨rfl,rfl⟩ | ⟨g,cap,cur,rfl,_,_,hnc,_⟩
   ·exact run_append_nothing w t t o.type e i ht hi none 0 0 (Nat.le_refl _) _ hsrc
   ·exact run_append_nothing w t t o.type e i ht hi _ n cap hnc _ hsrc
  simp only [List.length_nil] at hx
  unfold Oper.wp execOp
  simp only [ho,resolve,invoke,builtin,Sem.run_bind,Sem.run_pure,Result.andThen_ok,List.map_toArray,List.map_cons,List.map_nil,hs,hx,hrun]
  exact hK _ _ (h v w (by simpa using hown) (World.grownBy.refl _ _) (.inl rfl))
 ·exact bZ hk h0 h1 hgd s y t ho e z bytes ht hinfo hzs v n xs hs hown g p ys.length c ys rfl hx hat h63 hbytes h
end
theorem SE{w:World}{e:TypeId}{k g:Nat}(h:Blk w g e #[]):w.ownsRow 0 e k (.slice (some ⟨g,0,none⟩) 0 0) 0 []:=
 ⟨by simp,.inr ⟨g,0,#[],rfl,Nat.zero_le _,h,Nat.le_refl _,Nat.zero_le _,by simp,by simp⟩⟩
end Go.Proofs.YtmelaiefbpdifaaGreatDoor.Srv
namespace Go.Proofs.YtmelaiefbpdifaaGreatDoor.Srv
open Go.RowKit Go.Maps
open Pgs (Pg jm headB find iG yE ldL mV Holds Ia oV jM wK wL)
def fC(M:List Rw)(x:Nat)(o:List Pg):Nat:=(o.filter fun p=>(jD M (jm x p.n.toNat)).isNone).length
def dU(M:List Rw)(x:Nat):List Pg:=ldL (aP M (headB x))
def epB(M:List Rw)(x:Nat):Bool:=(jD M (eK x)).isSome
def epN(M:List Rw)(x:Nat):Nat:=numOf ((jD M (eK x)).getD [])
def cur(M:List Rw)(x:Nat)(e:Int):Bool:=epB M x && ((epN M x:Int)==e)
def iU(L:List (Nat × List Pg))(x:Nat):Option (List Pg):=(L.find? fun q=>q.1==x).map Prod.snd
def yC(L:List (Nat × List Pg))(x:Nat):List (Nat × List Pg):=L.filter fun q=>!(q.1==x)
def qG(L:List (Nat × List Pg))(x:Nat)(o:List Pg):List (Nat × List Pg):=(x,o) :: yC L x
def Uniq(L:List (Nat × List Pg)):Prop:=L.Pairwise fun a b=>a.1≠b.1
theorem Tq{L:List (Nat × List Pg)}{x:Nat}:iU L x=none↔∀ q∈L,q.1≠x:=by
 unfold iU
 rw [Option.map_eq_none_iff,List.find?_eq_none]
 simp
theorem wO{L:List (Nat × List Pg)}{x:Nat}{o:List Pg}(h:iU L x=some o):(x,o)∈L:=by
 unfold iU at h
 rw [Option.map_eq_some_iff] at h
 obtain⟨⟨y,p⟩,h1,h2⟩:=h
 have h3:=List.find?_some h1
 have h4:=List.mem_of_find?_eq_some h1
 simp only [beq_iff_eq] at h3
 simp only at h2
 rw [←h3,←h2]
 exact h4
theorem Gi{L:List (Nat × List Pg)}(hu:Uniq L){x:Nat}{o:List Pg}(h:(x,o)∈L):iU L x=some o:=by
 induction L with
 | nil=>cases h
 | cons q r ih=>
  obtain⟨h1,h2⟩:=List.pairwise_cons.1 hu
  unfold iU
  rw [List.find?_cons]
  rcases List.mem_cons.1 h with h | h
  ·rw [←h]
   simp
  ·have:=h1 _ h
   have hq:(q.1==x)=false:=by simpa using this
   rw [hq]
   exact ih h2 h
theorem ql(L:List (Nat × List Pg))(x:Nat):iU (yC L x) x=none:=Tq.2 fun q hq=>by
 have:=(List.mem_filter.1 hq).2
 simpa using this
theorem iK{x y:Nat}(h:y≠x):∀ (L:List (Nat × List Pg)),iU (yC L x) y=iU L y
 | []=>rfl
 | q :: r=>by
  have ih:=iK h r
  unfold iU yC at ih ⊢
  rw [List.filter_cons]
  by_cases hq:q.1=x
  ·have hy:(q.1==y)=false:=by rw [hq];simpa using h.symm
   have hx:(!(q.1==x))=false:=by simp [hq]
   rw [hx,List.find?_cons,hy]
   simpa using ih
  ·have hx:(!(q.1==x))=true:=by simpa using hq
   rw [hx]
   simp only [if_true,List.find?_cons]
   cases hy:q.1==y
   ·exact ih
   ·rfl
theorem qj(L:List (Nat × List Pg))(x:Nat)(o:List Pg):iU (qG L x o) x=some o:=by
 unfold iU qG
 rw [List.find?_cons]
 simp
theorem nU{x y:Nat}(h:y≠x)(L:List (Nat × List Pg))(o:List Pg):iU (qG L x o) y=iU L y:=by
 have e:=iK h L
 unfold qG
 unfold iU at e ⊢
 have hx:(x==y)=false:=by simpa using h.symm
 rw [List.find?_cons,hx]
 exact e
theorem Vq:Uniq []:=List.Pairwise.nil
theorem Uniq.del{L:List (Nat × List Pg)}(h:Uniq L)(x:Nat):Uniq (yC L x):=h.filter _
theorem Uniq.put{L:List (Nat × List Pg)}(h:Uniq L)(x:Nat)(o:List Pg):Uniq (qG L x o):=
 List.pairwise_cons.2 ⟨fun q hq=>by
  have:=(List.mem_filter.1 hq).2
  have h2:q.1≠x:=by simpa using this
  exact fun e=>h2 e.symm,h.del x⟩
theorem Td{L:List (Nat × List Pg)}{x:Nat}{q:Nat × List Pg}(h:q∈yC L x):q∈L:=(List.mem_filter.1 h).1
theorem YX{L:List (Nat × List Pg)}{x:Nat}{o:List Pg}{q:Nat × List Pg}(h:q∈qG L x o):q=(x,o)∨q∈L:=by
 rcases List.mem_cons.1 h with h | h
 ·exact .inl h
 ·exact .inr (Td h)
theorem Tt(L:List (Nat × List Pg))(x:Nat):(yC L x).length≤L.length:=List.length_filter_le _ _
theorem Y0(L:List (Nat × List Pg))(x:Nat)(o:List Pg):(qG L x o).length≤L.length+1:=Nat.succ_le_succ (Tt L x)
structure Sv where
 N:Nat
 me:Int
 jC:Int
 up:Bool
 M:List Rw
 L:List (Nat × List Pg)
 seat:Nat→Sat
def sumF(M:List Rw)(L:List (Nat × List Pg)):Nat:=(L.map fun q=>fC M q.1 q.2).sum
def vM(σ:Sv)(x:Nat):List Pg:=(iU σ.L x).getD (dU σ.M x)
def FP(σ:Sv):Int:=(σ.N:Int)-(σ.M.length:Int)-40+((aP σ.M [69]).length:Int)-(sumF σ.M σ.L:Int)
structure Sv.Ok(σ:Sv)(c:Nat):Prop where
 good:Good σ.N σ.M
 few:σ.N≤983
 uniq:Uniq σ.L
 loose:∀ q∈σ.L,Pgs.right q.2=true∧q.1<4294967296
 len:σ.L.length≤c
 seat:∀ k,(σ.seat k).Ok∧(σ.seat k).reply.size≤400
 me:1≤σ.me∧σ.me≤255
 jC:U σ.jC
abbrev Com:=List Rw→List Ch→Int→List Rw→Prop
def qV(M:List Rw)(x:Nat)(o:List Pg)(ch:List Ch):List Ch:=yE x (dU M x) o++ch
def iH(C:Com)(σ:Sv)(x:Nat)(o:List Pg)(ch:List Ch)(e:Int)(σ':Sv):Prop:=
 ∃ M',C σ.M (qV σ.M x o ch) e M'∧σ' = { σ with M:=M',L:=if e=0 then yC σ.L x else σ.L }
def Dc(σ:Sv)(p:Pk):List Pg:=vM σ p.file.toNat
def H8(σ:Sv)(p:Pk):List Pg:=Pgs.zN (Dc σ p) p.off p.data.data.toList
def Gg(σ:Sv)(p:Pk):Int:=(fC σ.M p.file.toNat (H8 σ p):Int)-(fC σ.M p.file.toNat (Dc σ p):Int)
def wrE(σ:Sv)(p:Pk):Int:=
 if cur σ.M p.file.toNat p.epoch=false then 17 else if 1024<p.off+(p.data.size:Int) then 15 else if 0<Gg σ p∧FP σ<Gg σ p then 6 else 0
def wrS(σ:Sv)(p:Pk):Sv:=if wrE σ p=0 then { σ with L:=qG σ.L p.file.toNat (H8 σ p) } else σ
def rdE(σ:Sv)(p:Pk):Int:=
 if cur σ.M p.file.toNat p.epoch=false then 17 else if 1024<p.off+p.len∨128<p.len then 15 else 0
def rdD(σ:Sv)(p:Pk):List UInt8:=if rdE σ p=0 then oV (Dc σ p) p.off p.len else []
def Qi(p:Pk):List Ch:=[⟨eK p.file.toNat,be4 p.epoch.toNat,false⟩]
def YA(p:Pk):List Ch:=[⟨eK p.file.toNat,[],true⟩]
def Did(C:Com)(σ:Sv)(p:Pk)(d:List UInt8)(e:Int)(σ':Sv):Prop:=
 if p.code=1 then d = []∧e=wrE σ p∧σ'=wrS σ p
 else if p.code=2 then d=rdD σ p∧e=rdE σ p∧σ'=σ
 else if p.code=3 then d = []∧if cur σ.M p.file.toNat p.epoch=false then e=17∧σ'=σ else iH C σ p.file.toNat (Dc σ p) [] e σ'
 else if p.code=4 then d = []∧if p.frm≠0 then e=1∧σ'=σ else if p.epoch<(epN σ.M p.file.toNat:Int)∨p.epoch=0 then e=17∧σ'=σ else if (epN σ.M p.file.toNat:Int)=p.epoch then e=0∧σ'=σ else iH C σ p.file.toNat (Ia (Dc σ p) (min p.size 1024)) (Qi p) e σ'
 else d = []∧if p.frm≠0 then e=1∧σ'=σ else iH C σ p.file.toNat [] (YA p) e σ'
def takes(σ:Sv)(p:Pk):Prop:=p.Right∧p.kind=1∧p.dst=σ.me∧1≤p.code∧p.code≤5
def iD(σ:Sv)(p:Pk)(d:List UInt8)(e:Int):Pk:=
 ⟨2,σ.me,p.frm,p.life,p.seq,p.asked,σ.jC,p.code,e,p.file,0,0,0,0,0,0,0,⟨#[]⟩,⟨#[]⟩,strOf d⟩
def kJ(σ:Sv)(k:Nat)(s:Sat):Sv:={ σ with seat:=fun j=>if j=k then s else σ.seat j }
def lg(C:Com)(σ:Sv)(p:Pk)(r:Pk)(ok:Bool)(σ':Sv):Prop:=
 ∃ d e σ1,Did C σ p d e σ1 ∧
  ((e=5∧r=zPk∧ok=false∧σ' = { σ1 with up:=false }) ∨
   (e≠5∧r=iD σ p d e∧ok=true∧σ'=kJ σ1 p.frm.toNat (rY (σ.seat p.frm.toNat) p.life p.seq (lM (iD σ p d e)))))
def oL(σ:Sv)(p:Pk):Int:=gq (σ.seat p.frm.toNat) p.life p.seq
def jS(C:Com)(σ:Sv)(p:Pk)(r:Pk)(ok:Bool)(σ':Sv):Prop:=
 (¬(σ.up=true∧takes σ p)∧r=zPk∧ok=false∧σ'=σ) ∨
 ((σ.up=true∧takes σ p)∧p.asked≠σ.jC∧r=iD σ p [] 18∧ok=true∧σ'=σ) ∨
 ((σ.up=true∧takes σ p)∧p.asked=σ.jC∧oL σ p=1∧lg C σ p r ok σ') ∨
 ((σ.up=true∧takes σ p)∧p.asked=σ.jC∧oL σ p=2∧r=zI (σ.seat p.frm.toNat).reply.data.toList∧ok=decide (AX (σ.seat p.frm.toNat).reply.data.toList=0)∧σ'=σ) ∨
 ((σ.up=true∧takes σ p)∧p.asked=σ.jC∧(oL σ p=3∨oL σ p=4)∧r=zPk∧ok=false∧σ'=σ)
end Go.Proofs.YtmelaiefbpdifaaGreatDoor.Srv
namespace Go.Proofs.YtmelaiefbpdifaaGreatDoor.Srv
open Go.RowKit Go.Maps
open Pgs (Pg pgE cO nS nX jm headB find)
def Dy(v:Value):Option (DataW Value × List MemPlace):=some (.held v,[])
theorem aag:Keyed Tryz.prog 49:=int_keyed Tryz.underlying49
theorem ad5(x:Nat)(hx:x<4294967296):(Lit.int .u32 (x:Int)).wf=true:=by
 simp [Lit.wf,IntKind.min,IntKind.max,IntKind.bits,IntKind.signed]
 omega
theorem TG(x:Nat):WideAt.IsKeyLit (Lit.int .u32 (x:Int)):=trivial
theorem Y3(x:Nat)(hx:x<4294967296):keyOf Tryz.prog 49 (.int .u32 (x:Int))=some (.int .u32 (x:Int)):=keyOf_int_mk Tryz.underlying49 (ad5 x hx)
theorem NM{x y:Nat}(h:y≠x):(Lit.int .u32 (y:Int)) ≠ .int .u32 (x:Int):=fun e=>by
 injection e with _ e
 omega
structure fD(w:World)(lb n:Nat)(L:List (Nat × List Pg))(vs:Nat→Value)(D:DataW Value):Prop where
 own:w.ownsMap Tryz.prog 49 Dy lb n D
 has:∀ x:Nat,x<4294967296→Maps.has D (.int .u32 (x:Int))=(iU L x).isSome
 at_:∀ (x:Nat) (o:List Pg),x<4294967296→iU L x=some o→∀ z,D.atKey (.int .u32 (x:Int)) z = .held (vs x)
def Tn(L:List (Nat × List Pg))(vs:Nat→Value)(x:Nat):Value:=if (iU L x).isSome then vs x else .slice none 0 0
section
variable {S:List Nat}{w w':World}{lb n:Nat}{L:List (Nat × List Pg)}{vs:Nat→Value}{D:DataW Value}
theorem fD.lt(h:fD w lb n L vs D):lb<w.heap.size:=World.ownsMap.lt h.own
theorem fD.kept(h:fD w lb n L vs D)(k:Only S w w')(hn:lb∉S):fD w' lb n L vs D:=by
 have hlt:=h.lt
 obtain⟨⟨es,clock,h1,h2⟩,h3,h4⟩:=h
 exact⟨⟨es,clock,(k.block lb hlt hn).trans h1,h2⟩,h3,h4⟩
theorem fD.new(w:World)(vs:Nat→Value):fD (w.alloc (.map #[] 0)) w.heap.size 0 [] vs (.map []):=
 ⟨World.ownsMap_made w _ _ _,fun _ _=>rfl,fun _ _ _ h=>by cases h⟩
theorem fD.mono(h:fD w lb n L vs D){m:Nat}(hm:n≤m):fD w lb m L vs D:=⟨h.own.mono hm,h.has,h.at_⟩
set_option maxRecDepth 100000 in
theorem fD.look_ok(h:fD w lb n L vs D)(x:Nat)(hx:x<4294967296):
  (Instr.lookup 111 (.map (some lb)) (.int .u32 (x:Int)) true).run Tryz.prog w = .ok (.tuple #[Tn L vs x,.bool (iU L x).isSome]) w:=by
 have hz:(zeroValue 57).run Tryz.prog w = .ok (.slice none 0 0) w:=by kernel_rfl
 obtain⟨v,ps,h1,h2⟩:=World.ownsMap.look_ok h.own aag Tryz.underlying111 hz (zd:=.held (.slice none 0 0)) (zp:=[]) rfl (Y3 x hx)
 rw [h1,h.has x hx]
 unfold Dy at h2
 injection h2 with h2
 injection h2 with h2 _
 unfold Tn
 cases hl:iU L x with
 | none=>
  rw [Maps.atKey_of_not_has (by rw [h.has x hx,hl];rfl)] at h2
  injection h2 with h2
  rw [h2];rfl
 | some o=>
  rw [h.at_ x o hx hl] at h2
  injection h2 with h2
  rw [h2];rfl
theorem fD.VY(h:fD w lb n L vs D)(x:Nat)(hx:x<4294967296)(v:Value)(o:List Pg)(hown:w'.ownsMap Tryz.prog 49 Dy lb (n+1) (D.put (.int .u32 (x:Int)) (.held v))):
  fD w' lb (n+1) (qG L x o) (fun y=>if y=x then v else vs y) (D.put (.int .u32 (x:Int)) (.held v)):=by
 have hm:=World.ownsMap.isMap h.own
 refine⟨hown,fun y hy=> ?_,fun y q hy hq z=> ?_⟩
 ·by_cases hyx:y=x
  ·subst hyx
   rw [Maps.has_put_same hm (TG y),qj];rfl
  ·rw [Maps.has_put_other (NM hyx),nU hyx]
   exact h.has y hy
 ·by_cases hyx:y=x
  ·subst hyx
   rw [Maps.atKey_put_same hm (TG y),if_pos rfl]
  ·rw [Maps.atKey_put_other (NM hyx),if_neg hyx]
   rw [nU hyx] at hq
   exact h.at_ y q hy hq z
theorem fD.XQ(h:fD w lb n L vs D)(x:Nat)(hown:w'.ownsMap Tryz.prog 49 Dy lb n (D.del (.int .u32 (x:Int)))):
  fD w' lb n (yC L x) vs (D.del (.int .u32 (x:Int))):=by
 refine⟨hown,fun y hy=> ?_,fun y q hy hq z=> ?_⟩
 ·by_cases hyx:y=x
  ·subst hyx
   rw [Maps.has_del_same,ql];rfl
  ·rw [Maps.has_del_other (NM hyx),iK hyx]
   exact h.has y hy
 ·by_cases hyx:y=x
  ·subst hyx
   rw [ql] at hq
   cases hq
  ·rw [Maps.atKey_del_other (NM hyx)]
   rw [iK hyx] at hq
   exact h.at_ y q hy hq z
theorem qy{ops:Array Oper}{rest:List Oper}{o:Oper}{a:Act}{Q:Exit→Act→World→Prop}(hg:o.guard=none)(m y v:Operand)(hop:o.op=Op.mapUpdate 111 m y v)
  (hm:a.eval m = .map (some lb)) (h:fD w lb n L vs D) (hn:n≤1048576) (x:Nat) (hx:x<4294967296) (l:List Pg) (u:Value) (hy:a.eval y = .int .u32 (x:Int)) (hv:a.eval v=u)
  (hK:∀ w' D',fD w' lb (n+1) (qG L x l) (fun y=>if y=x then u else vs y) D'→Only [lb] w w'→wpList Tryz.prog ops Q rest (a.put o.dst undef) w'):
  wpList Tryz.prog ops Q (o :: rest) a w:=
 wpList_mapUpdate_in w hg m y v _ hop _ _ aag Tryz.underlying111 Dy lb n D hm h.own (by unfold maxLen;omega) _ _ (.int .u32 (x:Int)) hy hv (Y3 x hx) (.held u) []
  rfl (fun w' h1 h2=>hK w' _ (h.VY x hx u l h1) (lT h2))
end
def seatE(s:Sat):List Value:=[.int .u32 s.life,.int .u32 s.seq,.string s.reply]
def DW(f:Nat→Sat):List Value:=((List.range 256).map fun k=>seatE (f k)).flatten
def jK(σ:Sv)(rp lb:Nat):List Value:=.int .i64 σ.me :: .int .u32 σ.jC :: .bool σ.up :: .pointer (some ⟨rp,0,none⟩) :: .map (some lb) :: DW σ.seat
structure dA(w w1:World)(R:List Nat)(sb p:Nat)(σ:Sv)(s:St)(n:Nat)(f:Bool)(c rp mb lp lb:Nat)(F:List Nat)(vs:Nat→Value)(D:DataW Value):Prop where
 own:Own5 w w1 F rp mb lp p s n f σ.M
 hdr:Blk w1 sb 116 (jK σ rp lb).toArray
 loose:fD w1 lb c σ.L vs D
 lists:∀ x o,iU σ.L x=some o→∃ A k,vs x = .slice A o.length k∧o.length≤k∧Els pgE 2 w1 A o∧∀ a,A=some a→a.block∈R∧a.block∉sb :: lb :: mb :: lp :: F
 ap1:sb≠lb
 ap2:sb∉rp :: mb :: lp :: F
 ap3:lb∉rp :: mb :: lp :: F
 inR:∀ i∈sb :: lb :: rp :: mb :: lp :: F,i∈R
 new:∀ i∈R,w.heap.size≤i∧i<w1.heap.size
 len:s.aA.length=41+σ.N
 ok:σ.Ok c
 few:c≤1000000
def vO(w w1:World)(R:List Nat)(sb p:Nat)(σ:Sv)(s:St)(n:Nat)(f:Bool)(c:Nat):Prop:=∃ rp mb lp lb F vs D,dA w w1 R sb p σ s n f c rp mb lp lb F vs D
section
variable {w w1 w2:World}{R:List Nat}{sb p n c rp mb lp lb:Nat}{σ:Sv}{s:St}{f:Bool}{F:List Nat}{vs:Nat→Value}{D:DataW Value}
theorem dA.beside{S:List Nat}(h:dA w w1 R sb p σ s n f c rp mb lp lb F vs D)(k:Only S w1 w2)(hw:Only [] w w2)(hS:∀ i∈S,i∉R):dA w w2 R sb p σ s n f c rp mb lp lb F vs D:=by
 have hin:∀ i,i∈sb :: lb :: rp :: mb :: lp :: F→i∉S:=fun i hi hm=>hS i hm (h.inR i hi)
 have hmem:∀ i∈rp :: mb :: lp :: F,i∈sb :: lb :: rp :: mb :: lp :: F:=fun i hi=>List.mem_cons_of_mem _ (List.mem_cons_of_mem _ hi)
 have h5:=h.own
 refine⟨⟨h5.own.beside k hw (fun i hi hm=>hin i (hmem i (List.mem_cons_of_mem _ (List.mem_cons_of_mem _ hm))) hi),h5.rows.kept k (hin rp (by simp)) (hin mb (by simp)),h5.ne1,h5.ne2,h5.ne3,h5.out1,h5.Ye,h5.Vh,h5.SI⟩,
  h.hdr.kept k (hin sb (by simp)),h.loose.kept k (hin lb (by simp)),fun x o hx=> ?_,h.ap1,h.ap2,h.ap3,h.inR,fun i hi=>⟨(h.new i hi).1,Nat.lt_of_lt_of_le (h.new i hi).2 k.size⟩,h.len,h.ok,h.few⟩
 obtain⟨A,j,e1,e2,e3,e4⟩:=h.lists x o hx
 exact⟨A,j,e1,e2,e3.kept k (fun a ha hm=>hS _ hm (e4 a ha).1),e4⟩
theorem dA.only(h:dA w w1 R sb p σ s n f c rp mb lp lb F vs D):Only [] w w1:=h.own.own.only
theorem dA.keep(h:dA w w1 R sb p σ s n f c rp mb lp lb F vs D)(k:Only [] w1 w2):dA w w2 R sb p σ s n f c rp mb lp lb F vs D:=h.beside k (h.only.trans k) (by simp)
theorem vO.beside{S:List Nat}(h:vO w w1 R sb p σ s n f c)(k:Only S w1 w2)(hw:Only [] w w2)(hS:∀ i∈S,i∉R):vO w w2 R sb p σ s n f c:=by
 obtain⟨rp,mb,lp,lb,F,vs,D,h⟩:=h
 exact⟨rp,mb,lp,lb,F,vs,D,h.beside k hw hS⟩
theorem vO.keep(h:vO w w1 R sb p σ s n f c)(k:Only [] w1 w2):vO w w2 R sb p σ s n f c:=by
 obtain⟨rp,mb,lp,lb,F,vs,D,h⟩:=h
 exact⟨rp,mb,lp,lb,F,vs,D,h.keep k⟩
theorem vO.only(h:vO w w1 R sb p σ s n f c):Only [] w w1:=by
 obtain⟨rp,mb,lp,lb,F,vs,D,h⟩:=h
 exact h.only
theorem vO.ok(h:vO w w1 R sb p σ s n f c):σ.Ok c:=by
 obtain⟨rp,mb,lp,lb,F,vs,D,h⟩:=h
 exact h.ok
theorem vO.new(h:vO w w1 R sb p σ s n f c):∀ i∈R,w.heap.size≤i∧i<w1.heap.size:=by
 obtain⟨rp,mb,lp,lb,F,vs,D,h⟩:=h
 exact h.new
theorem dA.cells(h:dA w w1 R sb p σ s n f c rp mb lp lb F vs D):w1.cell? ⟨sb,0,none⟩=some (.int .i64 σ.me)∧w1.cell? ⟨sb,1,none⟩=some (.int .u32 σ.jC)∧w1.cell? ⟨sb,2,none⟩=some (.bool σ.up)∧w1.cell? ⟨sb,3,none⟩=some (.pointer (some ⟨rp,0,none⟩))∧w1.cell? ⟨sb,4,none⟩=some (.map (some lb)):=by
 have e:=h.hdr.cell
 refine⟨(e 0).trans ?_,(e 1).trans ?_,(e 2).trans ?_,(e 3).trans ?_,(e 4).trans ?_⟩<;>simp [jK]
theorem dA.val(h:dA w w1 R sb p σ s n f c rp mb lp lb F vs D)(k:List UInt8):(kF σ.M k).length≤200:=by
 unfold kF
 split
 ·rename_i r hr
  exact (h.ok.good.small r (bC hr).1).2.2
 ·simp
theorem dA.RI(h:dA w w1 R sb p σ s n f c rp mb lp lb F vs D):σ.M.length≤983:=Nat.le_trans h.ok.good.length h.ok.few
end
end Go.Proofs.YtmelaiefbpdifaaGreatDoor.Srv
namespace Go.Proofs.YtmelaiefbpdifaaGreatDoor.Pgs
open Go.RowKit Go.Maps
theorem mW(w1:World)(rp mb lp:Nat)(M:List Rw)(hR:gy w1 rp mb lp M)(hS:Sorted M)(hM:M.length≤1048576)(q:List UInt8):
  Calls Tryz.prog 69 #[.pointer (some ⟨rp,0,none⟩),.string (strOf q)] w1 fun e w'=>∃ v,e = .returned v∧fV chE 3 w1 w' v (aP M q):=by
 refine (Ik w1 rp mb lp M q hR hS hM).mono ?_
 rintro e w' ⟨v,he,h1,_⟩
 exact⟨v,he,h1⟩
set_option maxRecDepth 100000 in
set_option maxHeartbeats 2000000 in
theorem yg(w1:World)(rp mb lp:Nat)(M:List Rw)(hR:gy w1 rp mb lp M)(hS:Sorted M)(hM:M.length≤1024)(x:Nat)(hx:x<4294967296):
  Calls Tryz.prog 68 #[.pointer (some ⟨rp,0,none⟩),.int .u32 (x:Int)] w1 fun e w'=>∃ v,e = .returned (.tuple #[v,.int .i64 (XE (mV (aP M (headB x))))])∧Mine pgE 2 138 w1 w' v (ldL (aP M (headB x))):=by
 have Zi:(aP M (headB x)).length≤1024:=by
  have h3:(aP M (headB x)).length≤M.length:=by unfold aP;rw [List.length_map];exact List.length_filter_le _ _
  omega
 have hpre:∀ c∈aP M (headB x),5≤c.key.length:=fun c hc=>by
  obtain⟨r,hr,rfl⟩:=List.mem_map.1 hc
  have:=(nR.1 (List.mem_filter.1 hr).2).1
  exact this
 have zo:=fun W (k:Only [] w1 W)=>mW W rp mb lp M (hR.kept k (by simp) (by simp)) hS (by omega) (headB x)
 have hp:=xW w1 x hx
 have hhs:(strOf (headB x)).size=5:=by rw [aj];rfl
 generalize strOf (headB x)=hd at *
 generalize hU:aP M (headB x)=U at *
 replace hU:=Lib.hid hU
 replace zo:=Lib.hid zo
 replace hpre:=Lib.hid hpre
 have hz0:=(zero_of_info jW).1
 obtain⟨Z,hZ⟩:∃ Z,Z=(ak (zs 1024)).toArray:=⟨_,rfl⟩
 rw [←hZ] at hz0
 have hZ3:Z.size=1024:=by rw [hZ];simp [ak,zs]
 clear hZ hR hS hM
 go_enter Tryz.func68,Tryz.ntmps68
 go_wp2_with fail
 refine hp.mono ?_;rintro e w2 ⟨rfl,k2⟩
 go_wp2_with fail
 refine (zo.out _ k2).mono ?_;rintro e w3 ⟨v,rfl,hne⟩
 obtain⟨B,cb,rfl,hcb,hB,k3,_⟩:=hne
 have k13:=k2.trans k3
 obtain⟨n,hn⟩:∃ n,n=U.length:=⟨_,rfl⟩
 rw [←hn] at Zi hcb ⊢
 have HN:=Lib.hid hn
 clear hn k2 k3 hp
 go_wp2_with fail
 go_loopw [6,18] (fun v i wr=>∃ k:Nat,k≤n∧i = .int .i64 k∧Hid (∀ c∈U.take k,c.key.length=7)∧Mine pgE 2 138 w3 wr v (ldO (U.take k))) (fun _ i _=>n-(intOf i).toNat)
 case atStart=>exact⟨0,Nat.zero_le _,rfl,fun c hc=>by simp at hc,by rw [List.take_zero];exact Mine.start _ _ _ (Only.refl [] w3)⟩
 case round=>
  obtain⟨k,hk,rfl,h7,aG⟩:=hrel
  by_cases hlt:k<n
  ·have hk':k<U.length:=by have:=HN.out;omega
   obtain⟨g,off,rfl,_,hat⟩:=hB.get hk'
   obtain⟨c0,c1,c2⟩:=kT (hat.kept aG.only (by simp)) hk'
   have hnext:=Tv hk'
   have h5:=hpre.out U[k] (List.getElem_mem hk')
   have hmem:U[k]∈U:=List.getElem_mem hk'
   have hstep:U[k].key.length=7→Hid (∀ c∈U.take (k+1),c.key.length=7):=fun he c hc=>by
    rw [List.take_add_one,List.getElem?_eq_getElem hk',List.mem_append] at hc
    rcases hc with hc | hc
    ·exact h7.out c hc
    ·simp at hc;rw [hc];exact he
   have hL:(ldO (U.take k)).length≤1024:=by unfold ldO;rw [List.length_map,List.length_take];omega
   generalize U[k]=ch at *
   obtain⟨ky,vl,gn⟩:=ch
   simp only at c0 c1 c2 h5 hstep
   have hfr:=iy (P:=Tryz.prog) 9 Tryz.underlying9 ky 5 5 .i64 rfl h5
   have hsz:=aj (ky.drop 5)
   rw [List.length_drop] at hsz
   have hpg:Yd ⟨ky,vl,gn⟩=⟨(((ky.getD 5 0).toNat*256+(ky.getD 6 0).toNat:Nat):Int),vl⟩:=rfl
   rw [hpg] at hnext
   generalize ldO (U.take k)=L at *
   generalize hvs:strOf vl=vs at *
   generalize hks:strOf ky=ks at *
   replace hvs:=Lib.hid hvs
   replace hks:=Lib.hid hks
   clear hat hpg
   by_cases h7k:ky.length=7
   ·have hst:=hstep h7k
    rw [Nw h7k] at hfr hsz
    have hns:(strOf [ky.getD 5 0,ky.getD 6 0]).size=2:=by rw [aj];rfl
    have ix0:=bQ (P:=Tryz.prog) 9 Tryz.underlying9 [ky.getD 5 0,ky.getD 6 0] 0 0 .i64 rfl (by simp)
    have ix1:=bQ (P:=Tryz.prog) 9 Tryz.underlying9 [ky.getD 5 0,ky.getD 6 0] 1 1 .i64 rfl (by simp)
    have acY:=UInt8.toNat_lt (ky.getD 5 0)
    have abK:=UInt8.toNat_lt (ky.getD 6 0)
    have hor:=NJ (ky.getD 5 0).toNat (ky.getD 6 0).toNat acY abK
    change ∀ W:World,(Instr.index 9 (.string (strOf [ky.getD 5 0,ky.getD 6 0])) (.int .i64 0)).run Tryz.prog W = .ok (.int .u8 (((ky.getD 5 0).toNat:Nat):Int)) W at ix0
    change ∀ W:World,(Instr.index 9 (.string (strOf [ky.getD 5 0,ky.getD 6 0])) (.int .i64 1)).run Tryz.prog W = .ok (.int .u8 (((ky.getD 6 0).toNat:Nat):Int)) W at ix1
    clear hsz hstep
    generalize strOf [ky.getD 5 0,ky.getD 6 0]=ns at *
    generalize (ky.getD 5 0).toNat=a at *
    generalize (ky.getD 6 0).toNat=b at *
    have hwa:IntKind.i64.wrap (a:Int)=a:=by rw [IntKind.wrap_i64];omega
    have hwb:IntKind.i64.wrap (b:Int)=b:=by rw [IntKind.wrap_i64];omega
    have aea:IntKind.i64.wrap ((a:Int)*256)=(a:Int)*256:=by rw [IntKind.wrap_i64];omega
    replace h7k:=Lib.hid h7k
    replace hnext:=Lib.hid hnext
    have hlow:=Lib.hid (nD aG)
    go_wp2
    obtain⟨W1,hW1⟩:∃ W1,W1=wr.alloc (.cells #[.string ks,.string vs,.bool gn] 133):=⟨_,rfl⟩
    rw [←hW1]
    have k1:Only [] wr W1:=by rw [hW1];exact (Only.refl [] wr).alloc _
    have p1:Blk W1 wr.heap.size 133 #[.string ks,.string vs,.bool gn]:=by rw [hW1];exact Blk.new wr _ _
    have e1:=p1.cell 1
    simp only [List.getElem?_toArray,List.getElem?_cons_zero,List.getElem?_cons_succ] at e1
    obtain⟨q,hq⟩:∃ q,q=wr.heap.size:=⟨_,rfl⟩
    rw [←hq] at e1 ⊢
    have hm1:=aG.keep k1.drew
    have e2:=(Only.refl [] W1).drew.cell e1 (by simp)
    replace hq:=Lib.hid hq
    replace hW1:=Lib.hid hW1
    clear c0 c1 c2 p1 k1 e1 aG
    refine wp_region_held_drew (S:=fun w'=>w'.cell? ⟨q,1,none⟩=some (.string vs)) (by kernel_rfl) e2 (fun hHeld=> ?_)
    generalize W1.drew=wd at *
    refine rwT 0 (u6) hHeld ?_;simp only [rwA]
    refine rwT 1 (.string ns) hHeld ?_;simp only [rwA]
    refine rwY 2 (.int .u8 (a:Int)) hHeld ?_ (hy:=Or.inl ⟨by rfl,fun w' hSw=>(by have i0:=ix0;go_simp)⟩);simp only [rwA]
    refine rwT 3 (.int .i64 (a:Int)) hHeld ?_;simp only [rwA]
    refine rwT 4 (.int .i64 ((a:Int)*256)) hHeld ?_;simp only [rwA]
    refine rwT 5 (.string ns) hHeld ?_;simp only [rwA]
    refine rwY 6 (.int .u8 (b:Int)) hHeld ?_ (hy:=Or.inl ⟨by rfl,fun w' hSw=>(by have i1:=ix1;go_simp)⟩);simp only [rwA]
    refine rwT 7 (.int .i64 (b:Int)) hHeld ?_;simp only [rwA]
    refine rwT 8 (.int .i64 ((a*256+b:Nat):Int)) hHeld ?_;simp only [rwA]
    refine rwT 9 (.pointer (some ⟨q,1,none⟩)) hHeld ?_;simp only [rwA]
    refine rwY 10 (.string vs) hHeld ?_ (hy:=Or.inl ⟨by rfl,fun w' hSw=>(by have hc:=hSw;go_simp)⟩);simp only [rwA]
    refine rwT 11 (.agg #[.int .i64 ((a*256+b:Nat):Int),.string vs]) hHeld ?_;simp only [rwA]
    refine ah 12 rfl (by kernel_rfl) (fun K hK=> ?_)
    go_simp
    have k7:Only [] wd (wd.alloc (.cells #[.int .i64 ((a*256+b:Nat):Int),.string vs] 138)):=(Only.refl [] wd).alloc _
    have e7:=k7.cell e2 (by simp)
    have hm7:=hm1.keep k7
    have b7:Blk (wd.alloc (.cells #[.int .i64 ((a*256+b:Nat):Int),.string vs] 138)) wd.heap.size 138 (pgE ⟨((a*256+b:Nat):Int),vl⟩).toArray:=by
     have:=Blk.new wd 138 (pgE ⟨((a*256+b:Nat):Int),vl⟩).toArray
     simp only [pgE,hvs.out] at this ⊢
     exact this
    go_wp2_with fail
    refine hK.out _ _ e7 (fun hHeld=> ?_)
    clear hK K
    refine ah 13 rfl (by kernel_rfl) (fun K hK=> ?_)
    refine oz rfl _ _ 57 rfl 138 _ 24 cO (by decide) nS Tryz.underlying57 nX rfl u6 L.length L rfl hm7.own wd.heap.size ⟨((a*256+b:Nat):Int),vl⟩ _ rfl b7 (by unfold maxLen;omega) (by omega) ?_
    intro vv w8 h8 g8 a8
    have hm8:=hm7.pushed h8 g8 a8
    have r8:w8.cell? ⟨q,1,none⟩=some (.string vs):=(sS g8).cell e7 (by
     intro hqm
     have h1:=hlow.out q (by simpa using hqm)
     have h2:=hq.out
     omega)
    go_wp2_with fail
    refine hK.out _ _ r8 (fun hHeld=> ?_)
    clear hK K
    refine ah 14 rfl (by kernel_rfl) (fun K hK=> ?_)
    go_simp
    go_wp2_with fail
    refine hK.out _ _ r8 (fun hHeld=> ?_)
    clear hK K
    refine wpAnyH_done (by kernel_rfl) ?_ _
    clear hHeld
    rw [←hnext.out] at hm8
    replace hm8:=Lib.hid hm8
    clear hm7 hm1 b7 h8 g8 a8 e2 e7 r8
    go_wp2
    go_roundw
    case rel=>exact⟨k+1,by omega,by go_num,hst,hm8.out⟩
    case measure=>simp [intOf];omega
   ·have hbad:mV U=false:=by
     unfold mV
     rw [Bool.and_eq_false_iff]
     refine .inl ?_
     apply Bool.eq_false_iff.2
     intro h
     unfold QK at h
     rw [List.all_eq_true] at h
     have:=h _ hmem
     simp only [beq_iff_eq] at this
     exact h7k this
    have hbl:ldL U = []:=by unfold ldL;rw [hbad];rfl
    replace hbad:=Lib.hid hbad
    replace hbl:=Lib.hid hbl
    have hne:¬((strOf (ky.drop 5)).size:Int)=2:=by omega
    generalize strOf (ky.drop 5)=ns at *
    have hfin:=Lib.hid (k13.trans (aG.only.alloc (.cells #[.string ks,.string vs,.bool gn] 133)))
    clear hstep hsz aG
    replace h7k:=Lib.hid h7k
    go_wp2
    go_ret2
    exact⟨_,by rw [hbad.out];rfl,by rw [hbl.out];exact Mine.start _ _ _ hfin.out⟩
  ·have hkn:U.take k=U:=List.take_of_length_le (by have:=HN.out;omega)
   rw [hkn] at aG h7
   have h77:QK U=true:=by
    unfold QK
    rw [List.all_eq_true]
    intro c hc
    simpa using h7.out c hc
   obtain⟨A,ca,rfl,hA,_,_⟩:=lG aG
   have k3r:=aG.only
   have hok:mV U=right (ldO U):=by unfold mV;rw [h77];rfl
   have hll:mV U=true→ldL U=ldO U:=fun h=>by unfold ldL;rw [if_pos h]
   have hl0:mV U=false→ldL U = []:=fun h=>by unfold ldL;rw [h];rfl
   generalize hO:ldO U=O at *
   replace hO:=Lib.hid hO
   obtain⟨m,hm⟩:∃ m,m=O.length:=⟨_,rfl⟩
   have aaL:m≤1024:=by rw [hm,←hO.out];unfold ldO;rw [List.length_map];have:=HN.out;omega
   have g1:=fQ wr A ca m O hm hA (by omega)
   rw [←hm]
   replace hll:=Lib.hid hll
   replace hl0:=Lib.hid hl0
   replace hok:=Lib.hid hok
   clear aG hB h7 hkn h77
   cases hr:right O with
   | false=>
    have hbad:=Lib.hid (hok.out.trans hr)
    have hbl:=Lib.hid (hl0.out hbad.out)
    rw [hr] at g1
    replace hm:=Lib.hid hm
    replace hr:=Lib.hid hr
    go_wp2_with fail
    refine g1.mono ?_;rintro e w5 ⟨rfl,k5⟩
    have hfin:=Lib.hid ((k13.trans k3r).trans k5)
    clear k5 k3r k13
    go_wp2
    go_ret2
    exact⟨_,by rw [hbad.out];rfl,by rw [hbl.out];exact Mine.start _ _ _ hfin.out⟩
   | true=>
    have hgood:=Lib.hid (hok.out.trans hr)
    have hgl:=Lib.hid (hll.out hgood.out)
    have g2:=fun W (h:Els pgE 2 W A O)=>jL W A ca m O hm h hr
    have hbl:=fM hr
    have hpb:=Ee hr
    rw [hr] at g1
    replace hm:=Lib.hid hm
    replace hr:=Lib.hid hr
    generalize body O=b at *
    obtain⟨C,hC⟩:∃ C,C=(ak b).toArray:=⟨_,rfl⟩
    have hone:C.all (·.oneCell')=true:=by rw [hC];exact gQ b
    have hC3:C.size=1024:=by rw [hC];simp [ak,hbl]
    rw [←hC] at g2
    have hs1:(Tryz.prog.info? 146).map (·.size)=some C.size:=by rw [hC3];exact iJ
    have hs2:Z.size=C.size:=hZ3.trans hC3.symm
    replace hs1:=Lib.hid hs1
    replace hs2:=Lib.hid hs2
    replace hone:=Lib.hid hone
    replace hC3:=Lib.hid hC3
    replace hC:=Lib.hid hC
    replace hbl:=Lib.hid hbl
    replace hpb:=Lib.hid hpb
    replace g2:=Lib.hid g2
    go_wp2_with fail
    refine g1.mono ?_;rintro e w5 ⟨rfl,k5⟩
    go_wp2_with fail
    refine (g2.out _ (hA.kept k5 (by simp))).mono ?_;rintro e w6 ⟨rfl,k6⟩
    have k16:=((k13.trans k3r).trans k5).trans k6
    clear k5 k6 k3r k13 hA
    go_wp2_with (refine aS rfl 146 (.tmp 11) (.tmp 49) rfl w6.heap.size Z C rfl rfl (Blk.new w6 _ _) hs1.out hs2.out hone.out ?_;intro w7 h7 k7)
    have hbb:vK w7 w6.heap.size b:=⟨by rw [hC.out] at h7;exact h7,hbl.out⟩
    have k17:=Lib.hid (k16.trans (((Only.refl [] w6).alloc (.cells Z 146)).then k7 (by simp)))
    replace hbb:=Lib.hid hbb
    clear h7 k7 k16
    refine (wI _ _ _ hbb.out).mono ?_;rintro e w8 ⟨v,rfl,hm8⟩
    rw [hpb.out] at hm8
    have hfin:=Lib.hid (Mine.from k17.out hm8)
    clear hm8
    go_wp2
    go_ret2
    exact⟨v,by rw [hgood.out];rfl,by rw [hgl.out];exact hfin.out⟩
end Go.Proofs.YtmelaiefbpdifaaGreatDoor.Pgs
