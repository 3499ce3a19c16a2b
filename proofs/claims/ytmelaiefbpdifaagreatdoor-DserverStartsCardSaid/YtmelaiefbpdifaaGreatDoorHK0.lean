/- Joined: Lay5, Cr13, Long5, Same5, Order5, Keeps5 -/
import Derived.Test.YtmelaiefbpdifaaGreatDoorHGh
import Derived.Deep.Upon
namespace Go.Proofs.YtmelaiefbpdifaaGreatDoor
open Go.RowKit Go.Maps
theorem afO(n:Nat):bM (zeros n)=true:=by
 unfold bM
 rw [List.all_eq_true]
 intro x hx
 have:x=0:=List.eq_of_mem_replicate hx
 subst this
 rfl
theorem aaq(k v:List UInt8)(n:Nat)(h1:1≤k.length)(h2:k.length≤16)(h3:v.length≤200):qE (Dk k v++zeros n)=some (k,v):=by
 have e1:gu (Dk k v++zeros n)=(1,zM k++(zM v++zeros n),0):=by
  unfold gu Dk
  rw [List.append_assoc,List.append_assoc]
  exact Lh 1 _ (by decide)
 have e2:dB (Dk k v++zeros n)=(k,zM v++zeros n,0):=by
  unfold dB
  rw [e1]
  exact afN 16 k _ (by omega) (by omega)
 have e3:dO (Dk k v++zeros n)=(v,zeros n,0):=by
  unfold dO
  rw [e2]
  exact afN 200 v _ (by omega) (by omega)
 have hg:goodD (Dk k v++zeros n)=true:=by
  unfold goodD
  rw [e3,e1,e2]
  simp only [afO,Bool.and_true,beq_self_eq_true,Bool.true_and]
  simp [oM,h1,h2]
 rw [qE,if_pos hg,e2,e3]
theorem Ym:∀ {l:List Sp},(l.map Sp.at_).Nodup→∀ {a b:Sp},a∈l→b∈l→a.at_=b.at_→a=b
 | x :: r,h,a,b,ha,hb,e=>by
  have h':¬x.at_∈r.map Sp.at_∧(r.map Sp.at_).Nodup:=List.nodup_cons.1 h
  rcases List.mem_cons.1 ha with rfl | ha'<;>rcases List.mem_cons.1 hb with rfl | hb'
  ·rfl
  ·exact absurd (List.mem_map.2 ⟨b,hb',e.symm⟩) h'.1
  ·exact absurd (List.mem_map.2 ⟨a,ha',e⟩) h'.1
  ·exact Ym h'.2 ha' hb' e
def Lays(L:List (List UInt8))(M:List Rw):Prop:=∀ j d,L[j]?=some d→(bM d=true∧∀ r∈M,r.at_≠j)∨(bM d=false∧∃ r∈M,r.at_=j∧qE d=some (r.key,r.val))
end Go.Proofs.YtmelaiefbpdifaaGreatDoor
namespace Go.Proofs.YtmelaiefbpdifaaGreatDoor
open Go.RowKit Go.Maps
theorem Nj{s:St}(hl:s.late = [])(k:Nat):bI s k=s.aA.getD k []:=by
 unfold bI
 rw [hl]
 rfl
end Go.Proofs.YtmelaiefbpdifaaGreatDoor
namespace Go.Proofs.YtmelaiefbpdifaaGreatDoor
open Go.RowKit Go.Maps Go.ChangeShapes Go.WideShapes Go.ChangeAt Go.Deep
section
variable {H:Type}{enc:TypeId × Value→H}{w:World}
set_option maxRecDepth 100000 in
theorem SH{v:Value}{fuel:Nat}{x:DataW H × List MemPlace}(h:DataW.trod enc Tryz.prog w 0 (fun _=>true) true fuel 22 [v]=some x):∃ (A:Option Addr) (c:Nat) (l:List Ch),v = .slice A (List.length l) c∧Els chE 3 w A l∧wJ l∧l.length≤9223372036854775807∧l.length≤c:=by
 rcases Ja Tryz.underlying22 Tryz.underlying133 (by kernel_rfl) (by kernel_rfl) (by decide) h with h0 | ⟨A,len,cap,hcs,⟨hm,hcap⟩,hz⟩
 ·injection h0 with h0 _
  exact⟨none,0,[],h0,.inl rfl,by simp [wJ],by simp,by simp⟩
 ·injection hcs with hcs _
  subst hcs
  have hm':len≤9223372036854775807:=by simp only [maxLen] at hm;omega
  rcases hz with rfl | ⟨g,o,rfl,hg,hall⟩
  ·exact⟨A,cap,[],rfl,.inl rfl,by simp [wJ],by simp,by simp⟩
  have each:∀ i,i<len→∃ x:Ch,(w.cell? ⟨g,o+i*3,none⟩=some (.string (strOf x.key))∧w.cell? ⟨g,o+i*3+1,none⟩=some (.string (strOf x.val))∧w.cell? ⟨g,o+i*3+2,none⟩=some (.bool x.gone))∧x.key.length≤9223372036854775807∧x.val.length≤9223372036854775807:=by
   intro i hi
   obtain⟨n0,v0,y0,k0,t0⟩:=hall i hi 0 _ rfl
   obtain⟨n1,v1,y1,k1,t1⟩:=hall i hi 1 _ rfl
   obtain⟨n2,v2,y2,k2,t2⟩:=hall i hi 2 _ rfl
   obtain⟨s0,e0,_,w0⟩:=DataW.trod_string Tryz.underlying9 t0
   obtain⟨s1,e1,_,w1⟩:=DataW.trod_string Tryz.underlying9 t1
   obtain⟨b,e2,_⟩:=DataW.trod_bool Tryz.underlying4 t2
   injection e0 with e0 _;injection e1 with e1 _;injection e2 with e2 _
   subst e0;subst e1;subst e2
   have hlen:∀ s:ByteArray,s.data.toList.length=s.size:=fun s=>by rw [Array.length_toList];rfl
   refine⟨⟨s0.data.toList,s1.data.toList,b⟩,⟨?_,?_,k2⟩,?_,?_⟩
   ·simp only [mX]
    simpa using k0
   ·simp only [mX]
    simpa using k1
   ·simp only [maxLen] at w0
    simp only [hlen]
    omega
   ·simp only [maxLen] at w1
    simp only [hlen]
    omega
  obtain⟨f,hf'⟩:=choose_lt each
  refine⟨_,cap,(List.range len).map f,by simp,.inr ⟨g,o,rfl,hg,fun j hj i v hv=> ?_⟩,?_,by rw [List.length_map,List.length_range];exact hm',by rw [List.length_map,List.length_range];exact hcap⟩
  ·have e:((List.range len).map f)[j]=f j:=by simp
   rw [e] at hv
   obtain⟨⟨q0,q1,q2⟩,_⟩:=hf' j (by simpa using hj)
   match i,hv with
   | 0,hv=>simp [chE] at hv;subst hv;exact q0
   | 1,hv=>simp [chE] at hv;subst hv;exact q1
   | 2,hv=>simp [chE] at hv;subst hv;exact q2
   | i+3,hv=>simp [chE] at hv
  ·intro x hx
   simp only [List.mem_map,List.mem_range] at hx
   obtain⟨i,hi,rfl⟩:=hx
   exact (hf' i hi).2
set_option maxRecDepth 100000 in
theorem Wi{v:Value}{d:DataW H}{ps:List MemPlace}{r:Reach}{b0:Nat}(hv:Value.okWide Tryz.prog w r b0 22 v)(h:DataW.Trod enc Tryz.prog w 0 (fun _=>true) true 22 v d ps):
  ∃ A c l,v = .slice A (List.length l) c∧Els chE 3 w A l∧wJ l∧l.length≤9223372036854775807∧l.length≤c:=by
 obtain⟨A,len,cap,rfl⟩:=okWide_slice Tryz.underlying22 hv
 obtain⟨fuel,hf⟩:=h
 exact SH (by simpa [Value.cells] using hf)
end
end Go.Proofs.YtmelaiefbpdifaaGreatDoor
namespace Go.Proofs.YtmelaiefbpdifaaGreatDoor
open Go.RowKit Go.Maps
theorem Q9{a b:List UInt8}(h:¬strOf a=strOf b):((strOf a).toList==(strOf b).toList)=false:=by
 rw [beq_toList,beq_eq_false_iff_ne]
 exact fun e=>h (by rw [e])
end Go.Proofs.YtmelaiefbpdifaaGreatDoor
namespace Go.Proofs.YtmelaiefbpdifaaGreatDoor
open Go.RowKit Go.Maps
theorem Fits.perm{l m:List Ch}(h:Fits l)(hp:m.Perm l):Fits m:=
 ⟨by rw [hp.length_eq];exact h.few,hp.symm.pairwise h.keys (fun hab=>Ne.symm hab),fun c hc=>h.small c (hp.mem_iff.1 hc),fun c hc=>h.empty c (hp.mem_iff.1 hc)⟩
section
variable {α:Type}{enc:α→List Value}{k:Nat}{w:World}
theorem zY(hk:∀ x,(enc x).length=k)(h0:0<k){g o:Nat}{l:List α}(h:jq enc k w g o l):∀ j u,(encs enc l)[j]?=some u→w.cell? ((⟨g,o,none⟩:Addr).add j)=some u:=by
 intro j u hu
 rw [addr_add]
 have hj:j<l.length*k:=by
  have:=(List.getElem?_eq_some_iff.1 hu).1
  rwa [mg hk] at this
 have hi:j / k<l.length:=Nat.div_lt_of_lt_mul (by rw [Nat.mul_comm];exact hj)
 have hr:j % k<(enc l[j / k]).length:=by rw [hk];exact Nat.mod_lt _ h0
 have hv:=List.getElem?_eq_getElem hr
 have e:j / k*k+j % k=j:=by rw [Nat.mul_comm];exact Nat.div_add_mod j k
 have h1:=rW hk l (j / k) hi (j % k) _ hv
 rw [e,hu] at h1
 injection h1 with h1
 have h2:=h (j / k) hi (j % k) _ hv
 rw [Nat.add_assoc,e,←h1] at h2
 exact h2
theorem jq.drop{g o:Nat}{l:List α}(h:jq enc k w g o l)(n:Nat):jq enc k w g (o+n*k) (l.drop n):=by
 intro i hi j v hv
 have hi':n+i<l.length:=by simp at hi;omega
 simp only [List.getElem_drop] at hv
 have:=h (n+i) hi' j v hv
 rwa [Nat.add_mul,←Nat.add_assoc] at this
theorem jq.take{g o:Nat}{l:List α}(h:jq enc k w g o l)(n:Nat):jq enc k w g o (l.take n):=by
 intro i hi j v hv
 have hi':i<l.length:=by simp at hi;omega
 simp only [List.getElem_take] at hv
 exact h i hi' j v hv
theorem qw(l m:List α):encs enc (l++m)=encs enc l++encs enc m:=by simp [encs]
variable {P:Program}
theorem bZ(hk:∀ x,(enc x).length=k)(h0:0<k)(h1:∀ x,∀ v∈enc x,v.oneCell'=true){ops:Array Oper}{rest:List Oper}{o:Oper}{a:Act}{Q:Exit→Act→World→Prop}(hgd:o.guard=none)(s y:Operand)(t:TypeId)
  (ho:o.op = .call { callee:=.builtin .append,args:=#[s,y],argTypes:=#[t,t] })
  (e:TypeId) (z:Value) (bytes:Nat) (ht:P.underlying t=some (.slice e)) (hinfo:(P.info? e).map (fun i=>(i.zero,i.size,i.bytes))=some (some z,k,bytes)) (hzs:z.cells.size=k)
  (v:Value) (n:Nat) (xs:List α) (hs:a.eval s=v) (hown:w.ownsRow 0 e k v n (encs enc xs))
  (g p m c:Nat) (ys:List α) (hm:m=ys.length) (hx:a.eval y = .slice (some ⟨g,p,none⟩) m c) (hsrc:jq enc k w g p ys)
  (h63:n+m≤maxLen) (hbytes:(n+m)*bytes≤140737488355328)
  (h:∀ v' w',w'.ownsRow 0 e k v' (n+m) (encs enc (xs++ys))→w.grownBy w' v.ownBlock→(v'.ownBlock=v.ownBlock∨v'.ownBlock=some w.heap.size)→wpList P ops Q rest (a.put o.dst v') w'):wpList P ops Q (o :: rest) a w:=by
 subst hm
 refine wpList_plain hgd fun K hK=> ?_
 obtain⟨i,hi,hz0,hz1,hz2⟩:=info_parts hinfo
 obtain⟨v',w',hrun,h2,h3,_,h4⟩:=run_append_own_at (P:=P) w 0 t o.type e i z k bytes ht hi hz0 hz1 hz2 hzs h0 v n (encs enc xs) hown ⟨g,p,none⟩ ys.length c (encs enc ys) (mg hk ys) (zY hk h0 hsrc) (GZ h1 ys) h63 hbytes (Nat.zero_le _)
 rw [←qw] at h2
 unfold Oper.wp execOp
 simp only [ho,resolve,invoke,builtin,Sem.run_bind,Sem.run_pure,Result.andThen_ok,List.map_toArray,List.map_cons,List.map_nil,hs,hx,hrun]
 exact hK _ _ (h v' w' h2 h3 h4)
end
end Go.Proofs.YtmelaiefbpdifaaGreatDoor
namespace Go.Proofs.YtmelaiefbpdifaaGreatDoor
open Go.RowKit Go.Maps
section
variable {α:Type}{enc:α→List Value}{k:Nat}{w:World}{P:Program}
theorem dI(hk:∀ x,(enc x).length=k)(h0:0<k)(h1:∀ x,∀ v∈enc x,v.oneCell'=true){ops:Array Oper}{rest:List Oper}{o:Oper}{a:Act}{Q:Exit→Act→World→Prop}(hgd:o.guard=none)(s y:Operand)(t:TypeId)
  (ho:o.op = .call { callee:=.builtin .append,args:=#[s,y],argTypes:=#[t,t] })
  (e:TypeId) (z:Value) (bytes:Nat) (ht:P.underlying t=some (.slice e)) (hinfo:(P.info? e).map (fun i=>(i.zero,i.size,i.bytes))=some (some z,k,bytes)) (hzs:z.cells.size=k)
  (v:Value) (n:Nat) (xs:List α) (hs:a.eval s=v) (hown:w.ownsRow 0 e k v n (encs enc xs))
  (A:Option Addr) (c:Nat) (ys:List α) (hx:a.eval y = .slice A ys.length c) (hsrc:Els enc k w A ys)
  (h63:n+ys.length≤maxLen) (hbytes:(n+ys.length)*bytes≤140737488355328)
  (h:∀ v' w',w'.ownsRow 0 e k v' (n+ys.length) (encs enc (xs++ys))→w.grownBy w' v.ownBlock→(v'.ownBlock=v.ownBlock∨v'.ownBlock=some w.heap.size)→wpList P ops Q rest (a.put o.dst v') w'):wpList P ops Q (o :: rest) a w:=by
 rcases hsrc with hnil | ⟨g,p,rfl,hg,hat⟩
 ·subst hnil
  refine wpList_plain hgd fun K hK=> ?_
  obtain⟨i,hi,hz0,hz1,hz2⟩:=info_parts hinfo
  have hsrc:Src P i.size t (.slice A 0 c) 0 [] w:=by
   cases A with
   | none=>exact Src.ofNil w ht c
   | some a=>exact Src.ofSlice w ht a 0 c [] (by simp) (fun j u hj=>by simp at hj) (fun _ h=>by cases h)
  have hrun:(Builtin.append_ #[t,t] o.type #[v,.slice A 0 c]).run P w = .ok v w:=by
   rcases id hown.2 with⟨rfl,rfl⟩ | ⟨g,cap,cur,rfl,_,_,hnc,_⟩
   ·exact run_append_nothing w t t o.type e i ht hi none 0 0 (Nat.le_refl _) _ hsrc
   ·exact run_append_nothing w t t o.type e i ht hi _ n cap hnc _ hsrc
  simp only [List.length_nil] at hx
  unfold Oper.wp execOp
  simp only [ho,resolve,invoke,builtin,Sem.run_bind,Sem.run_pure,Result.andThen_ok,List.map_toArray,List.map_cons,List.map_nil,hs,hx,hrun]
  exact hK _ _ (h v w (by simpa using hown) (World.grownBy.refl _ _) (.inl rfl))
 ·exact bZ hk h0 h1 hgd s y t ho e z bytes ht hinfo hzs v n xs hs hown g p ys.length c ys rfl hx hat h63 hbytes h
end
theorem Only.frozen{S:List Nat}{w w':World}(h:Only S w w'){p:Addr}(hp:p.block<w.heap.size)(hS:p.block∉S):w'.frozen? p=w.frozen? p:=by
 unfold World.frozen?
 rw [h.block p.block hp hS]
def Kt(w:World)(g o n:Nat):Prop:=∀ i,i<n→(w.cell? ⟨g,o+i,none⟩).isSome=true∧w.frozen? ⟨g,o+i,none⟩=false
theorem Kt.put{w:World}{g o n:Nat}(h:Kt w g o n)(i:Nat)(u:Value):Kt (w.setCell ⟨g,i,none⟩ u) g o n:=fun j hj=>
 ⟨World.isSome_setCells g [u] i w ⟨g,o+j,none⟩ (h j hj).1,(World.frozen?_setCells g [u] i w ⟨g,o+j,none⟩).trans (h j hj).2⟩
theorem Kt.drew{w:World}{g o n:Nat}(h:Kt w g o n)(q:Nat):Kt (w.drewN q) g o n:=fun j hj=>by
 have:=h j hj
 simpa using this
theorem Kt.at{w:World}{g o n:Nat}(h:Kt w g o n){i:Nat}(hi:i<n):∃ v,w.cell? ⟨g,o+i,none⟩=some v:=Option.isSome_iff_exists.1 (h i hi).1
end Go.Proofs.YtmelaiefbpdifaaGreatDoor
