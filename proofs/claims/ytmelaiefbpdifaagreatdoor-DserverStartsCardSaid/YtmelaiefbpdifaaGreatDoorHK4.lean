/- Joined: Pl5, Pl6, Rd5, Rw5 -/
import Derived.Test.YtmelaiefbpdifaaGreatDoorHK3
import Derived.Test.YtmelaiefbpdifaaGreatDoorHK1
import Derived.Test.YtmelaiefbpdifaaGreatDoorHK2
namespace Go.Proofs.YtmelaiefbpdifaaGreatDoor
open Go.RowKit Go.Maps
structure mO where
 now:List Rw
 used:List Bool
 texts:List (List UInt8)
 turned:List Bool
def qX(N:Nat)(M:List Rw):mO:=⟨M,tkL N M,List.replicate N [],List.replicate N false⟩
def D8(st:mO)(c:Ch):mO:=if c.gone then match aK st.now c.key with
 | none=>st
 | some r=>⟨vN st.now c.key,st.used.set r.at_ false,st.texts.set r.at_ [],st.turned.set r.at_ true⟩ else st
def jG(u:List Bool):Nat:=(u.takeWhile id).length
def FV(st:mO)(c:Ch):Option mO:=if c.gone then some st else match aK st.now c.key with
 | some r=>if r.val=c.val then some st else some ⟨wG st.now ⟨c.key,c.val,r.at_⟩,st.used,st.texts.set r.at_ (yV c.key c.val),st.turned.set r.at_ true⟩
 | none=>if jG st.used=st.used.length then none else
  some ⟨xI ⟨c.key,c.val,jG st.used⟩ st.now,st.used.set (jG st.used) true,st.texts.set (jG st.used) (yV c.key c.val),st.turned.set (jG st.used) true⟩
def lS:mO→List Ch→Option mO
 | st,[]=>some st
 | st,c :: r=>match FV st c with
  | none=>none
  | some st'=>lS st' r
def vF(st:mO)(k:Nat):List Bk:=((List.range k).filter fun i=>st.turned.getD i false).map fun i:Nat=>⟨(i:Int),st.texts.getD i []⟩
def tZ(N:Nat)(M:List Rw)(l:List Ch):Option (List Rw × List Bk):=match lS (l.foldl D8 (qX N M)) l with
 | none=>none
 | some st=>some (st.now,vF st N)
theorem D6:∀ (l:List Ch) (st:mO) (c:Ch),lS st (l++[c])=match lS st l with
  | none=>none
  | some st'=>FV st' c
 | [],st,c=>by
  simp only [List.nil_append,lS]
  cases FV st c<;>rfl
 | x :: r,st,c=>by
  simp only [List.cons_append,lS]
  cases FV st x with
  | none=>rfl
  | some st'=>exact D6 r st' c
theorem D5(l:List Ch)(st:mO)(k:Nat)(h:k<l.length):lS st (l.take (k+1))=match lS st (l.take k) with
  | none=>none
  | some st'=>FV st' l[k]:=by
 rw [List.take_add_one,List.getElem?_eq_getElem h]
 exact D6 _ _ _
theorem D7:∀ (l:List Ch) (st:mO) (k:Nat),lS st (l.take k)=none→lS st l=none
 | [],st,k,h=>by simpa using h
 | x :: r,st,0,h=>by simp [lS] at h
 | x :: r,st,k+1,h=>by
  simp only [List.take_succ_cons,lS] at h ⊢
  cases hp:FV st x with
  | none=>rfl
  | some st'=>
   rw [hp] at h
   exact D7 r st' k h
theorem Qw(st:mO)(k:Nat):vF st (k+1)=if st.turned.getD k false then vF st k++[⟨(k:Int),st.texts.getD k []⟩] else vF st k:=by
 unfold vF
 rw [List.range_succ,List.filter_append,List.map_append]
 cases hb:st.turned.getD k false with
 | false=>rw [show [k].filter (fun i=>st.turned.getD i false) = [] from List.filter_cons_of_neg (p:=fun i=>st.turned.getD i false) (by simp only [hb];decide)];simp
 | true=>rw [show [k].filter (fun i=>st.turned.getD i false) = [k] from List.filter_cons_of_pos (p:=fun i=>st.turned.getD i false) hb];simp
structure Nq(N B:Nat)(st:mO):Prop where
 sorted:Sorted st.now
 jE:∀ r∈st.now,r.at_<N
 len:st.now.length≤B
 Vj:st.used.length=N
 QF:st.texts.length=N
 lenV:st.turned.length=N
 small:∀ d∈st.texts,d.length≤248
theorem Pv{N:Nat}{M:List Rw}(hs:Sorted M)(ha:∀ r∈M,r.at_<N):Nq N M.length (qX N M):=
 ⟨hs,ha,Nat.le_refl _,by simp [qX,tkL],by simp [qX],by simp [qX],by
  intro d hd
  have:d = []:=List.eq_of_mem_replicate hd
  rw [this]
  simp⟩
theorem qh{α:Type}{l:List α}{i:Nat}{a x:α}(h:x∈l.set i a):x∈l∨x=a:=List.mem_or_eq_of_mem_set h
theorem Sz{N B:Nat}{st:mO}(h:Nq N B st)(c:Ch):Nq N B (D8 st c):=by
 unfold D8
 split
 ·split
  ·exact h
  ·refine⟨uK h.sorted _,fun r hr=>h.jE r (zT.1 hr).1,Nat.le_trans (List.length_filter_le _ _) h.len,by simp [h.Vj],by simp [h.QF],by simp [h.lenV],fun d hd=> ?_⟩
   rcases qh hd with hd | rfl
   ·exact h.small d hd
   ·simp
 ·exact h
theorem Ut(u:List Bool):jG u≤u.length:=(List.takeWhile_sublist id).length_le
theorem rU:∀ (u:List Bool) (a:Nat),(∀ j,j<a→u[j]?=some true)→(u[a]?=some false∨a=u.length)→jG u=a
 | [],a,h1,h2=>by
  rcases h2 with h2 | h2
  ·simp at h2
  ·rw [h2];rfl
 | b :: r,0,h1,h2=>by
  rcases h2 with h2 | h2
  ·simp at h2
   subst h2
   rfl
  ·simp at h2
 | b :: r,a+1,h1,h2=>by
  have hb:=h1 0 (by omega)
  simp at hb
  subst hb
  have ih:=rU r a (fun j hj=>by have:=h1 (j+1) (by omega);simpa using this) (by simpa using h2)
  unfold jG at ih ⊢
  simp [ih]
theorem Sj{N B:Nat}{st st':mO}(h:Nq N B st){c:Ch}(hk:c.key.length≤16)(hv:c.val.length≤200)(hp:FV st c=some st'):Nq N (B+1) st':=by
 have hpl:(yV c.key c.val).length≤248:=by rw [Bd hk hv];omega
 unfold FV at hp
 split at hp
 ·injection hp with hp;subst hp
  exact⟨h.sorted,h.jE,by have:=h.len;omega,h.Vj,h.QF,h.lenV,h.small⟩
 ·split at hp
  ·rename_i r hf
   split at hp
   ·injection hp with hp;subst hp
    exact⟨h.sorted,h.jE,by have:=h.len;omega,h.Vj,h.QF,h.lenV,h.small⟩
   ·injection hp with hp;subst hp
    refine⟨Ar h.sorted _,fun x hx=> ?_,?_,h.Vj,by simp [h.QF],by simp [h.lenV],fun d hd=> ?_⟩
    ·rcases zS.1 hx with rfl | hx
     ·exact h.jE r (bC hf).1
     ·exact h.jE x hx.1
    ·have h1:=VZ h.sorted (x:=⟨c.key,c.val,r.at_⟩) hf
     have h2:=h.len
     show (wG st.now ⟨c.key,c.val,r.at_⟩).length≤B+1
     omega
    ·rcases qh hd with hd | rfl
     ·exact h.small d hd
     ·exact hpl
  ·rename_i hf
   split at hp
   ·cases hp
   ·rename_i hne
    have hfl:=Ut st.used
    have hu:=h.Vj
    injection hp with hp;subst hp
    refine⟨pJ h.sorted (dJ.1 hf),fun x hx=> ?_,?_,by simp [hu],by simp [h.QF],by simp [h.lenV],fun d hd=> ?_⟩
    ·rcases nG.1 hx with rfl | hx
     ·show jG st.used<N
      omega
     ·exact h.jE x hx
    ·rw [jR];have:=h.len;omega
    ·rcases qh hd with hd | rfl
     ·exact h.small d hd
     ·exact hpl
theorem Ce{M:List Rw}{c:Ch}{k:List UInt8}(h:c.gone=true→c.key≠k):aK (qK M c) k=aK M k:=by
 unfold qK
 split
 ·rename_i hg
  have hne:=h hg
  unfold aK vN
  induction M with
  | nil=>rfl
  | cons y r ih=>
   by_cases hy:y.key=c.key
   ·rw [List.filter_cons_of_neg (by simp [hy]),List.find?_cons_of_neg (by simp [hy];exact hne),ih]
   ·rw [List.filter_cons_of_pos (by simp [hy])]
    by_cases hyk:y.key=k
    ·rw [List.find?_cons_of_pos (by simp [hyk]),List.find?_cons_of_pos (by simp [hyk])]
    ·rw [List.find?_cons_of_neg (by simp [hyk]),List.find?_cons_of_neg (by simp [hyk]),ih]
 ·rfl
theorem JR:∀ (l:List Ch) (M:List Rw) (k:List UInt8),(∀ c∈l,c.key≠k)→aK (l.foldl qK M) k=aK M k
 | [],_,_,_=>rfl
 | c :: r,M,k,h=>by
  rw [List.foldl_cons,JR r _ k (fun x hx=>h x (by simp [hx])),Ce (fun _=>h c (by simp))]
theorem JQ(x:Rw)(k:List UInt8)(h:x.key≠k):∀ M:List Rw,aK (xI x M) k=aK M k
 | []=>by simp [xI,aK,h]
 | y :: r=>by
  unfold xI
  split
  ·unfold aK
   rw [List.find?_cons_of_neg (by simp [h])]
  ·have ih:=JQ x k h r
   unfold aK at ih ⊢
   by_cases hy:y.key=k
   ·rw [List.find?_cons_of_pos (by simp [hy]),List.find?_cons_of_pos (by simp [hy])]
   ·rw [List.find?_cons_of_neg (by simp [hy]),List.find?_cons_of_neg (by simp [hy]),ih]
theorem Uu{M:List Rw}{s:Sp}{k:List UInt8}(h:s.ch.key≠k):aK (qW M s) k=aK M k:=by
 unfold qW
 split
 ·rfl
 ·unfold wG
  rw [JQ _ _ (by exact h)]
  have:=Ce (M:=M) (c:=⟨s.ch.key,[],true⟩) (k:=k) (fun _=>h)
  unfold qK at this
  rw [if_pos rfl] at this
  exact this
theorem JO:∀ (S:List Sp) (M:List Rw) (k:List UInt8),(∀ s∈S,s.ch.key≠k)→aK (S.foldl qW M) k=aK M k
 | [],_,_,_=>rfl
 | c :: r,M,k,h=>by
  rw [List.foldl_cons,JO r _ k (fun x hx=>h x (by simp [hx])),Uu (h c (by simp))]
theorem Vu(M:List Rw)(N:Nat)(L:List Ch)(c:Ch)(hc:c.gone=true)(ha:atL M c.key<N):tgL M N (L++[c])=(tgL M N L).set (atL M c.key) false:=by
 unfold tgL
 refine (jw ha (fun j hj=> ?_)).symm
 rw [lX,hc]
 by_cases h:atL M c.key=j
 ·subst h;simp
 ·have h':¬j=atL M c.key:=fun e=>h e.symm
  rw [if_neg h']
  have:(atL M c.key==j)=false:=by simpa using h
  rw [this]
  simp
def gtL(M:List Rw)(N:Nat)(l:List Ch):List Bool:=(List.range N).map (jF M l)
theorem Xv(M:List Rw)(N:Nat)(L:List Ch)(c:Ch)(hc:c.gone=true)(ha:atL M c.key<N):gtL M N (L++[c])=(gtL M N L).set (atL M c.key) true:=by
 unfold gtL
 refine (jw ha (fun j hj=> ?_)).symm
 rw [lX,hc]
 by_cases h:atL M c.key=j
 ·subst h;simp
 ·have h':¬j=atL M c.key:=fun e=>h e.symm
  rw [if_neg h']
  have:(atL M c.key==j)=false:=by simpa using h
  rw [this]
  simp
theorem BR(M:List Rw)(L:List Ch)(c:Ch)(hc:c.gone=false)(i:Nat):jF M (L++[c]) i=jF M L i:=by
 rw [lX,hc]
 simp
theorem xZ{M:List Rw}{l:List Ch}{c:Ch}(h:c∈aC M l):c∈l∧fU M c=true:=List.mem_filter.1 h
theorem Jr{l:List Ch}(h:l.Pairwise fun a b=>a.key≠b.key)(k:Nat)(hk:k<l.length):∀ c∈l.take k,c.key≠l[k].key:=by
 intro c hc e
 obtain⟨i,hi,rfl⟩:=List.getElem_of_mem hc
 rw [List.length_take] at hi
 rw [List.getElem_take] at e
 exact (List.pairwise_iff_getElem.1 h) i k (by omega) hk (by omega) e
theorem NI{N:Nat}{M:List Rw}{l:List Ch}(hM:Good N M)(hl:l.Pairwise fun a b=>a.key≠b.key):∀ k,k≤l.length →
  (l.take k).foldl D8 (qX N M)=⟨(aC M (l.take k)).foldl qK M,tgL M N (aC M (l.take k)),List.replicate N [],gtL M N (aC M (l.take k))⟩
 | 0,_=>by
  simp only [List.take_zero,List.foldl_nil,aC,List.filter_nil,QV]
  unfold qX gtL
  congr 1
  apply List.ext_getElem
  ·simp
  ·intro i h1 h2
   simp [jF]
 | k+1,hk=>by
  have hlt:k<l.length:=by omega
  have ih:=NI hM hl k (by omega)
  have hkt:=Jr hl k hlt
  have hfk:=tJ D8 (qX N M) l k hlt
  rw [hfk,ih,yc M l k hlt]
  generalize l[k]=c at *
  have hfind:aK ((aC M (l.take k)).foldl qK M) c.key=aK M c.key:=JR _ _ _ (fun x hx=>hkt x (xZ hx).1)
  unfold D8
  cases hg:c.gone with
  | false=>
   rw [if_neg (by decide)]
   split
   ·rw [List.foldl_append]
    simp only [List.foldl_cons,List.foldl_nil]
    rw [show ∀ X:List Rw,qK X c=X from fun X=>by unfold qK;rw [hg];rfl]
    have e1:tgL M N (aC M (l.take k)++[c])=tgL M N (aC M (l.take k)):=by
     unfold tgL
     refine List.map_congr_left fun i _=> ?_
     rw [BR _ _ _ hg]
    have e2:gtL M N (aC M (l.take k)++[c])=gtL M N (aC M (l.take k)):=by
     unfold gtL
     refine List.map_congr_left fun i _=> ?_
     rw [BR _ _ _ hg]
    rw [e1,e2]
   ·rfl
  | true=>
   rw [if_pos rfl,hfind]
   cases hf:aK M c.key with
   | none=>
    have hn:fU M c=false:=by unfold fU;rw [hg,hf];rfl
    rw [if_neg (by rw [hn];decide)]
   | some r=>
    have hn:fU M c=true:=by unfold fU;rw [hg,hf];rfl
    have ha:atL M c.key=r.at_:=fO hf
    have haN:atL M c.key<N:=by rw [ha];exact hM.jE r (bC hf).1
    rw [if_pos hn,List.foldl_append,Vu M N _ c hg haN,Xv M N _ c hg haN,ha]
    simp only [List.foldl_cons,List.foldl_nil]
    rw [show ∀ X:List Rw,qK X c=vN X c.key from fun X=>by unfold qK;rw [hg];rfl]
    congr 1
    apply List.ext_getElem?
    intro i
    rw [List.getElem?_set]
    split
    ·rename_i hi
     subst hi
     simp only [List.length_replicate]
     rw [if_pos (by omega),List.getElem?_replicate,if_pos (by omega)]
    ·rfl
def QD(T:List (List UInt8))(s:Sp):List (List UInt8):=T.set s.at_ (yV s.ch.key s.ch.val)
def Vg(T:List Bool)(s:Sp):List Bool:=T.set s.at_ true
def KL(N:Nat)(fr:List Nat):List Bool:=(List.range N).map fun i=>!fr.contains i
theorem Aj(N:Nat)(fr:List Nat):(KL N fr).length=N:=by simp [KL]
theorem KJ{N:Nat}{fr:List Nat}{i:Nat}(h:i<N):(KL N fr)[i]?=some (!fr.contains i):=by simp [KL,h]
theorem OL{N a:Nat}{r:List Nat}(h:(a :: r).Pairwise (· < ·))(ha:a<N):jG (KL N (a :: r))=a:=by
 obtain⟨h1,h2⟩:=List.pairwise_cons.1 h
 refine rU _ _ (fun j hj=> ?_) (.inl ?_)
 ·rw [KJ (by omega)]
  have:(a :: r).contains j=false:=by
   rw [Bool.eq_false_iff]
   intro hm
   rcases List.mem_cons.1 (List.contains_iff_mem.1 hm) with rfl | hm
   ·omega
   ·have:=h1 j hm;omega
  rw [this]
  rfl
 ·rw [KJ ha]
  simp
theorem QZ(N:Nat):jG (KL N [])=N:=by
 refine rU _ _ (fun j hj=> ?_) (.inr (Aj _ _).symm)
 rw [KJ hj]
 rfl
theorem Vx{N a:Nat}{r:List Nat}(h:(a :: r).Pairwise (· < ·))(ha:a<N):(KL N (a :: r)).set a true=KL N r:=by
 obtain⟨h1,h2⟩:=List.pairwise_cons.1 h
 unfold KL
 refine jw ha (fun j hj=> ?_)
 by_cases hja:j=a
 ·subst hja
  rw [if_pos rfl]
  have:r.contains j=false:=by
   rw [Bool.eq_false_iff]
   intro hm
   have:=h1 j (List.contains_iff_mem.1 hm)
   omega
  rw [this]
  rfl
 ·rw [if_neg hja]
  have:(a :: r).contains j=r.contains j:=by
   rw [List.contains_cons]
   have:(j==a)=false:=by simpa using hja
   rw [this]
   rfl
  rw [this]
theorem Uo(M:List Rw)(N:Nat)(l:List Ch):(cZ M N l).Pairwise (· < ·):=by
 unfold cZ
 exact List.Pairwise.filter _ List.pairwise_lt_range
theorem Vw(M:List Rw)(N:Nat)(l:List Ch):KL N (cZ M N l)=tgL M N l:=by
 unfold KL tgL
 refine List.map_congr_left fun i hi=> ?_
 have hiN:i<N:=List.mem_range.1 hi
 by_cases hm:i∈cZ M N l
 ·have h1:=(List.mem_filter.1 hm).2
  unfold lY at h1
  rw [List.contains_iff_mem.2 hm]
  cases hx:(Dz M i && !jF M l i) with
  | false=>rfl
  | true=>rw [hx] at h1;cases h1
 ·have h1:(cZ M N l).contains i=false:=by
   rw [Bool.eq_false_iff]
   exact fun h=>hm (List.contains_iff_mem.1 h)
  rw [h1]
  have h2:lY M l i=false:=by
   rw [Bool.eq_false_iff]
   exact fun h=>hm (List.mem_filter.2 ⟨hi,h⟩)
  unfold lY at h2
  cases hx:(Dz M i && !jF M l i) with
  | false=>rw [hx] at h2;cases h2
  | true=>rfl
end Go.Proofs.YtmelaiefbpdifaaGreatDoor
namespace Go.Proofs.YtmelaiefbpdifaaGreatDoor
open Go.RowKit Go.Maps
theorem ET:∀ (l:List Ch) (M:List Rw) (k:List UInt8),(∀ c∈l,c.gone=true→c.key≠k)→aK (l.foldl qK M) k=aK M k
 | [],_,_,_=>rfl
 | c :: r,M,k,h=>by
  rw [List.foldl_cons,ET r _ k (fun x hx=>h x (by simp [hx])),Ce (h c (by simp))]
theorem uH(M:List Rw)(fr:List Nat)(L:List Ch)(c:Ch):aX M fr (L++[c])=uI M (aX M fr L) c:=by
 unfold aX
 rw [List.foldl_append]
 rfl
theorem wM(M:List Rw)(L:List Ch)(c:Ch):iw M (L++[c])=iw M L+if fK M c then 1 else 0:=by
 unfold iw
 rw [List.filter_append,List.length_append]
 congr 1
 cases h:fK M c<;>simp [h]
theorem IB(M:List Rw):∀ (L:List Ch) (acc:List Sp × List Nat) (s:Sp),s∈(L.foldl (uI M) acc).1→s∈acc.1∨s.ch∈L
 | [],_,_,h=>.inl h
 | c :: r,acc,s,h=>by
  rcases IB M r _ s h with h | h
  ·unfold uI at h
   split at h
   ·exact .inl h
   ·split at h
    ·rcases List.mem_append.1 h with h | h
     ·exact .inl h
     ·simp only [List.mem_singleton] at h
      subst h
      exact .inr (by simp)
    ·rcases List.mem_append.1 h with h | h
     ·exact .inl h
     ·simp only [List.mem_singleton] at h
      subst h
      exact .inr (by simp)
  ·exact .inr (by simp [h])
theorem OM{M:List Rw}{fr:List Nat}{L:List Ch}{s:Sp}(h:s∈(aX M fr L).1):s.ch∈L:=by
 rcases IB M L _ s h with h | h
 ·cases h
 ·exact h
theorem KN(M:List Rw)(fr:List Nat)(L:List Ch):(aX M fr L).2=fr.drop (iw M L):=by
 have:=jJ M fr L L.length (Nat.le_refl _)
 rwa [List.take_of_length_le (Nat.le_refl _)] at this
def X7(N:Nat)(M:List Rw)(fr:List Nat)(D:List Rw)(V:List Bool)(ns:List Ch)(o:Option mO):Prop:=
 (iw M ns≤fr.length∧o=some ⟨(aX M fr ns).1.foldl qW D,KL N (fr.drop (iw M ns)),(aX M fr ns).1.foldl QD (List.replicate N []),(aX M fr ns).1.foldl Vg V⟩)∨(fr.length<iw M ns∧o=none)
theorem NH{N:Nat}{M:List Rw}{l:List Ch}(hl:Fits l)(fr:List Nat)(hfr:fr.Pairwise (· < ·))(hfN:∀ a∈fr,a<N)(V:List Bool):∀ k,k≤l.length →
  X7 N M fr ((aC M l).foldl qK M) V (aC M (l.take k)) (lS ⟨(aC M l).foldl qK M,KL N fr,List.replicate N [],V⟩ (l.take k))
 | 0,_=>.inl ⟨by simp [aC,iw],by simp [aC,iw,aX,lS]⟩
 | k+1,hk=>by
  have hlt:k<l.length:=by omega
  have ih:=NH (M:=M) hl fr hfr hfN V k (by omega)
  have hkt:=Jr hl.keys k hlt
  have hmem:=List.getElem_mem hlt
  rw [D5 l _ k hlt,yc M l k hlt]
  generalize hc:l[k]=c at *
  generalize lS ⟨(aC M l).foldl qK M,KL N fr,List.replicate N [],V⟩ (l.take k)=o at *
  rcases ih with⟨hroom,rfl⟩ | ⟨hroom,rfl⟩
  ·have hSk:∀ s∈(aX M fr (aC M (l.take k))).1,s.ch.key≠c.key:=fun s hs=>hkt _ (xZ (OM hs)).1
   have hdrop:=KN M fr (aC M (l.take k))
   have hss:aX M fr (aC M (l.take k))=((aX M fr (aC M (l.take k))).1,fr.drop (iw M (aC M (l.take k)))):=by rw [←hdrop]
   simp only
   cases hg:c.gone with
   | true=>
    have hp:∀ st,FV st c=some st:=fun st=>by unfold FV;rw [if_pos hg]
    rw [hp]
    have hn:fK M c=false:=by unfold fK;rw [hg];rfl
    have hst:∀ x,uI M x c=x:=fun x=>by unfold uI;rw [if_pos hg]
    split
    ·unfold X7
     rw [wM,hn,uH,hst]
     exact .inl ⟨by simpa using hroom,rfl⟩
    ·exact .inl ⟨hroom,rfl⟩
   | false=>
    have hfind:aK ((aX M fr (aC M (l.take k))).1.foldl qW ((aC M l).foldl qK M)) c.key=aK M c.key:=by
     rw [JO _ _ _ hSk]
     refine ET _ _ _ (fun x hx hxg e=> ?_)
     have:=hl.inj (xZ hx).1 hmem e
     subst this
     rw [hg] at hxg
     cases hxg
    unfold FV
    rw [if_neg (show ¬c.gone=true by rw [hg];decide)]
    simp only
    rw [hfind]
    cases hf:aK M c.key with
    | some r=>
     have hv:kF M c.key=r.val:=Ih hf
     have ha:atL M c.key=r.at_:=fO hf
     simp only
     by_cases he:r.val=c.val
     ·have hn:fU M c=false:=by unfold fU;rw [hg,hf,hv,he];simp
      rw [if_pos he,if_neg (show ¬fU M c=true by rw [hn];decide)]
      exact .inl ⟨hroom,rfl⟩
     ·have hn:fU M c=true:=by unfold fU;rw [hg,hf,hv];simpa using he
      have hnc:fK M c=false:=by unfold fK;rw [hg,hf];rfl
      rw [if_neg he,if_pos hn]
      unfold X7
      rw [wM,hnc,uH,hss]
      have hst:∀ x,uI M x c=(x.1++[⟨atL M c.key,c⟩],x.2):=fun x=>by unfold uI;rw [if_neg (by rw [hg];decide),if_pos (by rw [hf];rfl)]
      rw [hst]
      simp only [List.foldl_append,List.foldl_cons,List.foldl_nil]
      refine .inl ⟨by simpa using hroom,?_⟩
      rw [ha]
      have hpf:∀ X:List Rw,qW X ⟨r.at_,c⟩=wG X ⟨c.key,c.val,r.at_⟩:=fun X=>by unfold qW;rw [if_neg (by show ¬c.gone=true;rw [hg];decide)]
      rw [hpf]
      rfl
    | none=>
     have hn:fU M c=true:=by unfold fU;rw [hg,hf];rfl
     have hnc:fK M c=true:=by unfold fK;rw [hg,hf];rfl
     simp only
     rw [if_pos hn,Aj]
     unfold X7
     rw [wM,hnc,uH,hss]
     have hst:∀ x,uI M x c=(x.1++[⟨x.2.headD 0,c⟩],x.2.tail):=fun x=>by unfold uI;rw [if_neg (by rw [hg];decide),if_neg (by rw [hf];decide)]
     rw [hst]
     simp only [if_true]
     by_cases hlen:iw M (aC M (l.take k))<fr.length
     ·have hd:fr.drop (iw M (aC M (l.take k)))=fr[iw M (aC M (l.take k))] :: fr.drop (iw M (aC M (l.take k))+1):=List.drop_eq_getElem_cons hlen
      have hin:fr[iw M (aC M (l.take k))]∈fr:=List.getElem_mem hlen
      have hrise:(fr.drop (iw M (aC M (l.take k)))).Pairwise (· < ·):=List.Pairwise.sublist (List.drop_sublist _ _) hfr
      rw [hd] at hrise ⊢
      have haN:=hfN _ hin
      rw [OL hrise haN,Vx hrise haN,if_neg (by omega)]
      simp only [List.foldl_append,List.foldl_cons,List.foldl_nil,List.headD_cons]
      refine .inl ⟨by omega,?_⟩
      have hpf:∀ X:List Rw,aK X c.key=none→qW X ⟨fr[iw M (aC M (l.take k))],c⟩=xI ⟨c.key,c.val,fr[iw M (aC M (l.take k))]⟩ X:=fun X hX=>by
       unfold qW
       rw [if_neg (by show ¬c.gone=true;rw [hg];decide)]
       exact FT hX
      rw [hpf _ (by rw [hfind];exact hf)]
      rfl
     ·have hd:fr.drop (iw M (aC M (l.take k))) = []:=List.drop_of_length_le (by omega)
      rw [hd,QZ,if_pos rfl]
      exact .inr ⟨by omega,rfl⟩
  ·split
   ·refine .inr ⟨?_,rfl⟩
    rw [wM]
    omega
   ·exact .inr ⟨hroom,rfl⟩
theorem RP{N:Nat}{M:List Rw}{l:List Ch}(hM:Good N M)(hg:∀ x∈l,x.gone=true→(aK M x.key).isSome=true)(h:iw M l≤(cZ M N l).length):bf M l≤(N:Int)-(M.length:Int):=by
 have h2:M.length=(M.filter fun r=>lW l r.key).length+(M.filter fun r=>!lW l r.key).length:=kC _ _
 have h4:((M.filter fun r=>lW l r.key).map Rw.key).length≤((l.filter Ch.gone).map Ch.key).length:=by
  refine kU _ _ (jh (List.Pairwise.filter _ hM.sorted.keys)) (fun k hk=> ?_)
  obtain⟨r,hr,rfl⟩:=List.mem_map.1 hk
  obtain⟨c,hc,hck⟩:=List.any_eq_true.1 (List.mem_filter.1 hr).2
  simp only [Bool.and_eq_true,beq_iff_eq] at hck
  exact List.mem_map.2 ⟨c,List.mem_filter.2 ⟨hc,hck.1⟩,hck.2⟩
 have h3:(cZ M N l++(M.filter fun r=>!lW l r.key).map Rw.at_).length≤(List.range N).length:=by
  have hst:∀ r∈M.filter fun r=>!lW l r.key,r∈M∧∀ c∈l,c.gone=true→c.key≠r.key:=fun r hr=>by
   obtain⟨hr1,hr2⟩:=List.mem_filter.1 hr
   refine⟨hr1,fun c hc hcg e=> ?_⟩
   have:lW l r.key=true:=List.any_eq_true.2 ⟨c,hc,by rw [hcg,e];simp⟩
   rw [this] at hr2
   cases hr2
  refine kU _ _ ?_ (fun i hi=> ?_)
  ·rw [List.nodup_append]
   refine⟨yA _ _ _,jh ?_,fun a ha b hb e=> ?_⟩
   ·refine (List.Pairwise.filter _ hM.sorted.nodup).imp_of_mem ?_
    intro a b ha hb hne e
    exact hne (hM.inj a (hst a ha).1 b (hst b hb).1 e)
   ·subst e
    obtain⟨r,hr,rfl⟩:=List.mem_map.1 hb
    exact jU hM (hst r hr).1 (hst r hr).2 hg ha
  ·rcases List.mem_append.1 hi with hi | hi
   ·exact List.mem_range.2 (wV.1 hi).1
   ·obtain⟨r,hr,rfl⟩:=List.mem_map.1 hi
    exact List.mem_range.2 (hM.jE r (hst r hr).1)
 have h5:=BQ M l
 simp only [List.length_map,List.length_range,List.length_append] at h3 h4
 have h7:Un l=(l.filter Ch.gone).length:=rfl
 omega
theorem yB{i:Nat}:∀ (S:List Sp) (T:List (List UInt8)),(∀ s∈S,s.at_≠i)→(S.foldl QD T)[i]?=T[i]?
 | [],_,_=>rfl
 | s :: r,T,h=>by
  rw [List.foldl_cons,yB r _ (fun x hx=>h x (by simp [hx]))]
  unfold QD
  rw [List.getElem?_set_ne (h s (by simp))]
theorem EP{i:Nat}{s:Sp}:∀ (S:List Sp) (T:List (List UInt8)),s∈S→s.at_=i→(S.map Sp.at_).Nodup→i<T.length→(S.foldl QD T)[i]?=some (yV s.ch.key s.ch.val)
 | [],_,h,_,_,_=>by cases h
 | x :: r,T,h,hi,hn,hT=>by
  rw [List.map_cons,List.nodup_cons] at hn
  rw [List.foldl_cons]
  rcases List.mem_cons.1 h with rfl | h
  ·rw [yB r _ (fun y hy e=>hn.1 (List.mem_map.2 ⟨y,hy,by rw [e,hi]⟩))]
   unfold QD
   rw [hi,List.getElem?_set_self hT]
  ·exact EP r _ h hi hn.2 (by simpa [QD] using hT)
theorem Oh{i:Nat}:∀ (S:List Sp) (T:List Bool),i<T.length→(S.foldl Vg T)[i]?=some (T.getD i false || S.any fun s=>s.at_==i)
 | [],T,h=>by simp [List.getD_eq_getElem?_getD,h]
 | s :: r,T,h=>by
  rw [List.foldl_cons,Oh r _ (by simpa [Vg] using h)]
  congr 1
  unfold Vg
  rw [List.any_cons,List.getD_eq_getElem?_getD,List.getD_eq_getElem?_getD,List.getElem?_set]
  by_cases hs:s.at_=i
  ·subst hs
   simp [h]
  ·rw [if_neg hs]
   have:(s.at_==i)=false:=by simpa using hs
   rw [this]
   simp
theorem ZQ:∀ {a b:List Bk},a.Pairwise (fun x y=>x.at_<y.at_)→b.Pairwise (fun x y=>x.at_<y.at_)→(∀ x,x∈a↔x∈b)→a=b:=by
 intro a b ha hb h
 have na:a.Nodup:=ha.imp fun h e=>by rw [e] at h;omega
 have nb:b.Nodup:=hb.imp fun h e=>by rw [e] at h;omega
 exact List.Perm.eq_of_pairwise (le:=fun x y:Bk=>x.at_<y.at_) (fun x y _ _ h1 h2=>by omega) ha hb ((List.perm_ext_iff_of_nodup na nb).2 h)
theorem Sr{N:Nat}{M:List Rw}{l:List Ch}(hM:Good N M)(hl:Fits l):
  (tZ N M l=none∧(N:Int)-(M.length:Int)<bf M (aC M l)) ∨
  (∃ now out,tZ N M l=some (now,out)∧bf M (aC M l)≤(N:Int)-(M.length:Int)∧(aC M l = []→now=M∧out = []) ∧
   (aC M l≠[]→out≠[]∧∀ ss,Does N M (aC M l) ss→ss.Pairwise (fun a b=>ltS b a=false)→now=jH M (aC M l) ss∧out=ss.map bkP)):=by
 have hnf:=hl.news (M:=M)
 have hng:=ru (M:=M) (l:=l)
 have h1:=NI hM hl.keys l.length (Nat.le_refl _)
 rw [List.take_of_length_le (Nat.le_refl _),←Vw] at h1
 have h2:=NH (M:=M) (N:=N) hl (cZ M N (aC M l)) (Uo _ _ _) (fun a ha=>(wV.1 ha).1) (gtL M N (aC M l)) l.length (Nat.le_refl _)
 rw [List.take_of_length_le (Nat.le_refl _),←h1] at h2
 unfold tZ
 rcases h2 with⟨hroom,h2⟩ | ⟨hroom,h2⟩
 ·rw [h2]
  refine .inr ⟨_,_,rfl,RP hM hng hroom,fun h0=> ?_,fun h0=> ?_⟩
  ·simp only [h0]
   refine⟨rfl,?_⟩
   unfold vF
   rw [List.map_eq_nil_iff,List.filter_eq_nil_iff]
   intro i hi
   have hiN:=List.mem_range.1 hi
   simp [aX,gtL,jF,List.getD_eq_getElem?_getD,hiN]
  ·have hraw:=G5 hM hnf hng hroom
   have key:∀ ss,Does N M (aC M l) ss→ss.Pairwise (fun a b=>ltS b a=false)→(aX M (cZ M N (aC M l)) (aC M l)).1.foldl qW ((aC M l).foldl qK M)=jH M (aC M l) ss∧vF ⟨(aX M (cZ M N (aC M l)) (aC M l)).1.foldl qW ((aC M l).foldl qK M),KL N ((cZ M N (aC M l)).drop (iw M (aC M l))),(aX M (cZ M N (aC M l)) (aC M l)).1.foldl QD (List.replicate N []),(aX M (cZ M N (aC M l)) (aC M l)).1.foldl Vg (gtL M N (aC M l))⟩ N=ss.map bkP:=by
    intro ss hd hsort
    have hself:H7 M N (aC M l)=(aX M (cZ M N (aC M l)) (aC M l)).1++leftG M (aX M (cZ M N (aC M l)) (aC M l)).2 (aC M l):=rfl
    have hG:∀ s∈leftG M (aX M (cZ M N (aC M l)) (aC M l)).2 (aC M l),s.ch.gone=true:=fun s hs=>by
     obtain⟨c,hc,rfl⟩:=List.mem_map.1 hs
     obtain⟨_,h2⟩:=List.mem_filter.1 hc
     simp only [Bool.and_eq_true] at h2
     exact h2.1
    have hlaid:=laid hM hnf hng hroom (aC M l).length (Nat.le_refl _)
    rw [List.take_of_length_le (Nat.le_refl _)] at hlaid
    have hSg:∀ s∈(aX M (cZ M N (aC M l)) (aC M l)).1,s.ch.gone=false:=fun s hs=>by
     have:s.ch∈(aX M (cZ M N (aC M l)) (aC M l)).1.map Sp.ch:=List.mem_map.2 ⟨s,hs,rfl⟩
     rw [hlaid.chs] at this
     simpa using (List.mem_filter.1 this).2
    have hmem:∀ s,s∈ss↔s∈H7 M N (aC M l):=fun s=>hd.raw.mem_iff
    have hS:∀ s∈ss,s.ch.gone=false→s∈(aX M (cZ M N (aC M l)) (aC M l)).1:=fun s hs hsg=>by
     have:=(hmem s).1 hs
     rw [hself] at this
     rcases List.mem_append.1 this with h | h
     ·exact h
     ·rw [hG s h] at hsg;cases hsg
    have hS':∀ s∈(aX M (cZ M N (aC M l)) (aC M l)).1,s∈ss:=fun s hs=>(hmem s).2 (by rw [hself];exact List.mem_append.2 (.inl hs))
    constructor
    ·have e1:jH M (aC M l) (H7 M N (aC M l))=(aX M (cZ M N (aC M l)) (aC M l)).1.foldl qW ((aC M l).foldl qK M):=by
      unfold jH
      rw [hself,List.foldl_append]
      have:∀ (G:List Sp) (X:List Rw),(∀ s∈G,s.ch.gone=true)→G.foldl qW X=X:=by
       intro G
       induction G with
       | nil=>intro X _;rfl
       | cons g t ih=>
        intro X h
        rw [List.foldl_cons]
        have:qW X g=X:=by unfold qW;rw [if_pos (h g (by simp))]
        rw [this]
        exact ih X fun s hs=>h s (by simp [hs])
      exact this _ _ hG
     rw [←e1]
     refine OO (jY hM.sorted) (jY hM.sorted) fun x=> ?_
     rw [gU hraw,gU hd]
     constructor
     ·rintro (⟨s,hs,h⟩ | h)
      ·exact .inl ⟨s,(hmem s).2 hs,h⟩
      ·exact .inr h
     ·rintro (⟨s,hs,h⟩ | h)
      ·exact .inl ⟨s,(hmem s).1 hs,h⟩
      ·exact .inr h
    ·have hlt:ss.Pairwise fun a b=>a.at_<b.at_:=by
      have h1:=List.pairwise_map.1 (List.nodup_iff_pairwise_ne.1 hd.ats)
      refine (h1.and hsort).imp ?_
      intro a b ⟨hne,hle⟩
      have:¬b.at_<a.at_:=by simpa [ltS] using hle
      omega
     have aeY:(gtL M N (aC M l)).length=N:=by simp [gtL]
     have hturn:∀ i,i<N→((aX M (cZ M N (aC M l)) (aC M l)).1.foldl Vg (gtL M N (aC M l))).getD i false=(jF M (aC M l) i || (aX M (cZ M N (aC M l)) (aC M l)).1.any fun s=>s.at_==i):=fun i hi=>by
      rw [List.getD_eq_getElem?_getD,Oh _ _ (by omega)]
      have:(gtL M N (aC M l)).getD i false=jF M (aC M l) i:=by simp [gtL,List.getD_eq_getElem?_getD,hi]
      rw [this]
      rfl
     have htext:∀ s∈ss,((aX M (cZ M N (aC M l)) (aC M l)).1.foldl QD (List.replicate N [])).getD s.at_ []=(bkP s).data:=fun s hs=>by
      have hsN:=hd.jE s hs
      rw [List.getD_eq_getElem?_getD]
      cases hsg:s.ch.gone with
      | false=>
       rw [EP _ _ (hS s hs hsg) rfl hlaid.ats (by simpa using hsN)]
       unfold bkP
       rw [hsg]
       rfl
      | true=>
       rw [yB _ _ (fun x hx e=> ?_)]
       ·unfold bkP
        rw [hsg]
        simp [hsN]
       ·have:=Ym hd.ats (hS' x hx) hs e
        subst this
        rw [hSg x hx] at hsg
        cases hsg
     refine ZQ ?_ ?_ ?_
     ·unfold vF
      rw [List.pairwise_map]
      refine (List.Pairwise.filter _ List.pairwise_lt_range).imp ?_
      intro a b hab
      show (a:Int)<(b:Int)
      omega
     ·rw [List.pairwise_map]
      refine hlt.imp ?_
      intro a b hab
      show (a.at_:Int)<(b.at_:Int)
      omega
     ·intro x
      unfold vF
      simp only [List.mem_map,List.mem_filter,List.mem_range]
      constructor
      ·rintro⟨i,⟨hi,ht⟩,rfl⟩
       rw [hturn i hi,Bool.or_eq_true] at ht
       have:∃ s∈ss,s.at_=i:=by
        rcases ht with ht | ht
        ·obtain⟨c,hc,hca⟩:=List.any_eq_true.1 ht
         simp only [Bool.and_eq_true,beq_iff_eq] at hca
         obtain⟨s,hs,he⟩:=hd.freed c hc hca.1
         exact⟨s,hs,by rw [he,hca.2]⟩
        ·obtain⟨s,hs,he⟩:=List.any_eq_true.1 ht
         exact⟨s,hS' s hs,by simpa using he⟩
       obtain⟨s,hs,rfl⟩:=this
       exact⟨s,hs,by rw [htext s hs];rfl⟩
      ·rintro⟨s,hs,rfl⟩
       have hsN:=hd.jE s hs
       refine⟨s.at_,⟨hsN,?_⟩,by rw [htext s hs];rfl⟩
       rw [hturn _ hsN,Bool.or_eq_true]
       cases hsg:s.ch.gone with
       | false=>exact .inr (List.any_eq_true.2 ⟨s,hS s hs hsg,by simp⟩)
       | true=>exact .inl (List.any_eq_true.2 ⟨s.ch,hd.yF s hs,by rw [hsg,hd.gon s hs hsg];simp⟩)
   refine⟨?_,key⟩
   intro hout
   have hms:=List.mergeSort_perm (H7 M N (aC M l)) (fun a b=>decide (a.at_≤b.at_))
   have hsd:Does N M (aC M l) ((H7 M N (aC M l)).mergeSort fun a b=>decide (a.at_≤b.at_)):=hraw.perm hms
   have hsp:((H7 M N (aC M l)).mergeSort fun a b=>decide (a.at_≤b.at_)).Pairwise (fun a b=>ltS b a=false):=by
    have:=List.pairwise_mergeSort (le:=fun a b:Sp=>decide (a.at_≤b.at_)) (fun a b c h1 h2=>by simp at *;omega) (fun a b=>by simp;omega) (H7 M N (aC M l))
    refine this.imp ?_
    intro a b h
    simp [ltS] at h ⊢
    omega
   have h3:=(key _ hsd hsp).2
   have h4:=ni hnf hsd h0
   have h5:=h4.1
   rw [hout] at h3
   have:=congrArg List.length h3
   simp at this h5
   omega
 ·rw [h2]
  refine .inl ⟨rfl,?_⟩
  refine Decidable.byContradiction fun hn=> ?_
  have:=room hM hnf hng (by omega)
  omega
end Go.Proofs.YtmelaiefbpdifaaGreatDoor
namespace Go.Proofs.YtmelaiefbpdifaaGreatDoor
open Go.RowKit Go.Maps
theorem SA(k v:List UInt8)(n:Nat)(h:n≤248-(Dk k v).length)(h2:248≤(Dk k v).length+n):pU (Dk k v) n=yV k v:=by
 have:n=248-(Dk k v).length:=by omega
 unfold pU yV
 rw [this,AU]
set_option maxRecDepth 100000 in
set_option maxHeartbeats 2000000 in
theorem IW(w:World)(k v:List UInt8)(hk:k.length≤16)(hv:v.length≤200):
  Calls Tryz.prog 150 #[.string (strOf k),.string (strOf v)] w fun e w'=>e = .returned (.string (strOf (yV k v)))∧Only [] w w':=by
 have h1:=fun W=>EL W k (by omega)
 have h2:=fun W=>EL W v (by omega)
 have hn:=fun W=>iW W 1 1 rfl (by decide)
 have hrow:be4 1++(zM k++zM v)=Dk k v:=by rw [←List.append_assoc];rfl
 have hle:=KY hk hv
 have hek:=mD k
 have hev:=mD v
 have hpk:=FY k.length
 have hpv:=FY v.length
 have aaI:=SA k v
 generalize strOf k=ks at *
 generalize strOf v=vs at *
 generalize yV k v=P at *
 replace h1:=Lib.hid h1
 replace h2:=Lib.hid h2
 replace hn:=Lib.hid hn
 replace hrow:=Lib.hid hrow
 replace aaI:=Lib.hid aaI
 have hb4:(be4 1).length=4:=rfl
 generalize hB:be4 1=B at *
 generalize hE:zM k=E at *
 generalize hU:zM v=U at *
 replace hB:=Lib.hid hB
 replace hE:=Lib.hid hE
 replace hU:=Lib.hid hU
 have hl1:B.length+E.length≤9223372036854775807:=by omega
 have hl2:(B++E).length+U.length≤9223372036854775807:=by rw [List.length_append];omega
 replace hb4:=Lib.hid hb4
 replace hek:=Lib.hid hek
 replace hev:=Lib.hid hev
 go_enter Tryz.func150,Tryz.ntmps150
 go_wp2_with fail
 refine (hn.out _).mono ?_
 rintro e w1 ⟨rfl,k1⟩
 go_wp2_with fail
 refine (h1.out _).mono ?_
 rintro e w2 ⟨rfl,k2⟩
 go_wp2_with (refine eP _ rfl 9 9 (.tmp 6) (.tmp 8) rfl B E rfl rfl (by first | exact hl1 | omega) ?_)
 refine (h2.out _).mono ?_
 rintro e w3 ⟨rfl,k3⟩
 go_wp2_with (refine eP _ rfl 9 9 (.tmp 9) (.tmp 11) rfl (B++E) U rfl rfl (by first | exact hl2 | omega) ?_)
 rw [hrow.out]
 have k03:=(k1.trans k2).trans k3
 clear k1 k2 k3 hl1 hl2
 generalize Dk k v=R at *
 go_loopw [5] (fun s wr=>∃ n:Nat,n≤248-R.length∧s = .string (strOf (pU R n))∧wr=w3) (fun s _=>248-strLen s)
 case atStart=>exact⟨0,Nat.zero_le _,by rw [Eb],rfl⟩
 case round=>
  obtain⟨n,hn',rfl,hwr⟩:=hrel
  subst hwr
  have hsz:(strOf (pU R n)).size=R.length+n:=by rw [aj,jd]
  have hlen:=jd R n
  by_cases hlt:R.length+n<248
  ·have abC:=Lib.hid (Ec R n)
   have hmk:=jd R (n+1)
   generalize hy:pU R n=y at *
   replace hy:=Lib.hid hy
   have hlt':(y.length:Int)<248:=by omega
   have hsz':((strOf y).size:Int)<248:=by omega
   replace hlen:=Lib.hid hlen
   replace hsz:=Lib.hid hsz
   replace hmk:=Lib.hid hmk
   replace hn':=Lib.hid hn'
   replace hlt:=Lib.hid hlt
   go_wp2_with (refine eP _ rfl 9 9 (.tmp 16) (.const (.string ⟨#[0]⟩)) rfl y [0] rfl rfl (by have:=hlen.out;have:=hlt.out;simp;omega) ?_)
   go_roundw
   case rel=>exact⟨n+1,by have:=hn'.out;have:=hlt.out;omega,by rw [abC.out],by trivial⟩
   case measure=>have:=hlen.out;have:=hlt.out;simp only [strLen,aj,List.length_append,List.length_cons,List.length_nil];omega
  ·have hge:(248:Int)≤(strOf (pU R n)).size:=by omega
   have hp:=aaI.out n hn' (by omega)
   rw [hp] at hge ⊢
   obtain⟨y,hy⟩:∃ y,y=strOf P:=⟨_,rfl⟩
   rw [←hy] at hge ⊢
   replace hy:=Lib.hid hy
   replace hp:=Lib.hid hp
   clear hsz hlen hlt
   go_wp2
   go_ret
   exact⟨by rw [←hy.out];rfl,k03⟩
theorem LQ(s:List UInt8)(k:Nat)(h:k<s.length):bM (s.take (k+1))=(bM (s.take k) && s[k]==0):=by
 rw [List.take_add_one,List.getElem?_eq_getElem h]
 unfold bM
 rw [List.all_append]
 simp
theorem Ak(a:List UInt8):(strOf a).toList=a:=ByteArray.toList_mk _
set_option maxRecDepth 100000 in
set_option maxHeartbeats 2000000 in
theorem Pe(w:World)(s:List UInt8)(hs:s.length=248):
  Calls Tryz.prog 101 #[.string (strOf s)] w fun e w'=>e = .returned (yU s)∧Only [] w w':=by
 have hsz:(strOf s).size=s.length:=aj s
 have hlI:(s.length:Int)=248:=by omega
 have hidx:=fun i (h:i<s.length)=>ji (P:=Tryz.prog) 9 Tryz.underlying9 s i (i:Int) .i64 rfl h
 have hpz:=Ed (s:=s)
 have hp2:=I5 (s:=s)
 have hpr:=I7 (s:=s)
 have hgi:=Xw (s:=s) hs
 have hgn:=ZA (s:=s)
 have hpart:=DX (s:=s)
 have hn:=fun W p h=>Xx W p s 0 h
 have ht:=fun W p h=>JJ W p (gu s).2.1 (gu s).2.2 16 (by have:=AZ s 0;show (bP s 0).2.1.length≤_;omega) h
 have hu:=fun W p h=>JJ W p (dB s).2.1 (dB s).2.2 200 (by have:=AZ s 0;have:=IY 16 (gu s).2.1 (gu s).2.2;have e:(gu s).2.1.length≤248:=(by show (bP s 0).2.1.length≤_;omega);show (ig 16 (gu s).2.1 (gu s).2.2).2.1.length≤_;omega) h
 have hdat:=fun W (h:(dO s).2.2=0)=>IW W (dB s).1 (dO s).1 (hpart h).2.1 (hpart h).2.2
 change ∀ W p,Rf W p s 0→Calls _ _ _ W (Ku W p (.int .u32 ((gu s).1:Int)) (gu s).2.1 (gu s).2.2) at hn
 change ∀ W p,Rf W p (gu s).2.1 (gu s).2.2→Calls _ _ _ W (Ku W p (.string (strOf (dB s).1)) (dB s).2.1 (dB s).2.2) at ht
 change ∀ W p,Rf W p (dB s).2.1 (dB s).2.2→Calls _ _ _ W (Ku W p (.string (strOf (dO s).1)) (dO s).2.1 (dO s).2.2) at hu
 have hR0:0≤((gu s).1:Int):=by omega
 have htl:∀ x:List UInt8,((strOf x).toList==(strOf s).toList)=(x==s):=fun x=>by rw [Ak,Ak]
 have hke:((strOf (dB s).1).toList = [])↔(dB s).1 = []:=by rw [Ak]
 have hrf:∀ W:World,Rf (W.alloc (.cells #[.string (strOf s),.int .i64 0] 257)) W.heap.size s 0:=fun W=>by exact Blk.new W 257 #[.string (strOf s),.int .i64 0]
 have hzl:=LQ s
 have hall:s.take s.length=s:=List.take_length
 generalize yU s=PV at *
 generalize gu s=R at *
 generalize dB s=K at *
 generalize dO s=V at *
 obtain⟨n,r1,e1⟩:=R
 obtain⟨k,r2,e2⟩:=K
 obtain⟨v,r3,e3⟩:=V
 simp only at *
 generalize hgd:goodD s=gd at *
 replace hgd:=Lib.hid hgd
 generalize strOf k=ks at *
 generalize strOf v=vs at *
 generalize hss:strOf s=ss at *
 replace hss:=Lib.hid hss
 replace hidx:=Lib.hid hidx
 replace hpz:=Lib.hid hpz
 replace hp2:=Lib.hid hp2
 replace hpr:=Lib.hid hpr
 replace hgi:=Lib.hid hgi
 replace hgn:=Lib.hid hgn
 replace hn:=Lib.hid hn
 replace ht:=Lib.hid ht
 replace hu:=Lib.hid hu
 replace hdat:=Lib.hid hdat
 replace htl:=Lib.hid htl
 replace hke:=Lib.hid hke
 replace hrf:=Lib.hid hrf
 replace hzl:=Lib.hid hzl
 replace hall:=Lib.hid hall
 clear hpart
 go_enter Tryz.func101,Tryz.ntmps101
 go_wp2_with fail
 go_loopw [5,6] (fun b i wr=>∃ j:Nat,j≤s.length∧i = .int .i64 j∧b = .bool (bM (s.take j))∧Only [] w wr) (fun _ i _=>s.length-(intOf i).toNat)
 case atStart=>exact⟨0,Nat.zero_le _,rfl,rfl,Only.refl _ _⟩
 case round=>
  obtain⟨j,hj,rfl,rfl,hk⟩:=hrel
  by_cases hlt:j<s.length
  ·have hi:=hidx.out j hlt
   have hz:=hzl.out j hlt
   have afp:(j:Int)<248:=by omega
   generalize s[j]=b at *
   generalize hz2:bM (s.take (j+1))=z2 at *
   replace hz2:=Lib.hid hz2
   generalize bM (s.take j)=z1 at *
   have hb:((b.toNat:Int)==0)=(b==0):=by
    by_cases h0:b=0
    ·subst h0;rfl
    ·have h1:(b==0)=false:=by simpa using h0
     have h2:b.toNat≠0:=fun e=>h0 (UInt8.toNat_inj.1 (by simpa using e))
     rw [h1]
     simp
     omega
   cases z1 with
   | false=>
    have hz':z2=false:=by rw [hz];rfl
    subst hz'
    clear hz hb hi
    go_wp2
    go_roundw
    case rel=>exact⟨j+1,by omega,by go_num,by rw [hz2.out],hk⟩
    case measure=>simp [intOf];omega
   | true=>
    have hz':z2=(b==0):=by rw [hz];rfl
    rw [←hz'] at hb
    clear hz hz'
    cases z2 <;>
    ·go_wp2
     go_roundw
     case rel=>exact⟨j+1,by omega,by go_num,by rw [hz2.out],hk⟩
     case measure=>simp [intOf];omega
  ·obtain rfl:j=s.length:=by omega
   rw [hall.out]
   have hge:¬(s.length:Int)<248:=by omega
   cases hz:bM s with
   | true=>
    have hp:=hpz.out hz
    replace hz:=Lib.hid hz
    replace hp:=Lib.hid hp
    go_wp2
    go_ret3
    exact⟨by rw [hp.out];rfl,hk⟩
   | false=>
    have hz1:¬bM s=true:=by rw [hz];decide
    replace hz:=Lib.hid hz
    replace hz1:=Lib.hid hz1
    go_wp2_with fail
    obtain⟨q,hq⟩:∃ q,q=wr.heap.size:=⟨_,rfl⟩
    have hr0:=hrf.out wr
    have ka:=(Only.refl [] wr).alloc (.cells #[.string ss,.int .i64 0] 257)
    rw [←hq] at hr0
    simp only [←hq]
    have hqw:w.heap.size≤q:=by have:=hk.size;omega
    generalize wr.alloc (.cells #[.string ss,.int .i64 0] 257)=w1 at *
    have k1:=hk.trans ka
    clear ka
    replace hq:=Lib.hid hq
    refine (hn.out _ q hr0).mono ?_
    rintro e w3 ⟨rfl,hr3,k3⟩
    go_wp2_with fail
    refine (ht.out _ q hr3).mono ?_
    rintro e w4 ⟨rfl,hr4,k4⟩
    go_wp2_with fail
    refine (hu.out _ q hr4).mono ?_
    rintro e w5 ⟨rfl,hr5,k5⟩
    have dw:Only [] w w5:=((k1.then k3 (by simp;omega)).then k4 (by simp;omega)).then k5 (by simp;omega)
    have c1:=hr5.c1
    clear hr0 hr3 hr4 hr5 k1 k3 k4 k5 hk
    by_cases h3:e3=0
    ·subst h3
     by_cases hk0:k = []
     ·have hkt:ks.toList = []:=hke.out.2 hk0
      have hg:=hgn.out (.inr hk0)
      have hp:=hp2.out hz1.out hg
      replace hp:=Lib.hid hp
      replace hk0:=Lib.hid hk0
      replace hg:=Lib.hid hg
      go_wp2
      go_ret3
      exact⟨by rw [hp.out];rfl,dw⟩
     ·have hkt:¬ks.toList = []:=fun h=>hk0 (hke.out.1 h)
      have hd:=hdat.out w5 rfl
      have hgg:=hgi.out rfl hk0
      have htd:=htl.out (yV k v)
      have afv:ks.toList.isEmpty=false:=by simpa using hkt
      replace hk0:=Lib.hid hk0
      by_cases hps:yV k v=s
      ·have hg:gd=true:=hgg.2 hps
       have hp:=hpr.out hz1.out hg
       rw [hps,hss.out] at hd
       replace hp:=Lib.hid hp
       replace hg:=Lib.hid hg
       replace hps:=Lib.hid hps
       replace hd:=Lib.hid hd
       clear hgg htd
       go_wp2_with fail
       refine hd.out.mono ?_
       rintro e w6 ⟨rfl,k6⟩
       have Y4:=dw.trans k6
       clear dw k6 c1
       go_wp2
       go_ret3
       exact⟨by rw [hp.out];rfl,Y4⟩
      ·have hg:gd=false:=Bool.eq_false_iff.2 fun h=>hps (hgg.1 h)
       have hp:=hp2.out hz1.out hg
       have htf:((strOf (yV k v)).toList==ss.toList)=false:=by rw [htd];simpa using hps
       generalize strOf (yV k v)=ps at *
       replace hp:=Lib.hid hp
       replace hg:=Lib.hid hg
       replace hps:=Lib.hid hps
       replace hd:=Lib.hid hd
       clear hgg htd
       go_wp2_with fail
       refine hd.out.mono ?_
       rintro e w6 ⟨rfl,k6⟩
       have Y4:=dw.trans k6
       clear dw k6 c1
       go_wp2
       go_ret3
       exact⟨by rw [hp.out];rfl,Y4⟩
    ·have h3':((e3:Int) != 0)=true:=by simp;omega
     have hg:=hgn.out (.inl h3)
     have hp:=hp2.out hz1.out hg
     replace hp:=Lib.hid hp
     replace hg:=Lib.hid hg
     generalize (e3:Int)=y3 at *
     go_wp2
     go_ret3
     exact⟨by rw [hp.out];rfl,dw⟩
end Go.Proofs.YtmelaiefbpdifaaGreatDoor
namespace Go.Proofs.YtmelaiefbpdifaaGreatDoor
open Go.RowKit Go.Maps
set_option maxRecDepth 100000 in
set_option maxHeartbeats 2000000 in
theorem VK(w:World)(v:Value)(x:Rw)(hv:v = .slice none 0 0∨∃ g c,v = .slice (some ⟨g,0,none⟩) 0 c):
  Calls Tryz.prog 103 #[v,.agg (rwE x).toArray] w fun e w'=>∃ v,e = .returned v∧Mine rwE 3 200 w w' v [x]:=by
 have k1:Only [] w (w.alloc (.cells (rwE x).toArray 200)):=(Only.refl [] w).alloc _
 have b1:Blk (w.alloc (.cells (rwE x).toArray 200)) w.heap.size 200 (rwE x).toArray:=Blk.new _ _ _
 have henc:(rwE x).toArray = #[.string (strOf x.key),.string (strOf x.val),.int .i64 (x.at_:Int)]:=rfl
 have q0:=b1.cell 0
 have q1:=b1.cell 1
 have q2:=b1.cell 2
 rw [henc] at q0 q1 q2 k1
 simp only [List.getElem?_toArray,List.getElem?_cons_zero,List.getElem?_cons_succ] at q0 q1 q2
 rw [henc]
 generalize hks:strOf x.key=ks at *
 generalize hvs:strOf x.val=vs at *
 replace hks:=Lib.hid hks
 replace hvs:=Lib.hid hvs
 replace henc:=Lib.hid henc
 clear b1
 rcases hv with rfl | ⟨g,c,rfl⟩
 all_goals
  go_enter Tryz.func103,Tryz.ntmps103
  go_wp2_with fail
  obtain⟨bx,hbx⟩:∃ bx,bx=w.heap.size:=⟨_,rfl⟩
  rw [←hbx] at q0 q1 q2
  simp only [←hbx]
  generalize (w.alloc (.cells #[.string ks,.string vs,.int .i64 (x.at_:Int)] 200))=w1 at *
  replace hbx:=Lib.hid hbx
  go_loopw [5] (fun i wr=>i = .int .i64 0∧Only [] w1 wr) (fun _ _=>0)
  case atStart=>exact⟨rfl,Only.refl _ _⟩
  case round=>
   obtain⟨rfl,aF⟩:=hrel
   have p0:=aF.cell q0 (by simp)
   have p1:=aF.cell q1 (by simp)
   have p2:=aF.cell q2 (by simp)
   go_wp2
   go_quiet (fail)
   have kQ:=aF.drewN nq
   clear p0 p1 p2
   go_wp2_with (at_builtin;go_must (refine dI bH (by decide) iP rfl (.tmp 23) (.tmp 26) 122 rfl 200 (.agg #[.string ⟨#[]⟩,.string ⟨#[]⟩,.int .i64 0]) 40 Tryz.underlying122 iV rfl (.slice none 0 0) 0 [] rfl (World.ownsRow_nil _ 0 _ 3) _ _ [] rfl (.inl rfl) ?c1 ?c2 ?go))
   case c1=>unfold maxLen;simp
   case c2=>simp
   case go=>
   intro v3 w3 hown3 hg3 H9
   have hm3:Mine rwE 3 200 w w3 v3 ([]++[]):=(Mine.start rwE 3 200 (k1.trans kQ)).joined hown3 hg3 H9
   rw [List.append_nil] at hm3
   have k03:=(Only.refl [] _).grown hg3 (fun j hj=>by simp [Value.ownBlock] at hj)
   have s0:=k03.cell (kQ.cell q0 (by simp)) (by simp)
   have s1:=k03.cell (kQ.cell q1 (by simp)) (by simp)
   have s2:=k03.cell (kQ.cell q2 (by simp)) (by simp)
   have b6:Blk (w3.alloc (.cells #[.string ks,.string vs,.int .i64 (x.at_:Int)] 200)) w3.heap.size 200 (rwE x).toArray:=by
    rw [henc.out]
    exact Blk.new _ _ _
   have hm6:=hm3.keep ((Only.refl [] w3).alloc (.cells #[.string ks,.string vs,.int .i64 (x.at_:Int)] 200))
   clear hown3 hg3 H9 hm3 k03
   go_wp2_with (first | (at_builtin;(refine dH rfl _ _ 122 rfl 200 _ 40 bH (by decide) iP Tryz.underlying122 iV rfl _ 0 [] rfl hm6.own w3.heap.size x _ rfl b6 (by unfold maxLen;omega) (by omega) ?_);intro vv' w8 h8 g8 a8;have hm8:=hm6.pushed h8 g8 a8;clear h8 g8 a8 hm6 b6 s0 s1 s2) | (at_builtin;(refine dI bH (by decide) iP rfl (.tmp 32) (.tmp 35) 122 rfl 200 (.agg #[.string ⟨#[]⟩,.string ⟨#[]⟩,.int .i64 0]) 40 Tryz.underlying122 iV rfl vv' ([]++[x]).length ([]++[x]) rfl hm8.own _ _ [] rfl (.inl rfl) ?d1 ?d2 ?go2)))
   case d1=>unfold maxLen;simp
   case d2=>simp
   case go2=>
   intro v9 w9 JA hg9 Yy
   have hm9:=hm8.joined (ys:=[]) JA hg9 Yy
   rw [List.append_nil,List.nil_append] at hm9
   clear JA hg9 Yy hm8
   replace hm9:=Lib.hid hm9
   go_wp2
   all_goals
    go_ret
    exact⟨_,rfl,hm9.out⟩
theorem Mine.from{α:Type}{enc:α→List Value}{k:Nat}{e:TypeId}{w w0 w1:World}{v:Value}{l:List α}(kk:Only [] w w0)(h:Mine enc k e w0 w1 v l):Mine enc k e w w1 v l:=
 ⟨h.own,fun g hg=>Nat.le_trans kk.size (h.new g hg),kk.trans h.only⟩
theorem Mine.shape{α:Type}{enc:α→List Value}{k:Nat}{e:TypeId}{w w1:World}{v:Value}{l:List α}(hk:∀ x,(enc x).length=k)(h:Mine enc k e w w1 v l):
  ∃ A c,v = .slice A l.length c∧Els enc k w1 A l∧l.length≤c∧(∀ a,A=some a→w.heap.size≤a.block)∧(v = .slice none 0 0∨∃ g c,v = .slice (some ⟨g,0,none⟩) l.length c):=by
 rcases id h.own.2 with⟨rfl,h0⟩ | ⟨g,cap,cur,rfl,hb,hg,hn,r⟩
 ·have hl:l = []:=List.eq_nil_of_length_eq_zero h0
  subst hl
  exact⟨none,0,rfl,.inl rfl,Nat.le_refl _,by simp,.inl rfl⟩
 ·refine⟨_,_,rfl,?_,hn,fun a ha=> ?_,.inr ⟨g,cap,rfl⟩⟩
  ·by_cases h0:l = []
   ·exact .inl h0
   ·refine .inr ⟨g,0,rfl,(h.own.lt g rfl).2,fun i hi j u hu=> ?_⟩
    have q:=h.own.cells rfl _ _ (rW hk l i hi j u hu)
    rw [addr_add,Nat.zero_add] at q
    rw [Nat.zero_add]
    exact q
  ·injection ha with ha
   subst ha
   exact h.new g rfl
theorem RG{w w1:World}{v:Value}{l:List Rw}(h:Mine rwE 3 200 w w1 v l)(x:Rw)(hl:l.length≤100000)(hne:∀ y∈l,y.key≠x.key):
  Calls Tryz.prog 103 #[v,.agg #[.string (strOf x.key),.string (strOf x.val),.int .i64 (x.at_:Int)]] w1 fun e w'=>∃ v',e = .returned v'∧Mine rwE 3 200 w1 w' v' (xI x l):=by
 obtain⟨A,c,hv,hel,hc,hA,hform⟩:=h.shape bH
 rcases hel with rfl | ⟨g,o,hAg,hg,hat⟩
 ·exact VK w1 v x hform
 ·subst hAg
  subst hv
  exact VL w1 g o c l x hat hl hc hne
theorem VN{w w1:World}{v:Value}{l:List Rw}(h:Mine rwE 3 200 w w1 v l)(x:Rw)(hl:l.length≤100000)(hne:∀ y∈l,y.key≠x.key):
  Calls Tryz.prog 103 #[v,.agg #[.string (strOf x.key),.string (strOf x.val),.int .i64 (x.at_:Int)]] w1 fun e w'=>∃ v',e = .returned v'∧Mine rwE 3 200 w w' v' (xI x l):=
 (RG h x hl hne).mono fun _ _ ⟨v',he,hm⟩=>⟨v',he,hm.from h.only⟩
def zC(w w':World)(o:Option (List Rw))(e:Ending):Prop:=match o with
 | none=>e = .returned (.tuple #[.slice none 0 0,.bool false])∧Only [] w w'
 | some M=>∃ v,e = .returned (.tuple #[v,.bool true])∧Mine rwE 3 200 w w' v M
theorem zC.no{w w':World}{o:Option (List Rw)}(h:o=none)(k:Only [] w w'):zC w w' o (.returned (.tuple #[.slice none 0 0,.bool false])):=by
 subst h
 exact⟨rfl,k⟩
theorem zC.yes{w w':World}{o:Option (List Rw)}{M:List Rw}{v:Value}(h:o=some M)(k:Mine rwE 3 200 w w' v M):zC w w' o (.returned (.tuple #[v,.bool true])):=by
 subst h
 exact⟨v,rfl,k⟩
theorem Qg{l:List Rw}{k:List UInt8}{e:Ending}(h:Finds l k e)(hf:(aK l k).isSome=true):∃ i:Nat,e = .returned (.int .i64 (i:Int))∧i<l.length:=by
 rcases h with⟨i,r,h1,h2,rfl⟩ | ⟨h1,rfl⟩
 ·exact⟨i,rfl,(List.getElem?_eq_some_iff.1 h1).1⟩
 ·rw [dJ.2 h1] at hf
  cases hf
theorem Qh{l:List Rw}{k:List UInt8}{e:Ending}(h:Finds l k e)(hf:aK l k=none):e = .returned (.int .i64 (-1)):=by
 rcases h with⟨i,r,h1,h2,rfl⟩ | ⟨h1,rfl⟩
 ·exact absurd h2 (dJ.1 hf r (List.mem_of_getElem? h1))
 ·rfl
set_option maxRecDepth 100000 in
set_option maxHeartbeats 2000000 in
theorem RF(w:World)(A:Option Addr)(c:Nat)(L:List (List UInt8))(h:Strs w A L)(hl:L.length≤1024)(ae3:∀ d∈L,d.length=248):
  Calls Tryz.prog 49 #[.slice A L.length c] w fun e w'=>zC w w' (eY L) e:=by
 have hlI:(L.length:Int)≤1024:=by omega
 go_enter Tryz.func49,Tryz.ntmps49
 go_wp2_with fail
 go_loopw [4,5] (fun v i wr=>∃ (k:Nat) (M:List Rw),k≤L.length∧i = .int .i64 k∧Hid (dR [] (L.take k) 0=some M)∧M.length≤k∧Mine rwE 3 200 w wr v M) (fun _ i _=>L.length-(intOf i).toNat)
 case atStart=>exact⟨0,[],Nat.zero_le _,rfl,rfl,Nat.le_refl _,Mine.start _ _ _ (Only.refl _ _)⟩
 case round=>
  obtain⟨k,M,hk,rfl,hload,hML,aG⟩:=hrel
  by_cases hlt:k<L.length
  ·obtain⟨g,o,rfl,hg,hat⟩:=h.get hlt
   have c0:=aG.only.cell (hat k hlt) (by simp)
   have hd:=ae3 L[k] (List.getElem_mem hlt)
   have hpar:=fun W=>Pe W L[k] hd
   have hnext:=nI hlt
   have hstop:=zf hlt hload.out
   rw [hload.out] at hnext
   simp only at hnext
   have hz0:=Ed (s:=L[k])
   have hz2:=I5 (s:=L[k])
   have hz1:=I7 (s:=L[k])
   have hlr:mQ M L[k] k=if bM L[k] then some M else match qE L[k] with
    | none=>none
    | some x=>if (aK M x.1).isSome then none else some (wG M ⟨x.1,x.2,k⟩):=rfl
   have hro:qE L[k]=if goodD L[k] then some ((dB L[k]).1,(dO L[k]).1) else none:=rfl
   generalize L[k]=d at *
   replace hnext:=Lib.hid hnext
   replace hstop:=Lib.hid hstop
   replace hpar:=Lib.hid hpar
   generalize strOf d=ds at *
   have hMI:M.length≤1024:=by omega
   clear hat
   cases hz:bM d with
   | true=>
    have hp:=hz0 hz
    rw [hp] at hpar
    rw [hz] at hlr
    rw [hlr] at hnext
    have hm':Hid (dR [] (L.take (k+1)) 0=some M):=hnext.out
    clear hz0 hz1 hz2 hp hlr hro hnext hstop hz
    go_wp2_with fail
    refine (hpar.out _).mono ?_
    rintro e w2 ⟨rfl,k2⟩
    have hm2:=aG.keep k2
    clear aG k2 c0 hpar
    go_wp2
    go_roundw
    case rel=>exact⟨k+1,M,by omega,by go_num,hm',by omega,hm2⟩
    case measure=>simp [intOf];omega
   | false=>
    have hzn:¬bM d=true:=by rw [hz];decide
    rw [hz] at hlr
    cases hg2:goodD d with
    | false=>
     have hp:=hz2 hzn hg2
     rw [hp] at hpar
     rw [hg2] at hro
     rw [hro] at hlr
     have hno:Hid (eY L=none):=hstop.out hlr
     clear hz0 hz1 hz2 hp hlr hro hnext hstop hz hzn hg2
     go_wp2_with fail
     refine (hpar.out _).mono ?_
     rintro e w2 ⟨rfl,k2⟩
     have dw:=aG.only.trans k2
     clear aG k2 c0 hpar
     go_wp2
     go_ret2
     exact zC.no hno.out dw
    | true=>
     have hp:=hz1 hzn hg2
     rw [hp] at hpar
     rw [hg2] at hro
     rw [hro] at hlr
     simp only [if_true,Bool.false_eq_true,if_false] at hlr
     obtain⟨A2,c2,hv,hel,hc2,_,_⟩:=aG.shape bH
     have hfind:=fun W (kk:Only [] wr W)=>wu W A2 c2 M (dB d).1 (hel.kept kk (by simp)) (by omega)
     have hput:=fun W (kk:Only [] wr W) (hn:aK M (dB d).1=none)=>VN (aG.keep kk) ⟨(dB d).1,(dO d).1,k⟩ (by omega) (fun y hy=>dJ.1 hn y hy)
     simp only at hput
     rw [hv] at hput
     generalize strOf (dO d).1=vs at *
     generalize strOf (dB d).1=ks at *
     replace hfind:=Lib.hid hfind
     replace hput:=Lib.hid hput
     subst hv
     have aF:=Lib.hid aG.only
     clear hz0 hz1 hz2 hp hro hz hzn hg2 hel aG
     cases hf:aK M (dB d).1 with
     | some r=>
      rw [hf] at hlr
      have hno:Hid (eY L=none):=hstop.out hlr
      have hfs:Hid ((aK M (dB d).1).isSome=true):=show _=_ by rw [hf];rfl
      clear hput hlr hnext hstop hf
      go_wp2_with fail
      refine (hpar.out _).mono ?_
      rintro e w2 ⟨rfl,k2⟩
      go_wp2_with fail
      refine (hfind.out _ k2).mono ?_
      rintro e w3 ⟨hfi,k3⟩
      obtain⟨i,rfl,hi⟩:=Qg hfi hfs.out
      have dw:=(aF.out.trans k2).trans k3
      clear hfi c0 k2 k3
      go_wp2
      go_ret2
      exact zC.no hno.out dw
     | none=>
      have ab9:=Lib.hid fun W (kk:Only [] wr W)=>hput.out W kk hf
      rw [hf] at hlr
      simp only [Option.isSome_none,Bool.false_eq_true,if_false] at hlr
      rw [FT hf] at hlr
      rw [hlr] at hnext
      have hfn:Hid (aK M (dB d).1=none):=hf
      clear hput hlr hstop hf
      go_wp2_with fail
      refine (hpar.out _).mono ?_
      rintro e w2 ⟨rfl,k2⟩
      go_wp2_with fail
      refine (hfind.out _ k2).mono ?_
      rintro e w3 ⟨hfi,k3⟩
      obtain rfl:=Qh hfi hfn.out
      have k13:=k2.trans k3
      clear hfi c0
      go_wp2_with fail
      refine (ab9.out _ k13).mono ?_
      rintro e w4 ⟨v',rfl,hm4⟩
      clear k2 k3 k13
      have hlen:(xI ⟨(dB d).1,(dO d).1,k⟩ M).length≤k+1:=by rw [jR];omega
      generalize xI ⟨(dB d).1,(dO d).1,k⟩ M=M' at *
      have hnx:Hid (dR [] (L.take (k+1)) 0=some M'):=hnext.out
      clear hnext
      go_wp2
      go_roundw
      case rel=>exact⟨k+1,M',by omega,by go_num,hnx,hlen,hm4⟩
      case measure=>simp [intOf];omega
  ·obtain rfl:k=L.length:=by omega
   have hge:¬(L.length:Int)<(L.length:Int):=by omega
   have hfin:Hid (eY L=some M):=by
    have:=hload.out
    rw [List.take_length] at this
    exact this
   clear hload
   go_wp2
   go_ret2
   exact zC.yes hfin.out aG
set_option maxRecDepth 100000 in
set_option maxHeartbeats 2000000 in
theorem Pm(w:World)(lp p n:Nat)(G:List Nat)(s:St)(h:jB w lp p n false)(hd:Ref w p G s)(fG:s.dead=false)(bY:s.late.length<1048576)(hN:42≤s.aA.length):
  Calls Tryz.prog 48 #[.pointer (some ⟨lp,0,none⟩)] w fun e w'=>∃ v,e = .returned (.tuple #[v,.int .i64 0])∧Nr w w' v (dP s):=by
 have hread:=fun W (k:Only [] w W) x=>Ph W lp p n false G s x (Blk.kept h k (by simp)) (hd.kept k (by simp)) bY hN
 obtain⟨l0,_,_⟩:=h.cells
 obtain⟨gf,cf,A,cl,c0,_,_,_,_⟩:=hd.cells (by omega)
 have hfew:=hd.fine.few
 have hlen:=nN s
 have hsn:=take_snoc s
 have hval:∀ k:Nat,k<s.aA.length-41→dG s false (k:Int)=0∧iE s false (k:Int)=(bI s (41+k)).drop 8:=fun k hk=>by
  have hh:¬gV s.aA.length (k:Int)=false:=by
   have:gV s.aA.length (k:Int)=true:=by simp only [gV,decide_eq_true_eq];omega
   rw [this];decide
  constructor
  ·rw [dG,if_neg hh,if_neg (by decide),if_neg (by rw [fG];decide)]
  ·rw [iE,if_neg hh,if_neg (by decide),if_neg (by rw [fG];decide)];rfl
 obtain⟨N,hNN⟩:∃ N:Nat,s.aA.length=41+N:=⟨s.aA.length-41,by omega⟩
 have hNi:(s.aA.length:Int)-41=(N:Int):=by omega
 have hNw:wrap64 ((s.aA.length:Int)-41)=(N:Int):=by simp only [wrap64];omega
 rw [show s.aA.length-41=N by omega] at hlen hsn hval
 have hN2:N≤1024:=by omega
 have acs:(s.aA.length:Int)=41+(N:Int):=by omega
 rw [hNN] at c0
 replace hread:=Lib.hid hread
 replace hval:=Lib.hid hval
 replace hsn:=Lib.hid hsn
 replace hlen:=Lib.hid hlen
 replace bY:=Lib.hid bY
 clear h hd fG hN hfew hNN hNi hNw acs
 obtain⟨ti,ht1,ht2,ht3,ht4⟩:=info_parts wR
 replace ht1:=Lib.hid ht1
 replace ht2:=Lib.hid ht2
 replace ht3:=Lib.hid ht3
 replace ht4:=Lib.hid ht4
 go_enter Tryz.func48,Tryz.ntmps48
 go_wp2_with fail
 go_loopw [4,5] (fun v i wr=>∃ (k:Nat) (vf:Value),k≤N∧i = .int .i64 k∧vf=v∧wr.ownsRow 0 9 1 vf k (strCells ((dP s).take k))∧Only [] w wr∧Hid (∀ g,vf.ownBlock=some g→w.heap.size≤g)) (fun _ i _=>N-(intOf i).toNat)
 case atStart=>exact⟨0,_,Nat.zero_le _,rfl,rfl,World.ownsRow_nil _ 0 _ 1,Only.refl _ _,fun g hg=>by simp [Value.ownBlock] at hg⟩
 case round=>
  obtain⟨k,vf,hk,rfl,hvf,hown,aF,hnew⟩:=hrel
  subst hvf
  have x0:=aF.cell l0 (by simp)
  have y0:=aF.cell c0 (by simp)
  have hcast:((41+N:Nat):Int)-41=(N:Int):=by omega
  by_cases hlt:k<N
  ·obtain⟨v1,v2⟩:=hval.out k hlt
   have hr:=hread.out wr aF (k:Int)
   rw [v1,v2] at hr
   have hs:=Lib.hid (hsn.out k hlt)
   generalize (bI s (41+k)).drop 8=d at *
   generalize hbs:strOf d=bs at *
   replace hbs:=Lib.hid hbs
   replace hr:=Lib.hid hr
   clear v1 v2
   go_wp2_with fail
   refine hr.out.mono ?_
   rintro e w2 ⟨rfl,rfl⟩
   have news:=World.news_of_block (Blk.new w2 9 #[.string bs])
   have ka:Only [] w2 (w2.alloc (.cells #[.string bs] 9)):=(Only.refl [] w2).alloc _
   have zJ:=ay hown ka (by simp)
   have hone:∀ u∈[Value.string bs],u.oneCell'=true:=by
    intro u hu
    simp at hu
    subst hu
    rfl
   go_wp2_with (at_builtin;go_must (refine wpList_append_lies _ rfl (.tmp 30) (.tmp 32) 35 rfl 0 9 ti (.string ⟨#[]⟩) 1 16 Tryz.underlying35 ht1.out ht2.out ht3.out ht4.out rfl (by decide) vf k _ rfl zJ ⟨w2.heap.size,0,none⟩ 1 1 [.string bs] rfl rfl news hone (by decide) (by unfold maxLen;omega) (by omega) (Nat.zero_le _) _ rfl ?go))
   case go=>
    intro g5 cp w5 hown5 hgrow JH Kz
    have hg5:w.heap.size≤g5:=by
     rcases JH with h | h
     ·exact hnew.out g5 h
     ·have:=ka.size;have:=aF.size;omega
    have JB:Only [] w w5:=(aF.trans ka).grown hgrow (fun j hj=>.inr (hnew.out j hj))
    have hown6:w5.ownsRow 0 9 1 (.slice (some ⟨g5,0,none⟩) (k+1) cp) (k+1) (strCells ((dP s).take (k+1))):=by
     rw [hs.out,vT,hbs.out]
     exact hown5
    have L6:Hid (∀ g,(Value.slice (some ⟨g5,0,none⟩) (k+1) cp).ownBlock=some g→w.heap.size≤g):=fun g hg=>by
     simp only [Value.ownBlock,Option.some.injEq] at hg
     omega
    replace hown6:=Lib.hid hown6
    clear hown5 hgrow JH zJ news ka hown aF hnew x0 y0
    go_wp2
    go_roundw
    case rel=>exact⟨k+1,_,by omega,by go_num,rfl,hown6.out,JB,L6⟩
    case measure=>simp [intOf];omega
  ·have hkl:k=N:=by omega
   have hge:(N:Int)≤k:=by omega
   have hfin:Nr w wr vf (dP s):=by
    refine Ir (e:=9) ?_ aF hnew.out
    rw [hlen.out,←hkl]
    rw [hkl,List.take_of_length_le (by rw [hlen.out];omega)] at hown
    rw [hkl]
    exact hown
   replace hfin:=Lib.hid hfin
   clear hown
   go_wp2
   go_ret2
   exact⟨_,rfl,hfin.out⟩
end Go.Proofs.YtmelaiefbpdifaaGreatDoor
