/- Joined: Th13, Lv13, Al13 -/
import Derived.Test.YtmelaiefbpdifaaGreatDoorHL0
namespace Go.Proofs.YtmelaiefbpdifaaGreatDoor.Srv
open Go.RowKit Go.Maps
open Pgs (Pg jm headB find iG yE ldL mV Holds Hl qx rH Gp yI fP uO Ll nR)
theorem Np{a b:List Ch}{M:List Rw}{k:List UInt8}(h:yu b k=none):dX (a++b) M k=dX a M k:=by
 unfold dX
 have e:yu (a++b) k=(yu a k).or (yu b k):=by unfold yu;exact List.find?_append
 rw [e,h,Option.or_none]
theorem Kq{a b:List Ch}{M:List Rw}{k:List UInt8}(h:yu a k=none):dX (a++b) M k=dX b M k:=by
 unfold dX
 have e:yu (a++b) k=(yu a k).or (yu b k):=by unfold yu;exact List.find?_append
 rw [e,h,Option.none_or]
theorem tq(x n y:Nat):jm x n≠eK y:=fun h=>by
 have:=congrArg (fun l=>l.getD 0 0) h
 exact absurd this (by decide:¬(80:UInt8)=69)
theorem PW(x n:Nat):jm x n≠bK:=fun h=>by
 have:=congrArg (fun l=>l.getD 0 0) h
 exact absurd this (by decide:¬(80:UInt8)=66)
theorem XH(x:Nat):eK x≠bK:=fun h=>by
 have:=congrArg (fun l=>l.getD 0 0) h
 exact absurd this (by decide:¬(69:UInt8)=66)
def Nv(x:Nat)(ch:List Ch):Prop:=ch = []∨∃ v g,ch = [⟨eK x,v,g⟩]∧v.length≤200∧(g=true→v = [])
theorem Nv.nil(x:Nat):Nv x []:=.inl rfl
theorem Nv.fe(p:Pk):Nv p.file.toNat (Qi p):=.inr ⟨_,_,rfl,by rw [aU];decide,fun h=>by cases h⟩
theorem Nv.fr(p:Pk):Nv p.file.toNat (YA p):=.inr ⟨_,_,rfl,by simp,fun _=>rfl⟩
theorem Nv.hit{x:Nat}{ch:List Ch}(h:Nv x ch){k:List UInt8}(hk:k≠eK x):yu ch k=none:=by
 rcases h with rfl | ⟨v,g,rfl,_⟩
 ·rfl
 ·unfold yu
  rw [List.find?_cons]
  have:(eK x==k)=false:=by rw [beq_eq_false_iff_ne];exact fun e=>hk e.symm
  simp [this]
theorem Nv.len{x:Nat}{ch:List Ch}(h:Nv x ch):ch.length≤1:=by
 rcases h with rfl | ⟨v,g,rfl,_⟩<;>simp
theorem Qr(x y:Nat)(o p:List Pg):yu (yE x o p) (eK y)=none:=rH (headB x) _ _ _ 32 fun n _ e=>tq x n y (by rw [Gp];exact e.symm)
theorem YN{M:List Rw}{x:Nat}{o:List Pg}{ch:List Ch}(ho:Pgs.right o=true)(hc:Nv x ch):zF (qV M x o ch):=by
 unfold qV
 obtain⟨h1,h2⟩:=Hl (x:=x) (o:=dU M x) ho
 have h40:=qx x (dU M x) o
 have hch:∀ c∈ch,c.key=eK x∧c.val.length≤200∧(c.gone=true→c.val = []):=fun c hcm=>by
  rcases hc with rfl | ⟨v,g,rfl,q1,q2⟩
  ·cases hcm
  ·simp only [List.mem_singleton] at hcm
   subst hcm
   exact⟨rfl,q1,q2⟩
 refine Us ⟨?_,List.pairwise_append.2 ⟨h2,?_,fun a ha b hb=> ?_⟩,fun c hcm=> ?_,fun c hcm=> ?_⟩
 ·have:=hc.len;rw [List.length_append];omega
 ·rcases hc with rfl | ⟨v,g,rfl,_⟩
  ·exact List.Pairwise.nil
  ·exact List.pairwise_singleton _ _
 ·obtain⟨n,_,e,_⟩:=h1 a ha
  rw [e,(hch b hb).1]
  exact tq x n x
 ·rcases List.mem_append.1 hcm with hcm | hcm
  ·obtain⟨n,_,e,q,_⟩:=h1 c hcm
   rw [e,Pgs.jQ]
   exact⟨by decide,by decide,by omega⟩
  ·obtain⟨e,q,_⟩:=hch c hcm
   rw [e,wZ]
   exact⟨by decide,by decide,q⟩
 ·rcases List.mem_append.1 hcm with hcm | hcm
  ·obtain⟨n,_,e,_,q⟩:=h1 c hcm
   exact q
  ·exact (hch c hcm).2.2
theorem VF{N:Nat}{M M':List Rw}{x:Nat}{o:List Pg}{ch:List Ch}{e:Int}(ho:Pgs.right o=true)(hc:Nv x ch)(h:Puts N M (qV M x o ch) e M'):
  (e=6∧M'=M∧N<M.length+33)∨(e=0∧Good N M'∧∀ k,jD M' k=dX (qV M x o ch) M k):=by
 have hg:=Pgs.BP M (aC M (qV M x o ch))
 have hl:(aC M (qV M x o ch)).length≤33:=by
  have h1:=List.length_filter_le (fU M) (qV M x o ch)
  have h2:=qx x (dU M x) o
  have h3:=hc.len
  have h4:(qV M x o ch).length=(yE x (dU M x) o).length+ch.length:=by unfold qV;exact List.length_append
  show (List.filter (fU M) (qV M x o ch)).length≤33
  omega
 rcases h with⟨h,_⟩ | ⟨_,h,rfl,rfl⟩ | ⟨_,_,h1,h2,h3⟩
 ·exact absurd (YN ho hc) h
 ·exact .inl ⟨rfl,rfl,by omega⟩
 ·exact .inr ⟨h1,h2,h3⟩
def Snd(M:List Rw):Prop:=∀ x,x<4294967296→Holds M x (dU M x)
theorem IZ{x z:Nat}{k:List UInt8}(h:um (headB x) k=true):k≠eK z:=fun e=>by
 have h1:=(nR.1 h).2
 rw [e] at h1
 have:=congrArg (fun l=>l.getD 0 0) h1
 exact absurd this (by decide:¬(69:UInt8)=80)
theorem Si{x:Nat}{k:List UInt8}(h:um (headB x) k=true):k≠bK:=fun e=>by
 have h1:=(nR.1 h).1
 rw [e,Pgs.nK] at h1
 exact absurd h1 (by decide)
structure ac0(M M':List Rw)(x:Nat)(o:List Pg)(ch:List Ch):Prop where
 it:dU M' x=o
 other:∀ y,y<4294967296→y≠x→dU M' y=dU M y
 snd:Snd M'
 ep:jD M' (eK x)=dX ch M (eK x)
 rest:∀ k,k≠eK x→(∀ n,n<32→k≠jm x n)→jD M' k=jD M k
theorem aak{N:Nat}{M M':List Rw}{x:Nat}{o:List Pg}{ch:List Ch}(hS:Snd M)(hx:x<4294967296)(ho:Pgs.right o=true)(hc:Nv x ch)(hM':Good N M')(h:∀ k,jD M' k=dX (qV M x o ch) M k):ac0 M M' x o ch:=by
 have hM:∀ k,k≠eK x→jD M' k=dX (yE x (dU M x) o) M k:=fun k hk=>by
  rw [h k]
  exact Np (hc.hit hk)
 have hX:Holds M' x o:=by
  refine⟨fun n hn=> ?_,fun k hk hne=> ?_⟩
  ·rw [hM _ (tq x n x),yI (ou M x) ho hn]
   by_cases h1:find o n=find (dU M x) n
   ·rw [if_pos h1,(hS x hx).pages n hn,h1]
   ·rw [if_neg h1]
  ·rw [hM _ (IZ hk),fP hne]
   exact (hS x hx).only k hk hne
 have hY:∀ y,y<4294967296→y≠x→Holds M' y (dU M y):=fun y hy hyx=>by
  have hne:∀ k,um (headB y) k=true→∀ n,n<32→k≠jm x n:=fun k hk n _ e=>hyx (Ll hx hy (by rw [e];exact uO x n) hk).symm
  refine⟨fun n hn=> ?_,fun k hk hnn=> ?_⟩
  ·rw [hM _ (tq y n x),fP (hne _ (uO y n))]
   exact (hS y hy).pages n hn
  ·rw [hM _ (IZ hk),fP (hne k hk)]
   exact (hS y hy).only k hk hnn
 have e1:dU M' x=o:=(hX.load hM' ho).2
 have e2:∀ y,y<4294967296→y≠x→dU M' y=dU M y:=fun y hy hyx=>((hY y hy hyx).load hM' (ou M y)).2
 refine⟨e1,e2,fun y hy=> ?_,?_,fun k hk hne=> ?_⟩
 ·by_cases hyx:y=x
  ·subst hyx
   rw [e1];exact hX
  ·rw [e2 y hy hyx];exact hY y hy hyx
 ·rw [h]
  exact Kq (Qr x x _ _)
 ·rw [hM k hk]
  exact fP hne
theorem Iq(x:Nat):dU [] x = []:=rfl
theorem Rt:Snd []:=fun x _=>by rw [Iq];exact Pgs.holds_nil x
theorem ZO{N:Nat}{M M':List Rw}{b:Nat}(hS:Snd M)(hM':Good N M')(h:∀ k,jD M' k=dX (uz b) M k):(∀ y,y<4294967296→dU M' y=dU M y)∧Snd M'∧jD M' bK=some (be4 b)∧∀ k,k≠bK→jD M' k=jD M k:=by
 have hr:∀ k,k≠bK→jD M' k=jD M k:=fun k hk=>by
  rw [h k]
  unfold dX uz yu
  rw [List.find?_cons]
  have:(bK==k)=false:=by rw [beq_eq_false_iff_ne];exact fun e=>hk e.symm
  simp [this]
 have hY:∀ y,y<4294967296→Holds M' y (dU M y):=fun y hy=>
  ⟨fun n hn=>by rw [hr _ (PW y n)];exact (hS y hy).pages n hn,fun k hk hnn=>by rw [hr _ (Si hk)];exact (hS y hy).only k hk hnn⟩
 have e2:∀ y,y<4294967296→dU M' y=dU M y:=fun y hy=>((hY y hy).load hM' (ou M y)).2
 refine⟨e2,fun y hy=>by rw [e2 y hy];exact hY y hy,?_,hr⟩
 rw [h bK]
 unfold dX uz yu
 simp
theorem X3(b:Nat):zF (uz b):=Us ⟨by simp [uz],by simp [uz],by simp [uz,bK,aU],by simp [uz]⟩
theorem UY{N:Nat}{M M':List Rw}{b:Nat}{e:Int}(h:Puts N M (uz b) e M'):(e=6∧M'=M∧N<M.length+1)∨(e=0∧Good N M'∧∀ k,jD M' k=dX (uz b) M k):=by
 have hg:=Pgs.BP M (aC M (uz b))
 have hl:(aC M (uz b)).length≤1:=List.length_filter_le (fU M) (uz b)
 rcases h with⟨h,_⟩ | ⟨_,h,rfl,rfl⟩ | ⟨_,_,h1,h2,h3⟩
 ·exact absurd (X3 b) h
 ·exact .inl ⟨rfl,rfl,by omega⟩
 ·exact .inr ⟨h1,h2,h3⟩
end Go.Proofs.YtmelaiefbpdifaaGreatDoor.Srv
namespace Go.Proofs.YtmelaiefbpdifaaGreatDoor.Srv
open Go.RowKit Go.Maps
open Pgs (Pg jm headB find iG yE)
theorem XP{C C':Com}{σ σ':Sv}{p:Pk}{d:List UInt8}{e:Int}(hC:∀ l e M',C σ.M l e M'→C' σ.M l e M')(h:Did C σ p d e σ'):Did C' σ p d e σ':=by
 have hs:∀ x o ch,iH C σ x o ch e σ'→iH C' σ x o ch e σ':=fun x o ch h=>by
  obtain⟨M',hc,he⟩:=h
  exact⟨M',hC _ _ _ hc,he⟩
 unfold Did at h ⊢
 split
 ·rename_i h1;rw [if_pos h1] at h;exact h
 ·rename_i h1
  rw [if_neg h1] at h
  split
  ·rename_i h2;rw [if_pos h2] at h;exact h
  ·rename_i h2
   rw [if_neg h2] at h
   split
   ·rename_i h3
    rw [if_pos h3] at h
    refine⟨h.1,?_⟩
    split
    ·rename_i h4;have:=h.2;rw [if_pos h4] at this;exact this
    ·rename_i h4;have:=h.2;rw [if_neg h4] at this;exact hs _ _ _ this
   ·rename_i h3
    rw [if_neg h3] at h
    split
    ·rename_i h4
     rw [if_pos h4] at h
     refine⟨h.1,?_⟩
     have h:=h.2
     split
     ·rename_i h5;rw [if_pos h5] at h;exact h
     ·rename_i h5
      rw [if_neg h5] at h
      split
      ·rename_i h6;rw [if_pos h6] at h;exact h
      ·rename_i h6
       rw [if_neg h6] at h
       split
       ·rename_i h7;rw [if_pos h7] at h;exact h
       ·rename_i h7;rw [if_neg h7] at h;exact hs _ _ _ h
    ·rename_i h4
     rw [if_neg h4] at h
     refine⟨h.1,?_⟩
     have h:=h.2
     split
     ·rename_i h5;rw [if_pos h5] at h;exact h
     ·rename_i h5;rw [if_neg h5] at h;exact hs _ _ _ h
theorem Uy{C C':Com}{σ σ':Sv}{p r:Pk}{ok:Bool}(hC:∀ l e M',C σ.M l e M'→C' σ.M l e M')(h:lg C σ p r ok σ'):lg C' σ p r ok σ':=by
 obtain⟨d,e,σ1,h1,h2⟩:=h
 exact⟨d,e,σ1,XP hC h1,h2⟩
theorem zq{C C':Com}{σ σ':Sv}{p r:Pk}{ok:Bool}(hC:∀ l e M',C σ.M l e M'→C' σ.M l e M')(h:jS C σ p r ok σ'):jS C' σ p r ok σ':=by
 rcases h with h | h | ⟨h1,h2,h3,h4⟩ | h | h
 ·exact .inl h
 ·exact .inr (.inl h)
 ·exact .inr (.inr (.inl ⟨h1,h2,h3,Uy hC h4⟩))
 ·exact .inr (.inr (.inr (.inl h)))
 ·exact .inr (.inr (.inr (.inr h)))
theorem vY{σ σ':Sv}{x:Nat}{o:List Pg}{ch:List Ch}{e:Int}(h:iH (Puts σ.N) σ x o ch e σ'):e≠5:=by
 obtain⟨M',hc,_⟩:=h
 rcases hc with⟨_,rfl,_⟩ | ⟨_,_,rfl,_⟩ | ⟨_,_,rfl,_⟩<;>decide
theorem Oq{C:Com}{σ σ':Sv}{p:Pk}{d:List UInt8}{e:Int}(hC:∀ x o ch,iH C σ x o ch e σ'→e≠5)(h:Did C σ p d e σ'):e≠5:=by
 unfold Did at h
 split at h
 ·obtain⟨_,rfl,_⟩:=h
  unfold wrE
  split
  ·decide
  ·split
   ·decide
   ·split<;>decide
 ·split at h
  ·obtain⟨_,rfl,_⟩:=h
   unfold rdE
   split
   ·decide
   ·split<;>decide
  ·split at h
   ·obtain⟨_,h⟩:=h
    split at h
    ·obtain⟨rfl,_⟩:=h;decide
    ·exact hC _ _ _ h
   ·split at h
    ·obtain⟨_,h⟩:=h
     split at h
     ·obtain⟨rfl,_⟩:=h;decide
     ·split at h
      ·obtain⟨rfl,_⟩:=h;decide
      ·split at h
       ·obtain⟨rfl,_⟩:=h;decide
       ·exact hC _ _ _ h
    ·obtain⟨_,h⟩:=h
     split at h
     ·obtain⟨rfl,_⟩:=h;decide
     ·exact hC _ _ _ h
theorem EI{σ σ':Sv}{p r:Pk}{ok:Bool}(h:jS (Puts σ.N) σ p r ok σ'):σ'.up=σ.up:=by
 rcases h with⟨_,_,_,rfl⟩ | ⟨_,_,_,_,rfl⟩ | ⟨_,_,_,d,e,σ1,h1,h2⟩ | ⟨_,_,_,_,_,rfl⟩ | ⟨_,_,_,_,_,rfl⟩
 ·rfl
 ·rfl
 ·obtain⟨_,_,_,a4,_⟩:=Oo h1
  rcases h2 with⟨h5,_⟩ | ⟨_,_,_,rfl⟩
  ·exact absurd h5 (Oq (fun x o ch hs=>vY hs) h1)
  ·exact a4
 ·rfl
 ·rfl
def xJ(w w1:World)(R:List Nat)(sb dp:Nat)(σ:Sv)(c:Nat):Prop:=∃ s n,vO w w1 R sb dp σ s n false c∧Live s∧s.late.length=0∧n≤c+1∧σ.up=true
section
variable {w w1 w2:World}{R:List Nat}{sb dp c:Nat}{σ:Sv}
theorem xJ.keep(h:xJ w w1 R sb dp σ c)(k:Only [] w1 w2):xJ w w2 R sb dp σ c:=by
 obtain⟨s,n,h,h2⟩:=h
 exact⟨s,n,h.keep k,h2⟩
theorem xJ.beside{S:List Nat}(h:xJ w w1 R sb dp σ c)(k:Only S w1 w2)(hw:Only [] w w2)(hS:∀ i∈S,i∉R):xJ w w2 R sb dp σ c:=by
 obtain⟨s,n,h,h2⟩:=h
 exact⟨s,n,h.beside k hw hS,h2⟩
theorem xJ.ok(h:xJ w w1 R sb dp σ c):σ.Ok c:=by
 obtain⟨s,n,h,_⟩:=h
 exact h.ok
theorem xJ.only(h:xJ w w1 R sb dp σ c):Only [] w w1:=by
 obtain⟨s,n,h,_⟩:=h
 exact h.only
theorem xJ.new(h:xJ w w1 R sb dp σ c):∀ i∈R,w.heap.size≤i∧i<w1.heap.size:=by
 obtain⟨s,n,h,_⟩:=h
 exact h.new
theorem xJ.up(h:xJ w w1 R sb dp σ c):σ.up=true:=by
 obtain⟨s,n,_,_,_,_,h⟩:=h
 exact h
def LiveM(w w1 w':World)(R:List Nat)(sb dp:Nat)(σ:Sv)(c:Nat)(p:Pk)(e:Ending):Prop:=
 ∃ r ok σ' R',e = .returned (.tuple #[pkV r,.bool ok])∧jS (Puts σ.N) σ p r ok σ'∧xJ w w' R' sb dp σ' (c+1)∧Only R w1 w'∧∀ j∈R',j∈R∨w1.heap.size≤j
theorem xJ.handle(h:xJ w w1 R sb dp σ c)(hcc:c<1000000)(p:Pk)(hp:p.Ok):
  Calls Tryz.prog 23 #[.pointer (some ⟨sb,0,none⟩),pkV p] w1 fun e w'=>LiveM w w1 w' R sb dp σ c p e:=by
 obtain⟨s,n,⟨rp,mb,lp,lb,F,vs,D,h⟩,hs,hl,hn,hu⟩:=h
 refine (h.Zy hcc p hp (fun _=>⟨rfl,by omega,by omega⟩)).mono ?_
 rintro e w' ⟨r,ok,σ',s',n',f',R',rfl,hst,hm,hk,hR⟩
 rcases hst with⟨h1,rfl,rfl,rfl⟩ | ⟨_,h1,l,er,hc,_⟩
 ·have h2:=zq (C':=Puts σ.N) (fun _ _ _ hh=>hh.elim) h1
  exact⟨r,ok,σ',R',rfl,h2,⟨s',n',hm,hs,hl,by omega,(EI h2).trans hu⟩,hk,hR⟩
 ·have hP:=fun l e M' (hc:dN σ.N σ.M s n false l e M' s' n' f')=>FQ hs h.len h.ok.good (by omega) hc
  have h2:=zq (C':=Puts σ.N) (fun l e M' hc=>(hP l e M' hc).1) h1
  obtain⟨_,q1,q2,q3,rfl,q4⟩:=hP l er _ hc
  exact⟨r,ok,σ',R',rfl,h2,⟨s',n',hm,q1,by omega,by omega,(EI h2).trans hu⟩,hk,hR⟩
theorem xJ.epoch(h:xJ w w1 R sb dp σ c)(x:Int)(hx:U x):
  Calls Tryz.prog 18 #[.pointer (some ⟨sb,0,none⟩),.int .u32 x] w1 fun e w'=>e = .returned (.int .u32 (epN σ.M x.toNat:Int))∧Only [] w1 w':=by
 obtain⟨s,n,⟨rp,mb,lp,lb,F,vs,D,h⟩,_⟩:=h
 exact h.epoch x hx
theorem xJ.object(h:xJ w w1 R sb dp σ c)(x:Int)(y:Nat)(hx:x=y)(hy:y<4294967296):
  Calls Tryz.prog 19 #[.pointer (some ⟨sb,0,none⟩),.int .u32 x] w1 fun e w'=>∃ v,e = .returned v∧Ns w1 w' v (vM σ y):=by
 obtain⟨s,n,⟨rp,mb,lp,lb,F,vs,D,h⟩,_⟩:=h
 exact h.object x y hx hy
theorem xJ.sure(h:xJ w w1 R sb dp σ c)(x:Int)(y:Nat)(hx:x=y)(hy:y<4294967296):
  Calls Tryz.prog 27 #[.pointer (some ⟨sb,0,none⟩),.int .u32 x] w1 fun e w'=>∃ v,e = .returned v∧Ns w1 w' v (dU σ.M y):=by
 obtain⟨s,n,⟨rp,mb,lp,lb,F,vs,D,h⟩,_⟩:=h
 exact h.sure x y hx hy
theorem xJ.room(h:xJ w w1 R sb dp σ c):
  Calls Tryz.prog 28 #[.pointer (some ⟨sb,0,none⟩)] w1 fun e w'=>e = .returned (.int .i64 (FP σ))∧Only [] w1 w':=by
 obtain⟨s,n,⟨rp,mb,lp,lb,F,vs,D,h⟩,_⟩:=h
 exact h.room
theorem xJ.jC(h:xJ w w1 R sb dp σ c):Calls Tryz.prog 21 #[.pointer (some ⟨sb,0,none⟩)] w1 fun e w'=>e = .returned (.int .u32 σ.jC)∧w'=w1:=by
 obtain⟨s,n,⟨rp,mb,lp,lb,F,vs,D,h⟩,_⟩:=h
 exact h.abf
end
def ae4(w w1 w':World)(F:List Nat)(dp N:Nat)(me:Int)(e:Ending):Prop:=
 ∃ sb R M',e = .returned (.tuple #[.pointer (some ⟨sb,0,none⟩),.int .i64 0])∧xJ w w' R sb dp (DT N me 1 M') 0∧Only F w1 w'∧(∀ j∈R,j∈F∨w1.heap.size≤j)∧Good N M'∧∀ k,jD M' k=dX (uz 1) [] k
theorem xH.aai{w w1:World}{F:List Nat}{dp N:Nat}(h:xH w w1 F dp (fresh (41+N)))(hN:1≤N)(hN2:N≤983)(me:Int)(hme:1≤me∧me≤255):
  Calls Tryz.prog 15 #[.pointer (some ⟨dp,0,none⟩),.int .i64 me] w1 fun e w'=>ae4 w w1 w' F dp N me e:=by
 obtain⟨e1,e2,e3⟩:=Em (41+N) (by omega)
 have hfl:(fresh (41+N)).aA.length=41+N:=jk _
 have hla:(fresh (41+N)).late.length=0:=rfl
 have hpar:eY (dP (fresh (41+N)))=some []:=uZ _
 refine (xH.aaj h me ⟨by omega,by omega⟩ (by rw [hla];decide) (by rw [e2];exact hfl) (by rw [e2,hla];decide) (by rw [e3];decide) (fun M hM=>by rw [e2,hpar] at hM;injection hM with hM;rw [←hM];exact Good.nil _)).mono ?_
 have hb0:eu []=0:=rfl
 have aaG:∀ x M' s' n' f',dN N [] (fresh (41+N)) 0 false (uz (0+1)) x M' s' n' f'→x=0∧Good N M'∧(∀ k,jD M' k=dX (uz 1) [] k)∧Live s'∧s'.late.length=0∧f'=false∧n'≤1:=fun x M' s' n' f' hc=>by
  obtain⟨q0,q1,q2,q3,q4,q5⟩:=FQ (EN _) hfl (Good.nil _) (by decide) hc
  rcases UY q0 with⟨_,_,h⟩ | ⟨h1,h2,h3⟩
  ·simp at h;omega
  ·exact⟨h1,h2,h3,q1,by omega,q4,by omega⟩
 rintro e w' (⟨x,hr,_,_⟩ | ⟨sb,R,b,M,M',s',n',f',_,_,hp,_,hb,he,hm,hk,hR⟩)
 ·exfalso
  rcases hr with⟨h1,_⟩ | ⟨_,h1⟩
  ·exact h1 hme
  ·rcases h1 with (⟨h1,_⟩ | ⟨_,h1,_⟩) | ⟨M,_,hp,h1⟩
   ·exact h1 e1
   ·rw [e2,hpar] at h1;cases h1
   ·rw [e2,hpar] at hp
    injection hp with hp
    subst hp
    rcases h1 with⟨h1,_⟩ | ⟨_,hx,b,M',s',n',f',hb⟩
    ·exact absurd h1 (by decide +kernel)
    ·rcases hb with⟨h1,_⟩ | ⟨_,hc,_⟩
     ·rw [hb0] at h1;exact absurd h1 (by decide)
     ·rw [e2,e3,hb0] at hc
      exact hx (aaG _ _ _ _ _ hc).1
 ·rw [e2,hpar] at hp
  injection hp with hp
  subst hp
  rw [e2,e3] at hb
  rcases hb with⟨h1,_⟩ | ⟨_,hc,hb⟩
  ·rw [hb0] at h1;exact absurd h1 (by decide)
  ·rw [hb0] at hc hb
   obtain⟨_,q1,q2,q3,q4,rfl,q5⟩:=aaG _ _ _ _ _ hc
   have hb1:b=1:=by rw [hb,if_pos rfl];rfl
   subst hb1
   exact⟨sb,R,M',he,⟨s',n',hm,q3,q4,by omega,rfl⟩,hk,hR,q1,q2⟩
end Go.Proofs.YtmelaiefbpdifaaGreatDoor.Srv
namespace Go.Proofs.YtmelaiefbpdifaaGreatDoor.Srv
open Go.RowKit Go.Maps
open Pgs (Pg jm headB find iG yE)
def opP(code file epoch off len size:Int)(data:ByteArray):Pk:=⟨0,0,0,0,0,0,0,code,0,file,epoch,off,len,size,0,0,0,⟨#[]⟩,⟨#[]⟩,data⟩
def aac(fr sq bo:Int)(o:Pk):Pk:=⟨1,fr,1,1,sq,bo,0,o.code,o.err,o.file,o.epoch,o.off,o.len,o.size,o.mode,o.deny,o.handle,o.path,o.other,o.data⟩
def al1:Pk:=aac 0 1 1 (opP 4 7 1 0 0 1024 ⟨#[]⟩)
def al2:Pk:=aac 17 1 1 (opP 1 7 2 0 0 0 ⟨#[120]⟩)
def al3:Pk:=aac 17 2 1 (opP 1 7 1 3 0 0 ⟨#[97,98,99]⟩)
def al4:Pk:=aac 17 3 1 (opP 2 7 1 2 5 0 ⟨#[]⟩)
theorem Jl{N:Nat}{M M':List Rw}{l:List Ch}(hM':Good N M')(h:∀ k,jD M' k=dX l M k):M'.length≤M.length+l.length:=by
 have hn:(M'.map Rw.key).Nodup:=jh hM'.sorted.keys
 have:=kU (M'.map Rw.key) (M.map Rw.key++l.map Ch.key) hn (fun k hk=>by
  obtain⟨r,hr,rfl⟩:=List.mem_map.1 hk
  have hg:jD M' r.key=some r.val:=by rw [jD,nM hM'.sorted hr];rfl
  rw [h] at hg
  unfold dX at hg
  rw [List.mem_append]
  cases hh:yu l r.key with
  | some c=>
   obtain⟨hc,hk⟩:=BL hh
   exact .inr (List.mem_map.2 ⟨c,hc,hk⟩)
  | none=>
   rw [hh] at hg
   obtain⟨r',_,hr',hk',_⟩:=JM hg
   exact .inl (List.mem_map.2 ⟨r',hr',hk'⟩))
 simpa using this
theorem qo{C:Com}{σ σ':Sv}{p r:Pk}{ok:Bool}(h:jS C σ p r ok σ')(hu:σ.up=true)(ht:takes σ p)(ha:p.asked=σ.jC)(hj:oL σ p=1):lg C σ p r ok σ':=by
 rcases h with⟨h1,_⟩ | ⟨_,h1,_⟩ | ⟨_,_,_,h1⟩ | ⟨_,_,h1,_⟩ | ⟨_,_,h1,_⟩
 ·exact absurd ⟨hu,ht⟩ h1
 ·exact absurd ha h1
 ·exact h1
 ·omega
 ·omega
theorem wX{σ σ':Sv}{p r:Pk}{ok:Bool}(h:lg (Puts σ.N) σ p r ok σ'):∃ d e σ1,Did (Puts σ.N) σ p d e σ1∧r=iD σ p d e∧ok=true∧σ'=kJ σ1 p.frm.toNat (rY (σ.seat p.frm.toNat) p.life p.seq (lM (iD σ p d e))):=by
 obtain⟨d,e,σ1,h1,h2⟩:=h
 rcases h2 with⟨h5,_⟩ | ⟨_,h2⟩
 ·exact absurd h5 (Oq (fun x o ch hs=>vY hs) h1)
 ·exact⟨d,e,σ1,h1,h2⟩
theorem j11:gq uo 1 1=1:=by unfold gq uo;simp
theorem j12(a:ByteArray):gq ⟨1,1,a⟩ 1 2=1:=by simp [gq]
theorem j13(a:ByteArray):gq ⟨1,2,a⟩ 1 3=1:=by simp [gq]
theorem XK(b:ByteArray):rY uo 1 1 b=⟨1,1,b⟩:=by unfold rY;rw [if_pos j11]
theorem XJ(a b:ByteArray):rY ⟨1,1,a⟩ 1 2 b=⟨1,2,b⟩:=by unfold rY;rw [if_pos (j12 a)]
set_option maxRecDepth 100000 in
theorem VR:al1.Right∧al2.Right∧al3.Right∧al4.Right:=by decide +kernel
theorem Qz{M0:List Rw}{σ1 σ2 σ3 σ4:Sv}{r1 r2 r3 r4:Pk}{k1 k2 k3 k4:Bool}(hG:Good 99 M0)(hM0:∀ k,jD M0 k=dX (uz 1) [] k)
  (h1:jS (Puts 99) (DT 99 1 1 M0) al1 r1 k1 σ1) (h2:jS (Puts σ1.N) σ1 al2 r2 k2 σ2) (h3:jS (Puts σ2.N) σ2 al3 r3 k3 σ3) (h4:jS (Puts σ3.N) σ3 al4 r4 k4 σ4):
  (k1=true∧r1.err=0)∧(k2=true∧r2.err=17)∧(k3=true∧r3.err=0)∧(k4=true∧r4.data=⟨#[0,97,98,99,0]⟩)∧dU σ4.M 7 = []∧(vM σ4 7).length=1∧epN σ4.M 7=1:=by
 obtain⟨R1,R2,R3,R4⟩:=VR
 have hS0:=Rt
 obtain⟨b1,b2,b3,b4⟩:=ZO (N:=99) Rt hG hM0
 have hl0:M0.length≤1:=Jl hG hM0
 have he0:jD M0 (eK 7)=none:=by rw [b4 _ (XH 7)];rfl
 have hs0:dU M0 7 = []:=by rw [b1 7 (by decide)];exact Iq 7
 have x1:=wX (qo h1 rfl ⟨R1,rfl,rfl,by decide,by decide⟩ rfl (by show gq uo 1 1=1;exact j11))
 obtain⟨d1,e1,τ1,hd1,hr1,hk1,hσ1⟩:=x1
 have Yx:=hd1
 unfold Did at Yx
 rw [if_neg (by decide),if_neg (by decide),if_neg (by decide),if_pos (by decide),if_neg (by decide)] at Yx
 have hep:epN M0 7=0:=by unfold epN;rw [he0];rfl
 obtain⟨_,Yx⟩:=Yx
 change (if al1.epoch<(epN M0 7:Int)∨al1.epoch=0 then _ else if (epN M0 7:Int)=al1.epoch then _ else iH _ (DT 99 1 1 M0) 7 (Pgs.Ia (vM (DT 99 1 1 M0) 7) (min 1024 1024)) (Qi al1) e1 τ1) at Yx
 rw [hep,if_neg (by decide),if_neg (by decide)] at Yx
 have ho0:vM (DT 99 1 1 M0) 7 = []:=hs0
 rw [ho0,show Pgs.Ia [] (min 1024 1024) = [] by decide +kernel] at Yx
 obtain⟨M1,hp1,hτ1⟩:=Yx
 have hc1:Nv 7 (Qi al1):=Nv.fe al1
 have hq1:=VF (by rfl) hc1 hp1
 rcases hq1 with⟨_,_,hfull⟩ | ⟨he1,hG1,hM1⟩
 ·exfalso;change 99<M0.length+33 at hfull;omega
 subst he1
 have hS1:=aak b2 (by decide) (by rfl) hc1 hG1 hM1
 have hl1:M1.length≤34:=by
  have:=Jl hG1 hM1
  change M1.length≤M0.length+(qV M0 7 [] (Qi al1)).length at this
  have h4:(qV M0 7 [] (Qi al1)).length≤33:=by
   unfold qV
   have:=Pgs.qx 7 (dU M0 7) []
   have:=hc1.len
   rw [List.length_append];omega
  omega
 have he1':jD M1 (eK 7)=some (be4 1):=by
  rw [hS1.ep]
  show dX [⟨eK 7,be4 1,false⟩] M0 (eK 7)=some (be4 1)
  unfold dX yu
  simp
 have hs1:dU M1 7 = []:=hS1.it
 have Zt:∀ e:Int,cur M1 7 e=(1==e):=fun e=>by
  unfold cur epB epN
  rw [he1']
  simp only [Option.isSome_some,Option.getD_some,Bool.true_and]
  rw [Jd 1 (by decide)]
  rfl
 have yj:σ1=kJ (turned (DT 99 1 1 M0) 7 0 M1) 0 (rY uo 1 1 (lM (iD (DT 99 1 1 M0) al1 d1 0))):=by rw [hσ1,hτ1];rfl
 have x2:=wX (qo h2 (by rw [yj];rfl) (by rw [yj];exact⟨R2,rfl,rfl,by decide,by decide⟩) (by rw [yj];rfl) (by rw [yj];show gq uo 1 1=1;exact j11))
 obtain⟨d2,e2,τ2,hd2,hr2,hk2,hσ2⟩:=x2
 unfold Did at hd2
 rw [if_pos (by decide)] at hd2
 obtain⟨_,he2,hτ2⟩:=hd2
 have hw2:wrE σ1 al2=17:=by
  unfold wrE
  rw [if_pos]
  rw [yj]
  show cur M1 7 2=false
  rw [Zt];rfl
 rw [hw2] at he2
 subst he2
 have abT:τ2=σ1:=by rw [hτ2];unfold wrS;rw [if_neg (by rw [hw2];decide)]
 have Du:σ2=kJ σ1 17 (rY (σ1.seat 17) 1 1 (lM (iD σ1 al2 d2 17))):=by rw [hσ2,abT];rfl
 have ab5:σ1.seat 17=uo:=by rw [yj];rfl
 rw [ab5,XK] at Du
 have x3:=wX (qo h3 (by rw [Du,yj];rfl) (by rw [Du,yj];exact⟨R3,rfl,rfl,by decide,by decide⟩) (by rw [Du,yj];rfl) (by rw [Du];exact j12 _))
 obtain⟨d3,e3,τ3,hd3,hr3,hk3,hσ3⟩:=x3
 unfold Did at hd3
 rw [if_pos (by decide)] at hd3
 obtain⟨_,he3,hτ3⟩:=hd3
 have hM2:σ2.M=M1:=by rw [Du,yj];rfl
 have hL2:σ2.L = []:=by rw [Du,yj];rfl
 have hN2:σ2.N=99:=by rw [Du,yj];rfl
 have ac9:Dc σ2 al3 = []:=by
  unfold Dc vM
  rw [hM2,hL2]
  exact hs1
 have Kw:H8 σ2 al3=Pgs.zN [] 3 [97,98,99]:=by unfold H8;rw [ac9];rfl
 have hn1:(Pgs.zN [] 3 [97,98,99]).length=1:=by decide +kernel
 have hw3:wrE σ2 al3=0:=by
  unfold wrE
  rw [if_neg,if_neg (by decide),if_neg]
  ·rintro⟨_,hroom⟩
   have hm:Gg σ2 al3≤1:=by
    unfold Gg
    rw [Kw,ac9]
    have:=tH σ2.M al3.file.toNat (Pgs.zN [] 3 [97,98,99])
    omega
   have hr:1≤FP σ2:=by
    unfold FP sumF
    rw [hM2,hL2,hN2]
    simp only [List.map_nil,List.sum_nil]
    omega
   omega
  ·rw [hM2]
   show ¬cur M1 7 1=false
   rw [Zt];decide
 rw [hw3] at he3
 subst he3
 have abS:τ3 = { σ2 with L:=qG [] 7 (Pgs.zN [] 3 [97,98,99]) }:=by
  rw [hτ3]
  unfold wrS
  rw [if_pos hw3,Kw,hL2]
  rfl
 have LX:σ3=kJ { σ2 with L:=qG [] 7 (Pgs.zN [] 3 [97,98,99]) } 17 (rY (σ2.seat 17) 1 2 (lM (iD σ2 al3 d3 0))):=by rw [hσ3,abS];rfl
 have hj2:σ2.seat 17=⟨1,1,lM (iD σ1 al2 d2 17)⟩:=by rw [Du];rfl
 rw [hj2,XJ] at LX
 have hb2:σ2.jC=1∧σ2.me=1∧σ2.up=true:=by rw [Du,yj];exact⟨rfl,rfl,rfl⟩
 have x4:=wX (qo h4 (by rw [LX];exact hb2.2.2) (by rw [LX];exact⟨R4,rfl,hb2.2.1.symm,by decide,by decide⟩) (by rw [LX];exact hb2.1.symm) (by rw [LX];exact j13 _))
 obtain⟨d4,e4,τ4,hd4,hr4,hk4,hσ4⟩:=x4
 unfold Did at hd4
 rw [if_neg (by decide),if_pos (by decide)] at hd4
 obtain⟨hd4,he4,hτ4⟩:=hd4
 have hM3:σ3.M=M1:=by rw [LX];exact hM2
 have ho3:vM σ3 7=Pgs.zN [] 3 [97,98,99]:=by
  rw [LX]
  show (iU (qG [] 7 (Pgs.zN [] 3 [97,98,99])) 7).getD _=_
  rw [qj,Option.getD_some]
 have hrE:rdE σ3 al4=0:=by
  unfold rdE
  rw [if_neg,if_neg (by decide)]
  rw [hM3]
  show ¬cur M1 7 1=false
  rw [Zt];decide
 have hdd:d4 = [0,97,98,99,0]:=by
  rw [hd4]
  unfold rdD
  rw [if_pos hrE]
  show Pgs.oV (vM σ3 7) 2 5=_
  rw [ho3]
  decide +kernel
 have hM4:σ4.M=M1:=by rw [hσ4,hτ4];exact hM3
 have ho4:vM σ4 7=Pgs.zN [] 3 [97,98,99]:=by rw [hσ4,hτ4];exact ho3
 refine⟨⟨hk1,by rw [hr1];rfl⟩,⟨hk2,by rw [hr2];rfl⟩,⟨hk3,by rw [hr3];rfl⟩,⟨hk4,?_⟩,by rw [hM4];exact hs1,by rw [ho4];exact hn1,?_⟩
 ·rw [hr4,hdd];rfl
 ·rw [hM4]
  unfold epN
  rw [he1']
  exact Jd 1 (by decide)
end Go.Proofs.YtmelaiefbpdifaaGreatDoor.Srv
