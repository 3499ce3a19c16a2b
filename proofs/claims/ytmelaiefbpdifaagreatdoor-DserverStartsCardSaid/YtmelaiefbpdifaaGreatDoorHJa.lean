/- Joined: Str7, Pg7, Zero7, Right7, Rr7, Cell7, Body7, Pages7. -/
import Derived.Test.YtmelaiefbpdifaaGreatDoorHGh
import Derived.Deep.Slices
import Derived.Deep.Fields
import Derived.ProofKit
import Derived.Deep.WholeRow
import Derived.Deep.MidRow
import Derived.Laws.BitsAllLaws
import Derived.Lib.BufferWrite
import Derived.Lib.Hide
import Derived.Deep.RegionHeld3
import Derived.Deep.AppendLies
import Derived.Laws.CopyRow
import Derived.StillTailTactics
import Derived.Test.YtmelaiefbpdifaaGreatDoorChecked
import Derived.WalkKit
import Derived.BigQuiet
import Derived.Laws.CopyOwn
import Derived.Lib.SliceRun
import Derived.Stop.BytesEq
import Derived.Deep.DeepMust
/- What stage05's chain lacks of stage 7's ground. -/
namespace Go.Proofs.YtmelaiefbpdifaaGreatDoor
open Go.RowKit
theorem Q9{a b:List UInt8}(h:¬strOf a=strOf b):((strOf a).toList==(strOf b).toList)=false:=by
 rw [beq_toList,beq_eq_false_iff_ne]
 exact fun e=>h (by rw [e])
theorem Mine.from{α:Type}{enc:α→List Value}{k:Nat}{e:TypeId}{w w0 w1:World}{v:Value}{l:List α}(kk:Only [] w w0)(h:Mine enc k e w0 w1 v l):Mine enc k e w w1 v l:=
 ⟨h.own,fun g hg=>Nat.le_trans kk.size (h.new g hg),kk.trans h.only⟩
theorem Mine.shape{α:Type}{enc:α→List Value}{k:Nat}{e:TypeId}{w w1:World}{v:Value}{l:List α}(hk:∀ x,(enc x).length=k)(h:Mine enc k e w w1 v l):
  ∃ A c,v = .slice A l.length c∧Els enc k w1 A l∧l.length≤c∧(∀ a,A=some a→w.heap.size≤a.block)∧(v = .slice none 0 0∨∃ g c,v = .slice (some ⟨g,0,none⟩) l.length c):=by
 rcases id h.own.2 with⟨rfl,h0⟩ | ⟨g,cap,cur,rfl,hb,hg,hn,r⟩
 ·have hl:l = []:=List.eq_nil_of_length_eq_zero h0
  subst hl
  exact⟨none,0,rfl,.inl rfl,Nat.le_refl _,by simp,.inl rfl⟩
 ·refine⟨_,_,rfl,?_,hn,fun a ha=> ?_,.inr ⟨g,cap,rfl⟩⟩
  ·by_cases h0:l = []
   ·exact .inl h0
   ·refine .inr ⟨g,0,rfl,(h.own.lt g rfl).2,fun i hi j u hu=> ?_⟩
    have q:=h.own.cells rfl _ _ (rW hk l i hi j u hu)
    rw [addr_add,Nat.zero_add] at q
    rw [Nat.zero_add]
    exact q
  ·injection ha with ha
   subst ha
   exact h.new g rfl
end Go.Proofs.YtmelaiefbpdifaaGreatDoor
/- Objects of pages, as plain lists: what is one, its bytes, the pages of bytes; where its bytes end; what leads from one to another one. -/
namespace Go.Proofs.YtmelaiefbpdifaaGreatDoor.Pgs
theorem Ea{P:Program}(t:TypeId)(ht:P.underlying t=some .string)(bs:List UInt8)(i j:Nat)(x y:Int)(k k':IntKind)(hx:x=i)(hy:y=j)(hij:i≤j)(h:j≤bs.length):
  ∀ W:World,(Instr.slice t (.string (strOf bs)) (some (.int k x)) (some (.int k' y)) none).run P W = .ok (.string (strOf ((bs.drop i).take (j-i)))) W:=by
 intro W
 subst hx
 subst hy
 have hs:=aj bs
 rw [run_slice_string W t _ k k' _ _ ht (by omega) (by omega) (by omega)]
 congr 2
 show (ByteArray.mk bs.toArray).extract _ _=_
 rw [ByteArray.extract_mk,Int.toNat_natCast,Int.toNat_natCast]
 rfl
structure Pg where
 n:Int
 d:List UInt8
instance : Inhabited Pg := ⟨⟨0, []⟩⟩
def iG(l:List UInt8):Bool:=l.all (· == 0)
def zs(n:Nat):List UInt8:=List.replicate n 0
theorem lK(n:Nat):(zs n).length=n:=List.length_replicate
theorem vI(n:Nat):iG (zs n)=true:=by simp [iG,zs]
theorem acV{l:List UInt8}(h:iG l=true):l=zs l.length:=by
 unfold iG at h
 rw [List.all_eq_true] at h
 exact List.eq_replicate_iff.2 ⟨rfl,fun b hb=>by simpa using h b hb⟩
theorem GY{l:List UInt8}(h:iG l=true)(hl:l.length=32):l=zs 32:=by rw [acV h,hl]
def okP:Int→List Pg→Bool
 | _,[]=>true
 | last,p :: r=>decide (last<p.n) && (decide (p.n<32) && (decide (p.d.length=32) && (!iG p.d && okP p.n r)))
def right(o:List Pg):Bool:=okP (-1) o
theorem iq{last:Int}{p:Pg}{r:List Pg}:okP last (p :: r)=true↔last<p.n∧p.n<32∧p.d.length=32∧iG p.d=false∧okP p.n r=true:=by
 simp [okP]
def top:Int→List Pg→Int
 | l,[]=>l
 | _,p :: r=>top p.n r
theorem DK:∀ (a b:List Pg) (l:Int),top l (a++b)=top (top l a) b
 | [],_,_=>rfl
 | p :: a,b,l=>by rw [List.cons_append,top,top,DK a b]
theorem sV:∀ (a b:List Pg) (l:Int),okP l (a++b)=(okP l a && okP (top l a) b)
 | [],b,l=>by simp [okP,top]
 | p :: a,b,l=>by
  rw [List.cons_append,okP,okP,sV a b,top]
  simp [Bool.and_assoc]
theorem SL:∀ (o:List Pg) (l:Int),okP l o=true→l<32→(o.length:Int)≤31-l
 | [],l,_,h=>by simp;omega
 | p :: r,l,h,_=>by
  obtain⟨h1,h2,_,_,h5⟩:=iq.1 h
  have:=SL r p.n h5 h2
  rw [List.length_cons]
  omega
theorem eU{o:List Pg}(h:right o=true):o.length≤32:=by
 have:=SL o (-1) h (by decide)
 omega
theorem qc:∀ (o:List Pg) (l:Int),okP l o=true→∀ p∈o,l<p.n∧p.n<32∧p.d.length=32∧iG p.d=false
 | [],_,_,p,hp=>by simp at hp
 | q :: r,l,h,p,hp=>by
  obtain⟨h1,h2,h3,h4,h5⟩:=iq.1 h
  rcases List.mem_cons.1 hp with rfl | hp
  ·exact⟨h1,h2,h3,h4⟩
  ·obtain⟨k1,k2⟩:=qc r q.n h5 p hp
   exact⟨by omega,k2⟩
def find:List Pg→Nat→List UInt8
 | [],_=>zs 32
 | p :: r,k=>if p.n=(k:Int) then p.d else find r k
theorem GU:∀ (o:List Pg) (l:Int) (k:Nat),okP l o=true→(k:Int)≤l→find o k=zs 32
 | [],_,_,_,_=>rfl
 | p :: r,l,k,h,hk=>by
  obtain⟨h1,h2,h3,h4,h5⟩:=iq.1 h
  rw [find,if_neg (by omega)]
  exact GU r p.n k h5 (by omega)
theorem GV:∀ (o:List Pg) (l:Int) (k:Nat),okP l o=true→(find o k).length=32
 | [],_,_,_=>lK 32
 | p :: r,l,k,h=>by
  obtain⟨h1,h2,h3,h4,h5⟩:=iq.1 h
  rw [find]
  split
  ·exact h3
  ·exact GV r p.n k h5
theorem GR:∀ (o:List Pg) (k:Nat),find o k=zs 32∨∃ p∈o,p.n=(k:Int)∧find o k=p.d
 | [],_=>.inl rfl
 | p :: r,k=>by
  rw [find]
  split
  ·rename_i h;exact .inr ⟨p,by simp,h,rfl⟩
  ·rcases GR r k with h | ⟨q,hq,h⟩
   ·exact .inl h
   ·exact .inr ⟨q,by simp [hq],h⟩
theorem Cb:∀ (a:List Pg) (p:Pg) (l:Int) (k:Nat),okP l (a++[p])=true→find (a++[p]) k=if p.n=(k:Int) then p.d else find a k
 | [],p,l,k,_=>rfl
 | q :: a,p,l,k,h=>by
  obtain⟨h1,h2,h3,h4,h5⟩:=iq.1 h
  have hp:=(qc _ _ h5 p (by simp)).1
  rw [List.cons_append,find,Cb a p q.n k h5,find]
  by_cases hq:q.n=(k:Int)
  ·rw [if_pos hq,if_pos hq,if_neg (by omega)]
  ·rw [if_neg hq,if_neg hq]
theorem SN:∀ (o o':List Pg) (l:Int), -1≤l→okP l o=true→okP l o'=true→(∀ k:Nat,l<(k:Int)→find o k=find o' k)→o=o'
 | [],[],_,_,_,_,_=>rfl
 | [],q :: r',l,hl,_,h',he=>by
  obtain⟨h1,h2,h3,h4,h5⟩:=iq.1 h'
  have:=he q.n.toNat (by omega)
  rw [find,find,if_pos (by omega)] at this
  rw [←this,vI] at h4
  cases h4
 | p :: r,[],l,hl,h,_,he=>by
  obtain⟨h1,h2,h3,h4,h5⟩:=iq.1 h
  have:=he p.n.toNat (by omega)
  rw [find,find,if_pos (by omega)] at this
  rw [this,vI] at h4
  cases h4
 | p :: r,q :: r',l,hl,h,h',he=>by
  obtain⟨h1,h2,h3,h4,h5⟩:=iq.1 h
  obtain⟨g1,g2,g3,g4,g5⟩:=iq.1 h'
  have hpq:p.n=q.n:=by
   apply Decidable.byContradiction
   intro hne
   rcases Int.lt_or_gt_of_ne hne with hlt | hlt
   ·have:=he p.n.toNat (by omega)
    rw [find,if_pos (by omega),find,if_neg (by omega),GU r' q.n _ g5 (by omega)] at this
    rw [this,vI] at h4
    cases h4
   ·have:=he q.n.toNat (by omega)
    rw [find,if_neg (by omega),find,if_pos (by omega),GU r p.n _ h5 (by omega)] at this
    rw [←this,vI] at g4
    cases g4
  have hd:p.d=q.d:=by
   have:=he p.n.toNat (by omega)
   rw [find,if_pos (by omega),find,if_pos (by omega)] at this
   exact this
  have hp:p=q:=by
   obtain⟨a,b⟩:=p
   obtain⟨c,d⟩:=q
   simp only at hpq hd
   rw [hpq,hd]
  subst hp
  rw [SN r r' p.n (by omega) h5 g5 (fun k hk=>by
   have:=he k (by omega)
   rw [find,if_neg (by omega),find,if_neg (by omega)] at this
   exact this)]
theorem IU{o o':List Pg}(h:right o=true)(h':right o'=true)(he:∀ k,k<32→find o k=find o' k):o=o':=by
 refine SN o o' (-1) (by decide) h h' (fun k _=> ?_)
 by_cases hk:k<32
 ·exact he k hk
 ·have none:∀ x:List Pg,right x=true→find x k=zs 32:=fun x hx=>by
   rcases GR x k with h0 | ⟨p,hp,h1,_⟩
   ·exact h0
   ·have:=(qc x (-1) hx p hp).2.1
    omega
  rw [none o h,none o' h']
def book(o:List Pg):List (List UInt8):=(List.range 32).map (find o)
def body(o:List Pg):List UInt8:=(book o).flatten
theorem xu(o:List Pg):(book o).length=32:=by simp [book]
theorem CW{o:List Pg}(h:right o=true):∀ b∈book o,b.length=32:=by
 intro b hb
 simp only [book,List.mem_map] at hb
 obtain⟨k,_,rfl⟩:=hb
 exact GV o (-1) k h
theorem fM{o:List Pg}(h:right o=true):(body o).length=1024:=by
 unfold body
 rw [zW 32 _ (CW h),xu]
theorem Ht(o:List Pg){k:Nat}(hk:k<32):(book o)[k]?=some (find o k):=by
 simp [book,hk]
theorem Ou:body []=zs 1024:=by decide +kernel
def chunk(b:List UInt8)(k:Nat):List UInt8:=(b.drop (k*32)).take 32
theorem mG{b:List UInt8}(h:b.length=1024){k:Nat}(hk:k<32):(chunk b k).length=32:=by
 unfold chunk
 rw [List.length_take,List.length_drop]
 omega
theorem ES:∀ (L:List (List UInt8)) (k:Nat) (b:List UInt8),(∀ b∈L,b.length=32)→L[k]?=some b→(L.flatten.drop (k*32)).take 32=b
 | [],k,b,_,hk=>by simp at hk
 | x :: L,0,b,h,hk=>by
  simp only [List.getElem?_cons_zero,Option.some.injEq] at hk
  subst hk
  rw [Nat.zero_mul,List.drop_zero,List.flatten_cons,List.take_append_of_le_length (by rw [h x (by simp)];exact Nat.le_refl _)]
  exact List.take_of_length_le (by rw [h x (by simp)];exact Nat.le_refl _)
 | x :: L,k+1,b,h,hk=>by
  rw [List.getElem?_cons_succ] at hk
  have hx:=h x (by simp)
  rw [List.flatten_cons,List.drop_append,List.drop_of_length_le (by rw [hx];omega),List.nil_append,hx]
  rw [show (k+1)*32-32=k*32 by omega]
  exact ES L k b (fun y hy=>h y (by simp [hy])) hk
theorem yD{o:List Pg}(h:right o=true){k:Nat}(hk:k<32):chunk (body o) k=find o k:=
 ES _ k _ (CW h) (Ht o hk)
def je(f:Nat→List UInt8):Nat→List Pg
 | 0=>[]
 | k+1=>if iG (f k) then je f k else je f k++[⟨k,f k⟩]
def pages(b:List UInt8):List Pg:=je (chunk b) 32
theorem Eh(f:Nat→List UInt8):∀ k,(je f k).length≤k
 | 0=>Nat.le_refl _
 | k+1=>by
  have:=Eh f k
  rw [je]
  split
  ·omega
  ·simp;omega
theorem Ef(f:Nat→List UInt8):∀ k,top (-1) (je f k)<(k:Int)
 | 0=>by rw [je,top];omega
 | k+1=>by
  have:=Ef f k
  rw [je]
  split
  ·omega
  ·rw [DK,top,top]
   simp only
   omega
theorem qY(f:Nat→List UInt8):∀ k,k≤32→(∀ j,j<k→(f j).length=32)→right (je f k)=true
 | 0,_,_=>rfl
 | k+1,hk,h=>by
  have ih:=qY f k (by omega) (fun j hj=>h j (by omega))
  rw [je]
  split
  ·exact ih
  ·rename_i hz
   unfold right at ih ⊢
   rw [sV,ih,Bool.true_and,iq]
   exact⟨Ef f k,by simp only;omega,h k (by omega),by simpa using hz,rfl⟩
theorem Bc(f:Nat→List UInt8)(j:Nat):∀ k,k≤32→(∀ j,j<k→(f j).length=32)→find (je f k) j=if j<k then f j else zs 32
 | 0,_,_=>rfl
 | k+1,hk,h=>by
  have ih:=Bc f j k (by omega) (fun j hj=>h j (by omega))
  have hr:=qY f (k+1) hk h
  rw [je] at hr ⊢
  by_cases hz:iG (f k)=true
  ·rw [if_pos hz,ih]
   by_cases hjk:j=k
   ·subst hjk
    rw [if_neg (by omega),if_pos (by omega)]
    exact (GY hz (h j (by omega))).symm
   ·by_cases hlt:j<k
    ·rw [if_pos hlt,if_pos (by omega)]
    ·rw [if_neg hlt,if_neg (by omega)]
  ·rw [if_neg hz] at hr ⊢
   rw [Cb _ _ (-1) j hr,ih]
   by_cases hjk:j=k
   ·subst hjk
    rw [if_pos rfl,if_pos (by omega)]
   ·rw [if_neg (by simp only;omega)]
    by_cases hlt:j<k
    ·rw [if_pos hlt,if_pos (by omega)]
    ·rw [if_neg hlt,if_neg (by omega)]
theorem uP{b:List UInt8}(h:b.length=1024):right (pages b)=true:=qY _ 32 (Nat.le_refl _) (fun _ hj=>mG h hj)
theorem PE{b:List UInt8}(h:b.length=1024){j:Nat}(hj:j<32):find (pages b) j=chunk b j:=by
 have:=Bc (chunk b) j 32 (Nat.le_refl _) (fun _ hj=>mG h hj)
 rw [if_pos hj] at this
 exact this
theorem Ee{o:List Pg}(h:right o=true):pages (body o)=o:=
 IU (uP (fM h)) h fun k hk=>by rw [PE (fM h) hk,yD h hk]
def lay(b:List UInt8)(off:Nat)(x:List UInt8):List UInt8:=b.take off++(x++b.drop (off+x.length))
theorem TA{b x:List UInt8}{off:Nat}(h:off+x.length≤b.length):(lay b off x).length=b.length:=by
 simp only [lay,List.length_append,List.length_take,List.length_drop]
 omega
theorem UZ{o:List Pg}{p:Pg}(h:right (o++[p])=true):body (o++[p])=lay (body o) (p.n.toNat*32) p.d:=by
 have hp:=qc _ _ h p (by simp)
 have ho:right o=true:=by
  unfold right at h ⊢
  rw [sV,Bool.and_eq_true] at h
  exact h.1
 have e:book (o++[p])=(book o).set p.n.toNat p.d:=by
  apply List.ext_getElem?
  intro i
  rw [List.getElem?_set,xu]
  by_cases hi:i<32
  ·rw [Ht _ hi,Cb o p (-1) i h]
   by_cases hpi:p.n.toNat=i
   ·rw [if_pos (by omega),if_pos hpi,if_pos (by omega)]
   ·rw [if_neg (by omega),if_neg hpi,Ht _ hi]
  ·rw [List.getElem?_eq_none (by rw [xu];omega),if_neg (by omega),List.getElem?_eq_none (by rw [xu];omega)]
 unfold body lay
 rw [e,GK 32 _ _ _ (CW ho) (by rw [xu];omega) hp.2.2.1,hp.2.2.1]
theorem DY{o:List Pg}(h:right o=true)(k:Nat):right (o.take k)=true:=by
 unfold right at h ⊢
 rw [←List.take_append_drop k o,sV,Bool.and_eq_true] at h
 exact h.1
def ZR(b:List UInt8)(n:Nat):Prop:=n≤b.length∧(∀ i,n≤i→b.getD i 0=0)∧(n=0∨b.getD (n-1) 0≠0)
def jl(l:List UInt8):List UInt8:=(l.reverse.dropWhile (· == 0)).reverse
theorem oH(l:List UInt8)(x:UInt8):jl (l++[x])=if x=0 then jl l else l++[x]:=by
 unfold jl
 rw [List.reverse_append,List.reverse_singleton,List.singleton_append,List.dropWhile_cons]
 by_cases h:x=0
 ·subst h;simp
 ·have:(x==0)=false:=by simpa using h
  rw [this,if_neg h]
  simp
theorem IK(l:List UInt8):ZR l (jl l).length:=by
 refine mZ (p:=fun l=>ZR l (jl l).length) ⟨Nat.le_refl _,fun i _=>by simp,.inl rfl⟩ (fun l x ih=> ?_) l
 obtain⟨h1,h2,h3⟩:=ih
 rw [oH]
 split
 ·rename_i hx
  subst hx
  refine⟨by simp;omega,fun i hi=> ?_,?_⟩
  ·by_cases hil:i<l.length
   ·rw [List.getD_eq_getElem?_getD,List.getElem?_append_left hil,←List.getD_eq_getElem?_getD]
    exact h2 i hi
   ·rw [List.getD_eq_getElem?_getD,List.getElem?_append_right (by omega)]
    cases hj:i-l.length with
    | zero=>rfl
    | succ j=>rfl
  ·rcases h3 with h3 | h3
   ·exact .inl h3
   ·refine .inr ?_
    by_cases hn:(jl l).length=0
    ·intro _
     have:=h3
     rw [hn] at this
     by_cases hl:0<l.length
     ·exact this (h2 0 (by omega))
     ·have:l = []:=List.eq_nil_of_length_eq_zero (by omega)
      subst this
      simp at h3
    ·rw [List.getD_eq_getElem?_getD,List.getElem?_append_left (by omega),←List.getD_eq_getElem?_getD]
     exact h3
 ·rename_i hx
  refine⟨Nat.le_refl _,fun i hi=> ?_,.inr ?_⟩
  ·rw [List.getD_eq_getElem?_getD,List.getElem?_eq_none hi];rfl
  ·rw [List.getD_eq_getElem?_getD,List.length_append,List.length_singleton,Nat.add_sub_cancel,List.getElem?_append_right (Nat.le_refl _),Nat.sub_self]
   exact hx
theorem O5{l:List UInt8}(h:iG l=false):jl l≠[]:=by
 intro h0
 have e:=IK l
 rw [h0] at e
 have:iG l=true:=by
  unfold iG
  rw [List.all_eq_true]
  intro x hx
  obtain⟨i,hi,rfl⟩:=List.getElem_of_mem hx
  have:=e.2.1 i (Nat.zero_le _)
  rw [List.getD_eq_getElem?_getD,List.getElem?_eq_getElem hi] at this
  simpa using this
 rw [h] at this
 cases this
theorem YG(n i:Nat):(zs n).getD i 0=0:=by
 unfold zs
 rw [List.getD_eq_getElem?_getD,List.getElem?_replicate]
 split<;>rfl
theorem length_nil:ZR (body []) 0:=by
 rw [Ou]
 exact⟨Nat.zero_le _,fun i _=>YG _ _,.inl rfl⟩
def UK(b:List UInt8)(m:Nat):List UInt8:=b.take m++zs (1024-m)
theorem Ot{b:List UInt8}(h:b.length=1024){m:Nat}(hm:m≤1024):(UK b m).length=1024:=by
 simp only [UK,List.length_append,List.length_take,lK]
 omega
def Ey(f:List UInt8)(n:Nat):List UInt8:=f++[0,UInt8.ofNat n]
def xq(fl:List UInt8)(f g:Nat→List UInt8):Nat→List Ch
 | 0=>[]
 | k+1=>if g k=f k then xq fl f g k else if iG (g k) then xq fl f g k++[⟨Ey fl k,[],true⟩] else xq fl f g k++[⟨Ey fl k,g k,false⟩]
theorem Ho(fl:List UInt8)(f g:Nat→List UInt8):∀ k,(xq fl f g k).length≤k
 | 0=>Nat.le_refl _
 | k+1=>by
  have:=Ho fl f g k
  rw [xq]
  split
  ·omega
  ·split<;>simp<;>omega
end Go.Proofs.YtmelaiefbpdifaaGreatDoor.Pgs
/- Noughts: strings.Trim, TrimRight of noughts; zero; the document's Noughts. -/
namespace Go.Proofs.YtmelaiefbpdifaaGreatDoor.Pgs
open Go.RowKit
theorem yQ(l:List UInt8):(jl l).length≤l.length:=(IK l).1
theorem Rq(q:List UInt8)(x:UInt8):((strOf (q++[x])).size:Int)=(q.length:Int)+1:=by rw [aj];simp
theorem OV(q:List UInt8)(x:UInt8)(i:Int)(hi:i=q.length):
  ∀ W:World,(Instr.index 9 (.string (strOf (q++[x]))) (.int .i64 i)).run Tryz.prog W = .ok (kL x) W:=by
 have:=bQ (P:=Tryz.prog) 9 Tryz.underlying9 (q++[x]) q.length i .i64 hi (by simp)
 intro W
 rw [this W]
 simp [kL,List.getD]
theorem Ro(q:List UInt8)(x:UInt8)(i:Int)(hi:i=q.length):
  ∀ W:World,(Instr.slice 9 (.string (strOf (q++[x]))) none (some (.int .i64 i)) none).run Tryz.prog W = .ok (.string (strOf q)) W:=by
 have:=gZ (P:=Tryz.prog) 9 Tryz.underlying9 (q++[x]) q.length i .i64 hi (by simp)
 intro W
 rw [this W]
 simp
theorem Hq{x:UInt8}(h:¬x=0):((x.toNat:Int)==0)=false:=by
 rw [beq_eq_false_iff_ne]
 intro e
 exact h (UInt8.toNat_inj.1 (by simpa using e))
set_option maxRecDepth 100000 in
theorem FD(w:World)(l:List UInt8)(hl:l.length≤1048576):
  Calls Tryz.prog 177 #[.string (strOf l),.int .u8 0] w fun e w'=>e = .returned (.string (strOf (jl l)))∧w'=w:=by
 go_enter Tryz.func177,Tryz.ntmps177
 go_wp2_with fail
 go_loopw [0] (fun s wr=>∃ r:List UInt8,s = .string (strOf r)∧jl r=jl l∧r.length≤l.length∧wr=w) (fun s _=>strLen s)
 case atStart=>exact⟨l,rfl,rfl,Nat.le_refl _,rfl⟩
 case round=>
  obtain⟨r,rfl,hr,hrl,rfl⟩:=hrel
  have HR:=Lib.hid hr
  clear hr
  rcases List.eq_nil_or_concat r with rfl | ⟨q,x,rfl⟩
  ·have h0:strOf []=⟨#[]⟩:=rfl
   rw [h0]
   go_wp2
   go_ret
   exact⟨by rw [←HR.out];rfl,rfl⟩
  ·rw [List.concat_eq_append] at *
   have hql:(q.length:Int)+1≤1048576:=by simp at hrl;omega
   have ab8:q.length≤l.length:=by simp at hrl;omega
   have hsz:=Rq q x
   have hsz':=aj q
   have hix:=OV q x _ rfl
   have hup:=Ro q x _ rfl
   have hrx:=oH q x
   replace hrx:=Lib.hid hrx
   generalize hQ:strOf (q++[x])=Q at *
   replace hQ:=Lib.hid hQ
   unfold kL at hix
   by_cases hx:x=0
   ·have hz:(x.toNat:Int)=0:=by rw [hx];rfl
    have hnext:jl q=jl l:=by have h1:=hrx.out;rw [if_pos hx] at h1;rw [←h1];exact HR.out
    have hqs:strLen (.string (strOf q))<strLen (.string Q):=by simp only [strLen];omega
    rw [hz] at hix
    replace hnext:=Lib.hid hnext
    replace hx:=Lib.hid hx
    clear hrl
    go_wp2_with fail
    go_roundw
    case rel=>exact⟨q,rfl,hnext.out,ab8,trivial⟩
    case measure=>exact hqs
   ·have hz:=Hq hx
    have hans:jl l=q++[x]:=by have h1:=hrx.out;rw [if_neg hx] at h1;rw [←h1];exact HR.out.symm
    replace hans:=Lib.hid hans
    generalize (x.toNat:Int)=xi at *
    replace hx:=Lib.hid hx
    clear hrl
    go_wp2
    go_ret
    exact⟨by rw [hans.out,hQ.out];rfl,rfl⟩
def uU(l:List UInt8):List UInt8:=l.dropWhile (· == 0)
theorem Et(x:UInt8)(l:List UInt8):uU (x :: l)=if x=0 then uU l else x :: l:=by
 unfold uU
 rw [List.dropWhile_cons]
 by_cases h:x=0
 ·subst h;simp
 ·have:(x==0)=false:=by simpa using h
  rw [this,if_neg h]
  simp
theorem UM(q:List UInt8)(x:UInt8):((strOf (x :: q)).size:Int)=(q.length:Int)+1:=by rw [aj];simp
theorem EZ(q:List UInt8)(x:UInt8):
  ∀ W:World,(Instr.index 9 (.string (strOf (x :: q))) (.int .i64 0)).run Tryz.prog W = .ok (kL x) W:=by
 have:=bQ (P:=Tryz.prog) 9 Tryz.underlying9 (x :: q) 0 0 .i64 rfl (by simp)
 intro W
 rw [this W]
 simp [kL,List.getD]
theorem UN(q:List UInt8)(x:UInt8):
  ∀ W:World,(Instr.slice 9 (.string (strOf (x :: q))) (some (.int .i64 1)) none none).run Tryz.prog W = .ok (.string (strOf q)) W:=by
 have:=iy (P:=Tryz.prog) 9 Tryz.underlying9 (x :: q) 1 1 .i64 rfl (by simp)
 intro W
 rw [this W]
 simp
set_option maxRecDepth 100000 in
theorem Il(w:World)(l:List UInt8)(hl:l.length≤1048576):
  Calls Tryz.prog 176 #[.string (strOf l),.int .u8 0] w fun e w'=>e = .returned (.string (strOf (uU l)))∧w'=w:=by
 go_enter Tryz.func176,Tryz.ntmps176
 go_wp2_with fail
 go_loopw [0] (fun s wr=>∃ r:List UInt8,s = .string (strOf r)∧uU r=uU l∧r.length≤l.length∧wr=w) (fun s _=>strLen s)
 case atStart=>exact⟨l,rfl,rfl,Nat.le_refl _,rfl⟩
 case round=>
  obtain⟨r,rfl,hr,hrl,rfl⟩:=hrel
  have HR:=Lib.hid hr
  clear hr
  cases r with
  | nil=>
   have h0:strOf []=⟨#[]⟩:=rfl
   rw [h0]
   go_wp2
   go_ret
   exact⟨by rw [←HR.out];rfl,rfl⟩
  | cons x q=>
   have hql:(q.length:Int)+1≤1048576:=by simp at hrl;omega
   have ab8:q.length≤l.length:=by simp at hrl;omega
   have hsz:=UM q x
   have hsz':=aj q
   have hix:=EZ q x
   have hup:=UN q x
   have hrx:=Et x q
   replace hrx:=Lib.hid hrx
   generalize hQ:strOf (x :: q)=Q at *
   replace hQ:=Lib.hid hQ
   unfold kL at hix
   by_cases hx:x=0
   ·have hz:(x.toNat:Int)=0:=by rw [hx];rfl
    have hnext:uU q=uU l:=by have h1:=hrx.out;rw [if_pos hx] at h1;rw [←h1];exact HR.out
    have hqs:strLen (.string (strOf q))<strLen (.string Q):=by simp only [strLen];omega
    rw [hz] at hix
    replace hnext:=Lib.hid hnext
    replace hx:=Lib.hid hx
    clear hrl
    go_wp2_with fail
    go_roundw
    case rel=>exact⟨q,rfl,hnext.out,ab8,trivial⟩
    case measure=>exact hqs
   ·have hz:=Hq hx
    have hans:uU l=x :: q:=by have h1:=hrx.out;rw [if_neg hx] at h1;rw [←h1];exact HR.out.symm
    replace hans:=Lib.hid hans
    generalize (x.toNat:Int)=xi at *
    replace hx:=Lib.hid hx
    clear hrl
    go_wp2
    go_ret
    exact⟨by rw [hans.out,hQ.out];rfl,rfl⟩
theorem Ji{l:List UInt8}:uU l = []↔iG l=true:=by
 induction l with
 | nil=>simp [uU,iG]
 | cons x l ih=>
  rw [Et]
  by_cases h:x=0
  ·subst h;rw [if_pos rfl,ih];simp [iG]
  ·rw [if_neg h];simp [iG,h]
theorem O6{l:List UInt8}:jl l = []↔iG l=true:=by
 unfold jl
 rw [List.reverse_eq_nil_iff]
 have:=Ji (l:=l.reverse)
 unfold uU at this
 rw [this]
 simp [iG]
theorem Qy{l:List UInt8}(h:iG (jl l)=true):iG l=true:=by
 apply Decidable.byContradiction
 intro hn
 have hs:=O5 (by simpa using hn)
 obtain⟨q,x,hq⟩:∃ q x,jl l=q++[x]:=by
  rcases List.eq_nil_or_concat (jl l) with h0 | ⟨q,x,h0⟩
  ·exact (hs h0).elim
  ·exact⟨q,x,by simpa using h0⟩
 have hx:x≠0:=by
  intro h0
  have e:jl (jl l)=jl l:=by
   refine mZ (p:=fun l=>jl (jl l)=jl l) rfl (fun l y ih=> ?_) l
   rw [oH]
   split
   ·exact ih
   ·rename_i hy
    rw [oH,if_neg hy]
  rw [hq,oH,if_pos h0] at e
  have h1:=congrArg List.length e
  have h2:=yQ q
  simp at h1
  omega
 rw [hq] at h
 simp [iG] at h
 exact hx h.2
theorem Vr(l:List UInt8):uU (jl l) = []↔iG l=true:=by
 rw [Ji]
 refine⟨Qy,fun h=> ?_⟩
 rw [O6.2 h]
 rfl
set_option maxRecDepth 100000 in
theorem Vs(w:World)(l:List UInt8)(hl:l.length≤1048576):
  Calls Tryz.prog 134 #[.string (strOf l),.string ⟨#[0]⟩] w fun e w'=>e = .returned (.string (strOf (uU (jl l))))∧∃ m,w'=w.drewN m:=by
 cases l with
 | nil=>
  have h0:strOf []=⟨#[]⟩:=rfl
  rw [h0]
  go_enter Tryz.func134,Tryz.ntmps134
  go_wp2
  go_ret
  exact⟨rfl,0,rfl⟩
 | cons x q=>
  have hne:((strOf (x :: q)).toList==([]:List UInt8))=false:=by
   rw [show (strOf (x :: q)).toList=x :: q from ByteArray.toList_mk _];rfl
  have hix:=EZ [] 0
  have hsz:(strOf (0 :: [])).size=1:=rfl
  rw [show strOf (0 :: [])=⟨#[0]⟩ from rfl] at hix hsz
  unfold kL at hix
  have hans:=fun W=>FD W (x :: q) hl
  have acP:=fun W=>Il W (jl (x :: q)) (Nat.le_trans (yQ _) hl)
  generalize strOf (x :: q)=Q at *
  generalize jl (x :: q)=R at *
  go_enter Tryz.func134,Tryz.ntmps134
  go_wp2_with fail
  go_quiet ((first | (with_reducible refine Calls.quiet_of_same (hans _)) | (with_reducible refine Calls.quiet_of_same (acP _))))
  go_wp2
  go_ret
  exact⟨rfl,_,rfl⟩
set_option maxRecDepth 100000 in
theorem Fz(w:World)(l:List UInt8)(hl:l.length≤1048576):
  Calls Tryz.prog 123 #[.string (strOf l)] w fun e w'=>e = .returned (.bool (iG l))∧∃ m,w'=w.drewN m:=by
 have ht:=fun W=>Vs W l hl
 have hz:=Vr l
 generalize uU (jl l)=T at *
 go_enter Tryz.func123,Tryz.ntmps123
 go_wp2_with fail
 refine (ht _).mono ?_;rintro e w1 ⟨rfl,m,rfl⟩
 cases T with
 | nil=>
  have h0:strOf []=⟨#[]⟩:=rfl
  rw [h0]
  have hz':=Lib.hid (hz.1 rfl)
  clear hz
  go_wp2
  go_ret
  exact⟨by rw [hz'.out];rfl,m,rfl⟩
 | cons x q=>
  have hne:((strOf (x :: q)).toList==([]:List UInt8))=false:=by
   rw [show (strOf (x :: q)).toList=x :: q from ByteArray.toList_mk _];rfl
  have hf:iG l=false:=by
   cases h:iG l with
   | false=>rfl
   | true=>have:=hz.2 h;cases this
  have hf:=Lib.hid hf
  generalize strOf (x :: q)=Q at *
  clear hz
  go_wp2
  go_ret
  exact⟨by rw [hf.out];rfl,m,rfl⟩
theorem U9{l:List UInt8}{k:Nat}(h:k<l.length):iG (l.take (k+1))=(iG (l.take k) && l[k]==0):=by
 rw [List.take_add_one,List.getElem?_eq_getElem h]
 simp only [iG,List.all_append,Option.toList_some,List.all_cons,List.all_nil,Bool.and_true]
theorem X5{l:List UInt8}{k:Nat}(h:k<l.length)(hk:¬l[k]=0):iG l=false:=by
 apply Bool.eq_false_iff.2
 intro hz
 unfold iG at hz
 rw [List.all_eq_true] at hz
 exact hk (by simpa using hz l[k] (List.getElem_mem h))
set_option maxRecDepth 100000 in
theorem uS(w:World)(l:List UInt8)(hl:l.length≤1048576):
  Calls Tryz.prog 199 #[.string (strOf l)] w fun e w'=>e = .returned (.bool (iG l))∧w'=w:=by
 have hsz:=aj l
 have hix:=fun (k:Nat) (h:k<l.length)=>bQ (P:=Tryz.prog) 9 Tryz.underlying9 l k k .i64 rfl h
 generalize hs:strOf l=s at *
 replace hs:=Lib.hid hs
 replace hix:=Lib.hid hix
 obtain⟨n,hn⟩:∃ n,n=l.length:=⟨_,rfl⟩
 have hsn:s.size=n:=by omega
 have hn1:n≤1048576:=by omega
 have HN:=Lib.hid hn
 clear hn hsz hl
 go_enter Tryz.func199,Tryz.ntmps199
 go_wp2_with fail
 go_loopw [3] (fun i wr=>∃ k:Nat,k≤n∧i = .int .i64 k∧iG (l.take k)=true∧wr=w) (fun i _=>n-(intOf i).toNat)
 case atStart=>exact⟨0,by omega,rfl,rfl,rfl⟩
 case round=>
  obtain⟨k,hk,rfl,hz,rfl⟩:=hrel
  by_cases hlt:k<n
  ·have hkl:k<l.length:=by have:=HN.out;omega
   have hik:=hix.out k hkl
   have hx:l.getD k 0=l[k]:=by rw [List.getD_eq_getElem?_getD,List.getElem?_eq_getElem hkl];rfl
   rw [hx] at hik
   by_cases hb:l[k]=0
   ·have hnext:iG (l.take (k+1))=true:=by rw [U9 hkl,hz,hb];rfl
    rw [hb] at hik
    have hzz:((0:UInt8).toNat:Int)=0:=rfl
    rw [hzz] at hik
    replace hnext:=Lib.hid hnext
    replace hb:=Lib.hid hb
    clear hz hx
    go_wp2_with fail
    go_roundw
    case rel=>exact⟨k+1,by omega,by go_num,hnext.out,trivial⟩
    case measure=>simp [intOf];omega
   ·have hno:=X5 hkl hb
    have hne:=Hq hb
    have hno:=Lib.hid hno
    generalize (l[k].toNat:Int)=xi at *
    replace hb:=Lib.hid hb
    clear hz hx
    go_wp2
    go_ret
    exact⟨by rw [hno.out];rfl,rfl⟩
  ·have hyes:iG l=true:=by
    have:=HN.out
    rw [List.take_of_length_le (by omega)] at hz
    exact hz
   have hyes:=Lib.hid hyes
   clear hz
   go_wp2
   go_ret
   exact⟨by rw [hyes.out];rfl,rfl⟩
end Go.Proofs.YtmelaiefbpdifaaGreatDoor.Pgs
/- Right: is a list an object? By the program, by the document. -/
namespace Go.Proofs.YtmelaiefbpdifaaGreatDoor.Pgs
open Go.RowKit
def pgE(p:Pg):List Value:=[.int .i64 p.n,.string (strOf p.d)]
theorem cO(p:Pg):(pgE p).length=2:=rfl
theorem nS(p:Pg):∀ v∈pgE p,v.oneCell'=true:=by
 intro v hv
 simp [pgE] at hv
 rcases hv with rfl | rfl<;>rfl
theorem nX:(Tryz.prog.info? 138).map (fun i=>(i.zero,i.size,i.bytes))=some (some (.agg #[.int .i64 0,.string ⟨#[]⟩]),2,24):=by kernel_rfl
theorem Ba{w:World}{g o:Nat}{l:List Pg}(h:jq pgE 2 w g o l){i:Nat}(hi:i<l.length):w.cell? ⟨g,o+i*2,none⟩=some (.int .i64 l[i].n)∧w.cell? ⟨g,o+i*2+1,none⟩=some (.string (strOf l[i].d)):=
 ⟨by simpa using h i hi 0 _ rfl,h i hi 1 _ rfl⟩
theorem Yi{last:Int}{p:Pg}{r:List Pg}(h:¬(last<p.n∧p.n<32∧p.d.length=32∧iG p.d=false)):okP last (p :: r)=false:=by
 apply Bool.eq_false_iff.2
 intro hk
 obtain⟨h1,h2,h3,h4,_⟩:=iq.1 hk
 exact h ⟨h1,h2,h3,h4⟩
theorem SK{last:Int}{p:Pg}{r:List Pg}(h1:last<p.n)(h2:p.n<32)(h3:p.d.length=32)(h4:iG p.d=false):okP last (p :: r)=okP p.n r:=by
 simp [okP,h1,h2,h3,h4]
set_option maxRecDepth 100000 in
set_option maxHeartbeats 1000000 in
theorem fQ(w:World)(A:Option Addr)(c n:Nat)(o:List Pg)(hn:n=o.length)(hA:Els pgE 2 w A o)(hl:n≤9223372036854775807):
  Calls Tryz.prog 65 #[.slice A n c] w fun e w'=>e = .returned (.bool (right o))∧Only [] w w':=by
 have HN:=Lib.hid hn
 clear hn
 go_enter Tryz.func65,Tryz.ntmps65
 go_wp2_with fail
 go_loopw [3,8] (fun v i wr=>∃ (k:Nat) (last:Int),k≤n∧i = .int .i64 k∧v = .int .i64 last∧Hid (right o=okP last (o.drop k))∧Only [] w wr) (fun _ i _=>n-(intOf i).toNat)
 case atStart=>exact⟨0, -1,by omega,rfl,rfl,rfl,Only.refl _ _⟩
 case round=>
  obtain⟨k,last,hk,rfl,rfl,hr,aF⟩:=hrel
  by_cases hlt:k<n
  ·have hk':k<o.length:=by have:=HN.out;omega
   obtain⟨g,off,rfl,_,hat⟩:=hA.get hk'
   obtain⟨c0,c1⟩:=Ba (hat.kept aF (by simp)) hk'
   have hd:o.drop k=o[k] :: o.drop (k+1):=List.drop_eq_getElem_cons hk'
   generalize o[k]=p at *
   obtain⟨N,d⟩:=p
   simp only at c0 c1
   have hsz:=aj d
   have hno:¬(last<N∧N<32∧d.length=32∧iG d=false)→Hid (right o=false):=fun h=>by
    show right o=false
    rw [hr.out,hd]
    exact Yi h
   have hyes:last<N→N<32→d.length=32→iG d=false→Hid (right o=okP N (o.drop (k+1))):=fun a1 a2 a3 a4=>by
    show right o=_
    rw [hr.out,hd]
    exact SK a1 a2 a3 a4
   have hzero:=fun W (h:d.length≤1048576)=>Fz W d h
   generalize hs:strOf d=s at *
   have hs:=Lib.hid hs
   have hno:=Lib.hid hno
   have hyes:=Lib.hid hyes
   have hd:=Lib.hid hd
   rename_i hs0 aex abV hd0
   clear hs0 aex abV hd0 hr hat hA
   by_cases h1:N≤last
   ·have hf:=hno.out (by omega)
    go_wp2
    go_ret
    exact⟨by rw [hf.out];rfl,aF.alloc _⟩
   ·by_cases h2:N<32
    ·by_cases h3:d.length=32
     ·have h3':s.size=32:=by omega
      have hz:=fun W=>hzero W (by omega)
      clear hzero
      by_cases h4:iG d=true
      ·have hf:=hno.out (by simp [h4])
       rw [h4] at hz
       have h3:=Lib.hid h3
       rename_i h30
       clear h30 hsz
       go_wp2_with fail
       refine (hz _).mono ?_;rintro e w1 ⟨rfl,m,rfl⟩
       go_wp2
       go_ret
       exact⟨by rw [hf.out];rfl,(aF.alloc _).drewN m⟩
      ·have h4':iG d=false:=by simpa using h4
       have hnext:=hyes.out (by omega) h2 h3 h4'
       rw [h4'] at hz
       have h3:=Lib.hid h3
       have h4':=Lib.hid h4'
       rename_i h30 h40
       clear h30 h40 h4 hsz
       go_wp2_with fail
       refine (hz _).mono ?_;rintro e w1 ⟨rfl,m,rfl⟩
       go_wp2_with fail
       go_roundw
       case rel=>exact⟨k+1,N,by omega,by go_num,rfl,hnext,(aF.alloc _).drewN m⟩
       case measure=>simp [intOf];omega
     ·have hf:=hno.out (fun h=>h3 h.2.2.1)
      have h3':¬(s.size:Int)=32:=by omega
      clear hzero
      go_wp2
      go_ret
      exact⟨by rw [hf.out];rfl,aF.alloc _⟩
    ·have hf:=hno.out (fun h=>h2 h.2.1)
     clear hzero
     go_wp2
     go_ret
     exact⟨by rw [hf.out];rfl,aF.alloc _⟩
  ·have hfin:right o=true:=by
    rw [hr.out,List.drop_of_length_le (by have:=HN.out;omega)]
    rfl
   have hfin:=Lib.hid hfin
   clear hA hr
   go_wp2
   go_ret
   exact⟨by rw [hfin.out];rfl,aF⟩
end Go.Proofs.YtmelaiefbpdifaaGreatDoor.Pgs
/- The document's Right. -/
namespace Go.Proofs.YtmelaiefbpdifaaGreatDoor.Pgs
open Go.RowKit
def Jq(o:List Pg):Nat→Int
 | 0 => -1
 | j+1=>(o.getD j default).n
set_option maxRecDepth 100000 in
set_option maxHeartbeats 2000000 in
theorem IL(w:World)(A:Option Addr)(c n:Nat)(o:List Pg)(hn:n=o.length)(hA:Els pgE 2 w A o)(hl:n≤9223372036854775807):
  Calls Tryz.prog 152 #[.slice A n c] w fun e w'=>e = .returned (.bool (right o))∧Only [] w w':=by
 have HN:=Lib.hid hn
 clear hn
 go_enter Tryz.func152,Tryz.ntmps152
 go_wp2_with fail
 go_loopw [3] (fun i wr=>∃ (k:Nat),k≤n∧i = .int .i64 k∧Hid (right o=okP (Jq o k) (o.drop k) ∧ -1≤Jq o k)∧Only [] w wr) (fun i _=>n-(intOf i).toNat)
 case atStart=>exact⟨0,by omega,rfl,⟨rfl,Int.le_refl _⟩,Only.refl _ _⟩
 case round=>
  obtain⟨k,hk,rfl,hr,aF⟩:=hrel
  by_cases hlt:k<n
  ·have hk':k<o.length:=by have:=HN.out;omega
   obtain⟨g,off,rfl,_,hat⟩:=hA.get hk'
   have hat':=hat.kept aF (by simp)
   obtain⟨c0,c1⟩:=Ba hat' hk'
   have hd:o.drop k=o[k] :: o.drop (k+1):=List.drop_eq_getElem_cons hk'
   have hlast:Jq o (k+1)=o[k].n:=by
    rw [Jq,List.getD_eq_getElem?_getD,List.getElem?_eq_getElem hk']
    rfl
   obtain⟨last,hL⟩:∃ last,last=Jq o k:=⟨_,rfl⟩
   rw [←hL] at hr
   have Jz:∀ j,k=j+1→wr.cell? ⟨g,off+j*2,none⟩=some (.int .i64 last):=fun j hj=>by
    subst hj
    have:=(Ba hat' (i:=j) (by omega)).1
    rw [this,hL,Jq,List.getD_eq_getElem?_getD,List.getElem?_eq_getElem (by omega)]
    rfl
   have hfirst:k=0→last = -1:=fun h=>by rw [hL,h];rfl
   generalize o[k]=p at *
   obtain⟨N,d⟩:=p
   simp only at c0 c1 hlast
   have hsz:=aj d
   obtain⟨hr,hge⟩:=hr
   have hno:¬(last<N∧N<32∧d.length=32∧iG d=false)→Hid (right o=false):=fun h=>by
    show right o=false
    rw [hr,hd]
    exact Yi h
   have hyes:last<N→N<32→d.length=32→iG d=false→Hid (right o=okP (Jq o (k+1)) (o.drop (k+1)) ∧ -1≤Jq o (k+1)):=fun a1 a2 a3 a4=>by
    refine⟨?_,by rw [hlast];omega⟩
    rw [hr,hd,hlast]
    exact SK a1 a2 a3 a4
   have hzero:=fun W (h:d.length≤1048576)=>uS W d h
   generalize hs:strOf d=s at *
   replace hs:=Lib.hid hs
   replace hno:=Lib.hid hno
   replace hyes:=Lib.hid hyes
   clear hd hr hat hat' hA hL hlast
   by_cases h0:N<0
   ·have hf:=hno.out (by omega)
    clear hzero Jz hfirst
    go_wp2_with fail
    go_quiet (fail)
    go_wp2
    go_ret
    exact⟨by rw [hf.out];rfl,aF.drewN _⟩
   ·have d0:decide (N<0)=false:=by simpa using h0
    by_cases h2:N<32
    ·have d2:decide ((31:Int)<N)=false:=by simp;omega
     by_cases h3:d.length=32
     ·have h3':s.size=32:=by omega
      have hz:=fun W=>hzero W (by omega)
      clear hzero
      by_cases h4:iG d=true
      ·have hf:=hno.out (by simp [h4])
       rw [h4] at hz
       replace h3:=Lib.hid h3
       clear hsz Jz hfirst
       go_wp2_with fail
       go_quiet ((with_reducible refine Calls.quiet_of_same (hz _)))
       go_wp2
       go_ret
       exact⟨by rw [hf.out];rfl,aF.drewN _⟩
      ·have h4':iG d=false:=by simpa using h4
       rw [h4'] at hz
       clear hsz
       cases k with
       | zero=>
        have hnext:=hyes.out (by have:=hfirst rfl;omega) h2 h3 h4'
        rw [Nat.zero_mul,Nat.add_zero] at c0 c1
        have dz:((0:Nat):Int)=0:=rfl
        rw [dz]
        clear Jz hfirst hno hyes h4 h4' h3
        go_wp2_with fail
        go_quiet ((with_reducible refine Calls.quiet_of_same (hz _)))
        go_wp2
        go_roundw
        case rel=>exact⟨1,by omega,rfl,hnext,aF.drewN _⟩
        case measure=>simp [intOf];omega
       | succ j=>
        have hcj:=Jz j rfl
        have hcast:((j+1:Nat):Int)=(j:Int)+1:=by omega
        rw [hcast]
        have hj0:decide ((0:Int)<(j:Int)+1)=true:=decide_eq_true (by omega)
        have hj1:((j:Int)+1).toNat=j+1:=by omega
        have hj2:(j:Int)+1<n:=by omega
        by_cases h5:N≤last
        ·have hf:=hno.out (by omega)
         have d5:decide (N≤last)=true:=by simpa using h5
         clear Jz hfirst hno hyes h4 h4' h3
         go_wp2_with fail
         go_quiet ((with_reducible refine Calls.quiet_of_same (hz _)))
         go_wp2
         go_ret
         exact⟨by rw [hf.out];rfl,aF.drewN _⟩
        ·have hnext:=hyes.out (by omega) h2 h3 h4'
         have d5:decide (N≤last)=false:=by simpa using h5
         clear Jz hfirst hno hyes h4 h4' h3
         go_wp2_with fail
         go_quiet ((with_reducible refine Calls.quiet_of_same (hz _)))
         go_wp2
         go_roundw
         case rel=>exact⟨j+1+1,by omega,by go_num,hnext,aF.drewN _⟩
         case measure=>simp [intOf];omega
     ·have hf:=hno.out (fun h=>h3 h.2.2.1)
      have h3':((s.size:Int) != 32)=true:=by rw [bne_iff_ne];omega
      clear hzero Jz hfirst hsz
      go_wp2_with fail
      go_quiet (fail)
      go_wp2
      go_ret
      exact⟨by rw [hf.out];rfl,aF.drewN _⟩
    ·have hf:=hno.out (fun h=>h2 h.2.1)
     have d2:decide ((31:Int)<N)=true:=by simp;omega
     clear hzero Jz hfirst
     go_wp2_with fail
     go_quiet (fail)
     go_wp2
     go_ret
     exact⟨by rw [hf.out];rfl,aF.drewN _⟩
  ·have hfin:right o=true:=by
    rw [hr.1,List.drop_of_length_le (by have:=HN.out;omega)]
    rfl
   replace hfin:=Lib.hid hfin
   clear hA hr
   go_wp2
   go_ret
   exact⟨by rw [hfin.out];rfl,aF⟩
end Go.Proofs.YtmelaiefbpdifaaGreatDoor.Pgs
/- A body and a page in memory: copied into, cleared, compared, loaded, stored. -/
namespace Go.Proofs.YtmelaiefbpdifaaGreatDoor.Pgs
open Go.RowKit
theorem Qs(b x:List UInt8)(off:Nat):ak (lay b off x)=(ak b).take off++(ak x++(ak b).drop (off+(ak x).length)):=by
 simp [ak,lay]
theorem WI(b:List UInt8)(off:Nat):lay b off []=b:=by simp [lay]
theorem J7(b:List UInt8)(k:Nat):∀ j v,(ak (chunk b k))[j]?=some v→(ak b)[k*32+j]?=some v:=by
 intro j v hj
 have hl:=(List.getElem?_eq_some_iff.1 hj).1
 simp only [ak,chunk,List.getElem?_map,List.getElem?_take,List.getElem?_drop] at hj ⊢
 split at hj
 ·exact hj
 ·simp at hj
theorem jW:(Tryz.prog.info? 146).map (fun i=>(i.zero,i.size))=some (some (.agg (ak (zs 1024)).toArray),1024):=by
 have e:(ak (zs 1024)).toArray=Array.replicate 1024 (.int .u8 0):=by
  unfold zs ak
  rw [List.map_replicate,List.toArray_replicate]
  rfl
 have h:(Tryz.prog.info? 146).map (fun i=>(i.zero,i.size))=some (some (.agg (Array.replicate 1024 (.int .u8 0))),1024):=by kernel_rfl
 rw [e]
 exact h
theorem vP:(Tryz.prog.info? 275).map (fun i=>(i.zero,i.size))=some (some (.agg (ak (zs 32)).toArray),32):=by
 have e:(ak (zs 32)).toArray=Array.replicate 32 (.int .u8 0):=by
  unfold zs ak
  rw [List.map_replicate,List.toArray_replicate]
  rfl
 have h:(Tryz.prog.info? 275).map (fun i=>(i.zero,i.size))=some (some (.agg (Array.replicate 32 (.int .u8 0))),32):=by kernel_rfl
 rw [e]
 exact h
section
variable {P:Program}{w:World}{ops:Array Oper}{rest:List Oper}{o:Oper}{a:Act}{Q:Exit→Act→World→Prop}
theorem qB(hgd:o.guard=none)(d s:Operand)(dT sT:TypeId)
  (ho:o.op = .call { callee:=.builtin .copy,args:=#[d,s],argTypes:=#[dT,sT] }) (elem:TypeId) (hu:P.underlying dT=some (.slice elem)) (hsz:(P.info? elem).map (·.size)=some 1)
  (g off off' n dCap:Nat) (b:List UInt8) (hd:a.eval d = .slice (some ⟨g,off',none⟩) n dCap) (hs:a.eval s = .string (strOf b))
  (cur:List UInt8) (t:TypeId) (hg:Blk w g t (ak cur).toArray) (hn:b.length≤n) (hoff:b≠[]→off'=off) (hfit:off+b.length≤cur.length) (acE:off'+b.length≤cur.length)
  (h:∀ w',Blk w' g t (ak (lay cur off b)).toArray→Only [g] w w'→wpList P ops Q rest (a.put o.dst (goInt b.length)) w'):wpList P ops Q (o :: rest) a w:=by
 refine wpList_plain hgd fun K hK=> ?_
 have hrun:=Lib.run_copy_row_string (P:=P) w dT sT o.type elem g off' n dCap (strOf b) (ak cur).toArray t hu hsz hg (by rw [aj];exact hn) (by rw [aj];simpa [aO] using acE)
 unfold Oper.wp
 simp [execOp,ho,resolve,invoke,builtin,hd,hs,hrun,Result.andThen]
 rw [aj]
 refine hK _ _ (h _ ?_ ((Only.refl [g] w).setRow (.inl (by simp)) _))
 unfold Blk
 rw [setRow_heap w g (ak cur).toArray _ t _ hg]
 by_cases hb:b = []
 ·subst hb
  simp [dh,kM,WI,ak]
 ·rw [Qs,hoff hb]
  simp [dh,kM,aO]
theorem zG(hgd:o.guard=none)(d s:Operand)(dT sT:TypeId)
  (ho:o.op = .call { callee:=.builtin .copy,args:=#[d,s],argTypes:=#[dT,sT] }) (elem:TypeId) (hu:P.underlying dT=some (.slice elem)) (hsz:(P.info? elem).map (·.size)=some 1)
  (q g k dCap sCap n:Nat) (hd:a.eval d = .slice (some ⟨q,0,none⟩) 32 dCap) (hs:a.eval s = .slice (some ⟨g,k*32,none⟩) n sCap) (hn:32≤n)
  (cur b:List UInt8) (t u:TypeId) (hq:Blk w q t (ak cur).toArray) (hc:cur.length=32) (hg:Blk w g u (ak b).toArray) (hfit:k*32+32≤b.length)
  (h:∀ w',Blk w' q t (ak (chunk b k)).toArray→Only [q] w w'→wpList P ops Q rest (a.put o.dst (goInt 32)) w'):wpList P ops Q (o :: rest) a w:=by
 have hl:(chunk b k).length=32:=by unfold chunk;rw [List.length_take,List.length_drop];omega
 have hl':(ak (chunk b k)).length=32:=by rw [aO,hl]
 refine wpList_copy_own hgd d s dT sT ho elem hu hsz q 0 32 dCap ⟨g,k*32,none⟩ n sCap hd hs (ak cur).toArray t hq (ak (chunk b k)) (by rw [hl'];exact (Nat.min_eq_right hn).symm) (fun j v hj=> ?_) (by rw [hl'];simp [aO,hc]) (lI _) ?_
 ·rw [addr_add,hg.cell]
  simpa using J7 b k j v hj
 ·rw [hl']
  refine h _ ?_ ((Only.refl [q] w).setRow (.inl (by simp)) _)
  unfold Blk
  rw [setRow_heap w q _ _ t _ hq]
  simp [ak,hc]
theorem Only.setCells{S:List Nat}{a:World}{g:Nat}(hg:g∈S∨a.heap.size≤g):∀ (vs:List Value) (o:Nat) (w:World),Only S a w→Only S a (w.setCells g o vs)
 | [],_,_,h=>h
 | v :: r,o,_,h=>Only.setCells hg r (o+1) _ (h.setCell hg v)
theorem Blk.setCells{g:Nat}{t:TypeId}:∀ (vs cs:List Value) (o:Nat) (w:World),Blk w g t cs.toArray→o+vs.length≤cs.length→Blk (w.setCells g o vs) g t (cs.take o++(vs++cs.drop (o+vs.length))).toArray
 | [],cs,o,_,h,_=>by simpa [World.setCells] using h
 | v :: r,cs,o,w,h,hl=>by
  rw [World.setCells]
  have h1:=h.set o v
  rw [List.setIfInBounds_toArray] at h1
  have h2:=Blk.setCells r (cs.set o v) (o+1) _ h1 (by simp at hl ⊢;omega)
  have e:(cs.set o v).take (o+1)++(r++(cs.set o v).drop (o+1+r.length))=cs.take o++(v :: r++cs.drop (o+(v :: r).length)):=by
   simp only [List.length_cons] at hl ⊢
   rw [List.take_add_one,List.take_set_of_le (Nat.le_refl _),List.getElem?_set_self (by omega),List.drop_set_of_lt (by omega)]
   simp [Nat.add_comm,Nat.add_left_comm]
  rw [e] at h2
  exact h2
theorem Ig(hgd:o.guard=none)(d:Operand)(dT:TypeId)(ho:o.op = .call { callee:=.builtin .clear,args:=#[d],argTypes:=#[dT] })
  (e:TypeId) (hu:P.underlying dT=some (.slice e)) (hv:∀ w,(zeroValue e).run P w = .ok (.int .u8 0) w)
  (g off off' n dCap:Nat) (hd:a.eval d = .slice (some ⟨g,off',none⟩) n dCap) (b:List UInt8) (t:TypeId) (hg:Blk w g t (ak b).toArray) (hb:b.length=1024) (hn:off+n=1024) (hoff:n≠0→off'=off)
  (h:∀ w',Blk w' g t (ak (UK b off)).toArray→Only [g] w w'→wpList P ops Q rest (a.put o.dst (.tuple #[])) w'):wpList P ops Q (o :: rest) a w:=by
 refine wpList_plain hgd fun K hK=> ?_
 by_cases h0:n=0
 ·subst h0
  have hrun:(Builtin.clear_ #[dT] o.type #[.slice (some ⟨g,off',none⟩) 0 dCap]).run P w = .ok (.tuple #[]) w:=by
   simp [Builtin.clear_,run_underlying hu]
  unfold Oper.wp
  simp [execOp,ho,resolve,invoke,builtin,hd,hrun,Result.andThen]
  have h1:=h w (by
   have:UK b off=b:=by
    rw [show off=1024 by omega]
    unfold UK
    rw [List.take_of_length_le (by omega)]
    simp [zs]
   rw [this];exact hg) (Only.refl _ _)
  exact hK _ _ h1
 ·have ho':=hoff h0
  subst ho'
  have hrun:=Lib.run_clear_slice (P:=P) w dT e o.type (.int .u8 0) hu hv rfl rfl g off' n dCap (by omega) (fun j hj=>by
   rw [hg.cell]
   simp only [List.getElem?_toArray]
   rw [List.getElem?_eq_getElem (by rw [aO];omega)]
   rfl) (fun j _=>hg.free _)
  unfold Oper.wp
  simp [execOp,ho,resolve,invoke,builtin,hd,hrun,Result.andThen]
  have h1:=h _ (by
   have hs:=Blk.setCells (List.replicate n (.int .u8 0)) (ak b) off' w hg (by rw [aO,List.length_replicate];omega)
   have e:(ak b).take off'++(List.replicate n (.int .u8 0)++(ak b).drop (off'+(List.replicate n (Value.int .u8 0)).length))=ak (UK b off'):=by
    rw [List.length_replicate,List.drop_of_length_le (by rw [aO];omega)]
    simp [ak,UK,zs,kL,show 1024-off'=n by omega]
   rw [e] at hs
   exact hs) (Only.setCells (.inl (by simp)) _ _ _ (Only.refl [g] w))
  exact hK _ _ h1
theorem vg(op:BinOp)(t:TypeId)(x y:Operand)(xs ys:Array Value)(hm:P.eqGuardType P.depth t=false):(eqGuard op t x y (.agg xs) (.agg ys)).run P w = .ok () w:=run_eqGuard_agg (P:=P) w op t x y xs ys hm
theorem yP(t e:TypeId)(ht:P.underlying t=some (.array 32 e))(he:P.underlying e=some (.int .u8))(hsz:∀ w,(sizeOf e).run P w = .ok 1 w)(l m:List UInt8)(hl:l.length=32)(hm:m.length=32):
  (binOp .eql t (.agg (ak l).toArray) (.agg (ak m).toArray)).run P w = .ok (.bool (l==m)) w:=run_eql_bytes (P:=P) w t e 32 ht he hsz l m hl hm
theorem IJ(t e:TypeId)(ht:P.underlying t=some (.array 32 e))(he:P.underlying e=some (.int .u8))(hsz:∀ w,(sizeOf e).run P w = .ok 1 w)(l m:List UInt8)(hl:l.length=32)(hm:m.length=32):
  (binOp .neq t (.agg (ak l).toArray) (.agg (ak m).toArray)).run P w = .ok (.bool (!(l==m))) w:=by
 have h:=run_equalIn_bytes (P:=P) w 9998 t e 32 ht he hsz l m hl hm
 rw [run_neq_struct]
 show Result.andThen ((Op.equalIn (9998+2) t (.agg (l.map Extern.Stop.cell).toArray) (.agg (m.map Extern.Stop.cell).toArray)).run P w) _=_
 rw [h]
 rfl
theorem qO(hgd:o.guard=none)(x y:Operand)(t e u:TypeId)(ho:o.op = .binOp .eql t x y u)(hm:P.eqGuardType P.depth t=false)(ht:P.underlying t=some (.array 32 e))(he:P.underlying e=some (.int .u8))(hsz:∀ w,(sizeOf e).run P w = .ok 1 w)
  (l m:List UInt8) (X Y:Array Value) (r:Bool) (hx:a.eval x = .agg X) (hy:a.eval y = .agg Y) (hX:X=(ak l).toArray) (hY:Y=(ak m).toArray) (hl:l.length=32) (hml:m.length=32) (hr:(l==m)=r)
  (h:wpList P ops Q rest (a.put o.dst (.bool r)) w):wpList P ops Q (o :: rest) a w:=by
 subst hX
 subst hY
 subst hr
 refine wpList_plain hgd fun K hK=> ?_
 unfold Oper.wp
 simp only [execOp,ho,hx,hy,Sem.run_bind,Sem.run_pure,Result.andThen_ok,vg _ _ _ _ _ _ hm,yP (P:=P) t e ht he hsz l m hl hml]
 exact hK _ _ h
theorem qM(hgd:o.guard=none)(x y:Operand)(t e u:TypeId)(ho:o.op = .binOp .neq t x y u)(hm:P.eqGuardType P.depth t=false)(ht:P.underlying t=some (.array 32 e))(he:P.underlying e=some (.int .u8))(hsz:∀ w,(sizeOf e).run P w = .ok 1 w)
  (l m:List UInt8) (X Y:Array Value) (r:Bool) (hx:a.eval x = .agg X) (hy:a.eval y = .agg Y) (hX:X=(ak l).toArray) (hY:Y=(ak m).toArray) (hl:l.length=32) (hml:m.length=32) (hr:(!(l==m))=r)
  (h:wpList P ops Q rest (a.put o.dst (.bool r)) w):wpList P ops Q (o :: rest) a w:=by
 subst hX
 subst hY
 subst hr
 refine wpList_plain hgd fun K hK=> ?_
 unfold Oper.wp
 simp only [execOp,ho,hx,hy,Sem.run_bind,Sem.run_pure,Result.andThen_ok,vg _ _ _ _ _ _ hm,IJ (P:=P) t e ht he hsz l m hl hml]
 exact hK _ _ h
end
theorem vW{P:Program}{ops:Array Oper}{o:Oper}{a:Act}{w:World}{K:Act→World→Prop}{Q:Exit→Act→World→Prop}{E:Prop}(hgd:o.guard=none)(x y:Operand)(t e u:TypeId)(ho:o.op = .binOp .eql t x y u)(hm:P.eqGuardType P.depth t=false)(ht:P.underlying t=some (.array 32 e))(he:P.underlying e=some (.int .u8))(hsz:∀ w,(sizeOf e).run P w = .ok 1 w)
  (l m:List UInt8) (X Y:Array Value) (r:Bool) (hx:a.eval x = .agg X) (hy:a.eval y = .agg Y) (hX:X=(ak l).toArray) (hY:Y=(ak m).toArray) (hl:l.length=32) (hml:m.length=32) (hr:(l==m)=r)
  (h:K (a.put o.dst (.bool r)) w):if Region.wanted o (yielded ops a.tmps)=true then Oper.wp P o a w K Q else E:=by
 have hw:Region.wanted o (yielded ops a.tmps)=true:=by simp [Region.wanted,hgd]
 rw [if_pos hw]
 subst hX
 subst hY
 subst hr
 unfold Oper.wp
 simp only [execOp,ho,hx,hy,Sem.run_bind,Sem.run_pure,Result.andThen_ok,vg _ _ _ _ _ _ hm,yP (P:=P) t e ht he hsz l m hl hml]
 exact h
theorem Blk.range{w:World}{g:Nat}{t:TypeId}{b:List UInt8}(h:Blk w g t (ak b).toArray):w.rangeAt g 0 (ak b):=fun j v hj=>by
 rw [Nat.zero_add,h.cell]
 simpa using hj
theorem gQ(b:List UInt8):(ak b).toArray.all (·.oneCell')=true:=all_oneCell_toArray (lI b)
end Go.Proofs.YtmelaiefbpdifaaGreatDoor.Pgs
/- spread: an object's bytes; page: one of a body; pages: the object of a body. -/
namespace Go.Proofs.YtmelaiefbpdifaaGreatDoor.Pgs
open Go.RowKit
theorem AQ{fn:Func}{p:Tmp}{ty:TypeId}(h:fn.results = #[.cell p ty])(tmps:Array Value)(P:Program)(w:World)(g:Nat)(hp:tmps.getD p undef = .pointer (some ⟨g,0,none⟩))(cs:List Value)(d:TypeDesc)
  (hc:w.rangeAt g 0 cs) (hu:P.underlying ty=some d) (hd:d.isRow=true) (hi:(P.info? ty).map (·.size)=some cs.length):(results fn tmps).run P w = .ok (.agg cs.toArray) w:=by
 rw [fJ h,hp]
 simp [asAddr,Result.andThen,run_loadVar_mid (P:=P) w g 0 ty cs d hc hu hd hi]
theorem xw(q k:Nat)(x:Int)(hx:x=k)(hk:k≤1024):
  ∃ off:Nat,(k<1024→off=k)∧off≤k∧∀ W:World,(Instr.sliceAt 146 (.pointer (some ⟨q,0,none⟩)) (some (.int .i64 x)) none none).run Tryz.prog W = .ok (.slice (some ⟨q,off,none⟩) (1024-k) (1024-k)) W:=by
 subst hx
 have ht:Tryz.prog.underlying 146=some (.array (Tryz.prog.arrayLen 146) (Tryz.prog.elem 146)):=by kernel_rfl
 have hl:Tryz.prog.arrayLen 146=1024:=by kernel_rfl
 have he:Tryz.prog.elem 146=5:=by kernel_rfl
 refine⟨if 1024=k then 0 else k,fun h=>by rw [if_neg (by omega)],by split<;>omega,fun W=> ?_⟩
 rw [run_sliceAt_array_l W _ _ ht .i64 (k:Int) (by omega) (by rw [hl];omega),hl,he,Tryz.sizeOf5]
 by_cases h:1024=k
 ·simp [Result.andThen,slicedAt,←h]
 ·simp [Result.andThen,slicedAt,h,addr_add]
theorem iJ:(Tryz.prog.info? 146).map (·.size)=some 1024:=(zero_of_info jW).2
theorem iI:(Tryz.prog.info? 275).map (·.size)=some 32:=(zero_of_info vP).2
theorem take_snoc{o:List Pg}{k:Nat}(h:k<o.length):o.take (k+1)=o.take k++[o[k]]:=by
 rw [List.take_add_one,List.getElem?_eq_getElem h]
 rfl
set_option maxRecDepth 100000 in
set_option maxHeartbeats 1000000 in
theorem jL(w:World)(A:Option Addr)(c n:Nat)(o:List Pg)(hn:n=o.length)(hA:Els pgE 2 w A o)(hr:right o=true):
  Calls Tryz.prog 67 #[.slice A n c] w fun e w'=>e = .returned (.agg (ak (body o)).toArray)∧Only [] w w':=by
 have hn32:n≤32:=by have:=eU hr;omega
 have HN:=Lib.hid hn
 have HR:=Lib.hid hr
 clear hn hr
 obtain⟨Z,hZ⟩:∃ Z,Z=(ak (zs 1024)).toArray:=⟨_,rfl⟩
 have hz0:=(zero_of_info jW).1
 rw [←hZ] at hz0
 have hZ2:Z=(ak (body (o.take 0))).toArray:=by rw [hZ,List.take_zero,Ou]
 have hZ3:Z.size=1024:=by rw [hZ];simp [ak,zs]
 replace hZ:=Lib.hid hZ
 replace hZ2:=Lib.hid hZ2
 go_enter Tryz.func67,Tryz.ntmps67
 go_wp2_with fail
 obtain⟨W2,hW2⟩:∃ W2,W2=(w.alloc (.cells Z 146)).alloc (.cells Z 146):=⟨_,rfl⟩
 have k2:Only [] w W2:=by rw [hW2];exact ((Only.refl [] w).alloc _).alloc _
 have b0:Blk W2 w.heap.size 146 Z:=by rw [hW2];exact (Blk.new w _ _).alloc _
 have b1:Blk W2 (w.heap.size+1) 146 Z:=by
  rw [hW2]
  have:=Blk.new (w.alloc (.cells Z 146)) 146 Z
  simpa using this
 rw [hZ2.out] at b1
 rw [←hW2]
 replace hW2:=Lib.hid hW2
 go_loopw [8] (fun i wr=>∃ k:Nat,k≤n∧i = .int .i64 k∧Blk wr w.heap.size 146 Z∧Blk wr (w.heap.size+1) 146 (ak (body (o.take k))).toArray∧Only [] w wr) (fun i _=>n-(intOf i).toNat)
 case atStart=>exact⟨0,Nat.zero_le _,rfl,b0,b1,k2⟩
 case round=>
  clear b0 b1 k2
  obtain⟨k,hk,rfl,b0,b1,aF⟩:=hrel
  by_cases hlt:k<n
  ·have hk':k<o.length:=by have:=HN.out;omega
   obtain⟨g,off,rfl,_,hat⟩:=hA.get hk'
   obtain⟨c0,c1⟩:=Ba (hat.kept aF (by simp)) hk'
   have hmem:=qc o (-1) HR.out o[k] (List.getElem_mem hk')
   have hnext:body (o.take (k+1))=lay (body (o.take k)) (o[k].n.toNat*32) o[k].d:=by
    rw [take_snoc hk']
    exact UZ (by rw [←take_snoc hk'];exact DY HR.out _)
   have hbl:(body (o.take k)).length=1024:=fM (DY HR.out _)
   generalize o[k]=p at *
   obtain⟨N,d⟩:=p
   simp only at c0 c1 hmem hnext
   obtain⟨m0,m1,m2,_⟩:=hmem
   obtain⟨m,rfl⟩:∃ m:Nat,N=m:=⟨N.toNat,by omega⟩
   rw [Int.toNat_natCast] at hnext
   have hm:m<32:=by omega
   clear m0 m1 hat hA
   have hwr:IntKind.i64.wrap ((m:Int)*32)=(m:Int)*32:=by rw [IntKind.wrap_i64];omega
   obtain⟨off',ho1,ho2,hsl⟩:=xw (w.heap.size+1) (m*32) ((m:Int)*32) (by omega) (by omega)
   have ho3:off'=m*32:=ho1 (by omega)
   subst ho3
   clear ho1 ho2
   generalize hB:body (o.take k)=B at *
   replace hnext:=Lib.hid hnext
   replace hB:=Lib.hid hB
   have hs:(Value.string (strOf d)) = .string (strOf d):=rfl
   generalize hst:strOf d=s at *
   replace hst:=Lib.hid hst
   clear hs
   go_wp2
   obtain⟨W1,hW1⟩:∃ W1,W1=wr.alloc (.cells #[.int .i64 (m:Int),.string s] 138):=⟨_,rfl⟩
   rw [←hW1]
   have k1:Only [] wr W1:=by rw [hW1];exact (Only.refl [] wr).alloc _
   have p1:Blk W1 wr.heap.size 138 #[.int .i64 (m:Int),.string s]:=by rw [hW1];exact Blk.new wr _ _
   have e0:=p1.cell 0
   have e1:=p1.cell 1
   simp only [List.getElem?_toArray,List.getElem?_cons_zero,List.getElem?_cons_succ] at e0 e1
   have d0:=b0.kept (k1.drew) (by simp)
   have d1:=b1.kept (k1.drew) (by simp)
   have aa8:=aF.trans k1.drew
   have hne:w.heap.size+1≠w.heap.size:=by omega
   replace hW1:=Lib.hid hW1
   clear b0 b1 aF k1 p1
   go_still_tail 6,(by kernel_rfl)
   change wpList _ _ _ _ _ W1.drew
   generalize W1.drew=wd at *
   refine qB rfl (.tmp 15) (.tmp 17) 103 9 rfl 5 Tryz.underlying103 (by kernel_rfl) (w.heap.size+1) (m*32) (m*32) (1024-m*32) _ d rfl (by rw [hst.out];rfl) B 146 d1 (by omega) (fun _=>rfl) (by omega) (by omega) ?_
   intro w3 h3 k3
   have f0:=d0.kept k3 (by simp)
   have f2:=aa8.then k3 (by
    intro i hi
    simp at hi
    subst hi
    exact .inr (by omega))
   rw [←hnext.out] at h3
   replace f0:=Lib.hid f0
   replace h3:=Lib.hid h3
   clear d0 d1 aa8 k3 e0 e1
   go_wp2
   go_roundw
   case rel=>exact⟨k+1,by omega,by go_num,f0.out,h3.out,f2⟩
   case measure=>simp [intOf];omega
  ·have hkn:o.take k=o:=List.take_of_length_le (by have:=HN.out;omega)
   rw [hkn] at b1
   have hbl:(ak (body o)).length=1024:=by rw [aO];exact fM HR.out
   clear hA hkn
   have hra:=Blk.range b1
   have hone:=gQ (body o)
   generalize hC:ak (body o)=C at *
   replace hC:=Lib.hid hC
   have hs1:(Tryz.prog.info? 146).map (·.size)=some C.toArray.size:=by rw [List.size_toArray,hbl];exact iJ
   have hs2:Z.size=C.toArray.size:=hZ3.trans (by rw [List.size_toArray,hbl])
   replace hs1:=Lib.hid hs1
   replace hs2:=Lib.hid hs2
   replace hone:=Lib.hid hone
   go_wp2_with (first
    | (refine wpList_load_mid rfl 146 (.tmp 3) rfl (w.heap.size+1) 0 rfl C _ hra Tryz.underlying146 rfl (by rw [hbl];exact iJ) ?_)
    | (refine aS rfl 146 (.tmp 2) (.tmp 20) rfl w.heap.size Z C.toArray rfl rfl b0 hs1.out hs2.out hone.out ?_;intro w3 h3 k3))
   have k4:=aF.then k3 (by
    intro i hi
    simp at hi
    subst hi
    exact .inr (Nat.le_refl _))
   go_wp2
   refine bodyPost_ret (v:=.agg C.toArray) (AQ rfl _ _ _ w.heap.size rfl C _ (by rw [←hC.out] at h3 ⊢;exact Blk.range h3) Tryz.underlying146 rfl (by rw [hbl];exact iJ)) rfl ?_
   exact⟨by rw [hC.out],k4⟩
def vK(w:World)(g:Nat)(b:List UInt8):Prop:=Blk w g 146 (ak b).toArray∧b.length=1024
set_option maxRecDepth 100000 in
set_option maxHeartbeats 1000000 in
theorem FX(w:World)(g k:Nat)(b:List UInt8)(hb:vK w g b)(hk:k<32):
  Calls Tryz.prog 171 #[.pointer (some ⟨g,0,none⟩),.int .i64 k] w fun e w'=>e = .returned (.agg (ak (chunk b k)).toArray)∧Only [] w w':=by
 obtain⟨hb,hl⟩:=hb
 have hz0:=(zero_of_info vP).1
 obtain⟨Z,hZ⟩:∃ Z,Z=(ak (zs 32)).toArray:=⟨_,rfl⟩
 rw [←hZ] at hz0
 have hZ3:Z.size=32:=by rw [hZ];simp [ak,zs]
 replace hZ:=Lib.hid hZ
 obtain⟨off',ho1,ho2,hsl⟩:=xw g (k*32) ((k:Int)*32) (by omega) (by omega)
 have ho3:off'=k*32:=ho1 (by omega)
 subst ho3
 clear ho1 ho2
 have hwr:IntKind.i64.wrap ((k:Int)*32)=(k:Int)*32:=by rw [IntKind.wrap_i64];omega
 go_enter Tryz.func171,Tryz.ntmps171
 go_wp2_with fail
 obtain⟨W2,hW2⟩:∃ W2,W2=(w.alloc (.cells Z 275)).alloc (.cells Z 275):=⟨_,rfl⟩
 have k2:Only [] w W2:=by rw [hW2];exact ((Only.refl [] w).alloc _).alloc _
 have b0:Blk W2 w.heap.size 275 Z:=by rw [hW2];exact (Blk.new w _ _).alloc _
 have b1:Blk W2 (w.heap.size+1) 275 Z:=by
  rw [hW2]
  have:=Blk.new (w.alloc (.cells Z 275)) 275 Z
  simpa using this
 rw [←hW2]
 have d0:=b0.kept ((Only.refl [] W2).drew) (by simp)
 have d1:=b1.kept ((Only.refl [] W2).drew) (by simp)
 have dg:=hb.kept (k2.drew) (by simp)
 have dk:=k2.drew
 replace hW2:=Lib.hid hW2
 clear b0 b1 k2
 go_still_tail 6,(by kernel_rfl)
 change wpList _ _ _ _ _ W2.drew
 generalize W2.drew=wd at *
 rw [hZ.out] at d1
 refine zG rfl (.tmp 6) (.tmp 11) 103 103 rfl 5 Tryz.underlying103 (by kernel_rfl) (w.heap.size+1) g k _ _ (1024-k*32) rfl rfl (by omega) (zs 32) b 275 146 d1 (lK 32) dg (by omega) ?_
 intro w3 h3 k3
 have f0:=d0.kept k3 (by simp)
 have f2:=dk.then k3 (by
  intro i hi
  simp at hi
  subst hi
  exact .inr (by omega))
 have hcl:(ak (chunk b k)).length=32:=by rw [aO];exact mG hl hk
 have hra:=Blk.range h3
 have hone:=gQ (chunk b k)
 generalize hC:ak (chunk b k)=C at *
 replace hC:=Lib.hid hC
 clear d0 d1 dg dk k3 hb hl
 have hs1:(Tryz.prog.info? 275).map (·.size)=some C.toArray.size:=by rw [List.size_toArray,hcl];exact iI
 have hs2:Z.size=C.toArray.size:=hZ3.trans (by rw [List.size_toArray,hcl])
 replace hs1:=Lib.hid hs1
 replace hs2:=Lib.hid hs2
 replace hone:=Lib.hid hone
 go_wp2_with (first
  | (refine wpList_load_mid rfl 275 (.tmp 5) rfl (w.heap.size+1) 0 rfl C _ hra Tryz.underlying275 rfl (by rw [hcl];exact iI) ?_)
  | (refine aS rfl 275 (.tmp 4) (.tmp 13) rfl w.heap.size Z C.toArray rfl rfl f0 hs1.out hs2.out hone.out ?_;intro w4 h4 k4))
 have k5:=f2.then k4 (by
  intro i hi
  simp at hi
  subst hi
  exact .inr (Nat.le_refl _))
 go_wp2
 refine bodyPost_ret (v:=.agg C.toArray) (AQ rfl _ _ _ w.heap.size rfl C _ (by rw [←hC.out] at h4 ⊢;exact Blk.range h4) Tryz.underlying275 rfl (by rw [hcl];exact iI)) rfl ?_
 exact⟨by rw [hC.out],k5⟩
end Go.Proofs.YtmelaiefbpdifaaGreatDoor.Pgs
/- pages: the object that has a body's bytes. -/
namespace Go.Proofs.YtmelaiefbpdifaaGreatDoor.Pgs
open Go.RowKit
theorem vK.kept{S:List Nat}{w w':World}{g:Nat}{b:List UInt8}(h:vK w g b)(k:Only S w w')(hg:g∉S):vK w' g b:=⟨h.1.kept k hg,h.2⟩
theorem nO{w:World}{g:Nat}{t:TypeId}{b:List UInt8}(h:Blk w g t (ak b).toArray):BytesAt w g 0 b:=fun j hj=>by
 rw [Nat.zero_add,h.cell]
 simp [ak,List.getElem?_eq_getElem hj]
theorem PG{f:Nat→List UInt8}{k:Nat}(h:iG (f k)=true):je f (k+1)=je f k:=by rw [je,if_pos h]
theorem SC{f:Nat→List UInt8}{k:Nat}(h:iG (f k)=false):je f (k+1)=je f k++[⟨k,f k⟩]:=by rw [je,if_neg (by simp [h])]
theorem Uz{l m:List UInt8}(h:l=m):(l==m)=true:=by simpa using h
theorem eq_not{l m:List UInt8}(h:¬l=m):(l==m)=false:=by simpa using h
theorem lH:Tryz.prog.eqGuardType Tryz.prog.depth 275=false:=by kernel_rfl
theorem lJ:Tryz.prog.underlying 275=some (.array 32 5):=Tryz.underlying275
theorem oK:Tryz.prog.underlying 5=some (.int .u8):=Tryz.underlying5
set_option maxRecDepth 100000 in
set_option maxHeartbeats 1000000 in
theorem wI(w:World)(g:Nat)(b:List UInt8)(hb:vK w g b):
  Calls Tryz.prog 125 #[.pointer (some ⟨g,0,none⟩)] w fun e w'=>∃ v,e = .returned v∧Mine pgE 2 138 w w' v (pages b):=by
 have hz0:=(zero_of_info vP).1
 obtain⟨Z,hZ⟩:∃ Z,Z=(ak (zs 32)).toArray:=⟨_,rfl⟩
 rw [←hZ] at hz0
 have hZ3:Z.size=32:=by rw [hZ];simp [ak,zs]
 replace hZ:=Lib.hid hZ
 replace hZ3:=Lib.hid hZ3
 go_enter Tryz.func125,Tryz.ntmps125
 go_wp2_with fail
 go_loopw [3,6] (fun v i wr=>∃ k:Nat,k≤32∧i = .int .i64 k∧Mine pgE 2 138 w wr v (je (chunk b) k)) (fun _ i _=>32-(intOf i).toNat)
 case atStart=>exact⟨0,by omega,rfl,Mine.start _ _ _ (Only.refl [] w)⟩
 case round=>
  obtain⟨k,hk,rfl,hm⟩:=hrel
  by_cases hlt:k<32
  ·have hbr:vK wr g b:=hb.kept hm.only (by simp)
   have hcl:=mG hb.2 hlt
   have hyes:=fun h=>PG (f:=chunk b) (k:=k) h
   have hno:=fun h=>SC (f:=chunk b) (k:=k) h
   have hpl:=Eh (chunk b) k
   have hcall:=fun W (h:vK W g b)=>FX W g k b h hlt
   generalize chunk b k=c at *
   generalize hL:je (chunk b) k=L at *
   replace hL:=Lib.hid hL
   replace hyes:=Lib.hid hyes
   replace hno:=Lib.hid hno
   replace hcall:=Lib.hid hcall
   replace hbr:=Lib.hid hbr
   go_wp2_with fail
   refine (hcall.out _ hbr.out).mono ?_;rintro e w1 ⟨rfl,k1⟩
   have hm1:=hm.keep k1
   obtain⟨C,hC⟩:∃ C,C=(ak c).toArray:=⟨_,rfl⟩
   have hone:C.all (·.oneCell')=true:=by rw [hC];exact gQ c
   have hC3:C.size=32:=by rw [hC];simp [ak,hcl]
   rw [←hC]
   have hs1:(Tryz.prog.info? 275).map (·.size)=some C.size:=by rw [hC3];exact iI
   have hs2:Z.size=C.size:=hZ3.out.trans hC3.symm
   replace hs1:=Lib.hid hs1
   replace hs2:=Lib.hid hs2
   replace hone:=Lib.hid hone
   replace hC3:=Lib.hid hC3
   replace hC:=Lib.hid hC
   replace hcl:=Lib.hid hcl
   clear hm k1 hb
   by_cases hz:iG c=true
   ·have hr:Hid ((!(c==zs 32))=false):=by
     show (!(c==zs 32))=false
     rw [Uz (GY hz hcl.out)]
     rfl
    have hnext:=Lib.hid (hyes.out hz)
    replace hz:=Lib.hid hz
    go_wp2_with (first
     | (refine aS rfl 275 (.tmp 5) (.tmp 11) rfl w1.heap.size Z C rfl rfl (Blk.new w1 _ _) hs1.out hs2.out hone.out ?_;intro w2 h2 k2)
     | (refine wpList_load_mid rfl 275 (.tmp 5) rfl w1.heap.size 0 rfl (ak c) _ (by rw [hC.out] at h2;exact Blk.range h2) Tryz.underlying275 rfl (by rw [aO,hcl.out];exact iI) ?_)
     | (refine qM rfl (.tmp 12) (.tmp 13) 275 5 _ rfl lH lJ oK Tryz.sizeOf5 c (zs 32) (ak c).toArray Z false rfl rfl rfl hZ.out hcl.out (lK 32) hr.out ?_))
    have hm2:=hm1.keep (((Only.refl [] w1).alloc (.cells Z 275)).then k2 (by simp))
    rw [←hnext.out] at hm2
    replace hm2:=Lib.hid hm2
    clear hm1 h2 k2
    go_wp2
    go_roundw
    case rel=>exact⟨k+1,by omega,by go_num,hm2.out⟩
    case measure=>simp [intOf];omega
   ·have hz':iG c=false:=by simpa using hz
    have hr:Hid ((!(c==zs 32))=true):=by
     show (!(c==zs 32))=true
     rw [eq_not (fun h=>hz (by rw [h];exact vI 32))]
     rfl
    have hnext:=Lib.hid (hno.out hz')
    replace hz:=Lib.hid hz
    replace hz':=Lib.hid hz'
    go_wp2_with (first
     | (refine aS rfl 275 (.tmp 5) (.tmp 11) rfl w1.heap.size Z C rfl rfl (Blk.new w1 _ _) hs1.out hs2.out hone.out ?_;intro w2 h2 k2)
     | (refine wpList_load_mid rfl 275 (.tmp 5) rfl w1.heap.size 0 rfl (ak c) _ (by rw [hC.out] at h2;exact Blk.range h2) Tryz.underlying275 rfl (by rw [aO,hcl.out];exact iI) ?_)
     | (refine qM rfl (.tmp 12) (.tmp 13) 275 5 _ rfl lH lJ oK Tryz.sizeOf5 c (zs 32) (ak c).toArray Z true rfl rfl rfl hZ.out hcl.out (lK 32) hr.out ?_)
     | (refine dQ _ rfl 103 9 5 (.tmp 17) rfl Tryz.underlying103 Tryz.underlying5 Tryz.underlying9 (some ⟨w1.heap.size,0,none⟩) 32 32 c rfl (by
       have h3:=yL.sW 32 (nO (w:=w2) (g:=w1.heap.size) (t:=275) (b:=c) (by rw [hC.out] at h2;exact h2))
       rw [hcl.out] at h3
       exact h3) ?_)
     | (at_builtin;go_must (refine dH rfl _ _ 57 rfl 138 _ 24 cO (by decide) nS Tryz.underlying57 nX rfl _ L.length L rfl ((hm1.keep (((Only.refl [] w1).alloc (.cells Z 275)).then k2 (by simp))).keep ((Only.refl [] w2).alloc (.cells #[.int .i64 (k:Int),.string (strOf c)] 138))).own w2.heap.size ⟨k,c⟩ _ rfl (Blk.new w2 _ _) (by unfold maxLen;omega) (by omega) ?_);intro vv w6 h6 g6 a6))
    have hm2:=(hm1.keep (((Only.refl [] w1).alloc (.cells Z 275)).then k2 (by simp))).keep ((Only.refl [] w2).alloc (.cells #[.int .i64 (k:Int),.string (strOf c)] 138))
    have hm6:=hm2.pushed h6 g6 a6
    rw [←hnext.out] at hm6
    replace hm6:=Lib.hid hm6
    clear hm1 hm2 h2 k2 h6 g6 a6
    go_wp2
    go_roundw
    case rel=>exact⟨k+1,by omega,by go_num,hm6.out⟩
    case measure=>simp [intOf];omega
  ·have aeK:k=32:=by omega
   subst aeK
   have hfin:=Lib.hid hm
   clear hm hb
   go_wp2
   go_ret
   exact⟨_,rfl,hfin.out⟩
end Go.Proofs.YtmelaiefbpdifaaGreatDoor.Pgs
