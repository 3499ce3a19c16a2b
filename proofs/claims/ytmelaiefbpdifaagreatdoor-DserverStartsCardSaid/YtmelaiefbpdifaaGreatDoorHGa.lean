/- Joined: Mem, App, Pure, Dev, Read, Act, Settle, Act2, Row, Write, New, Run. -/
import Derived.Below
import Derived.Maps.AppendAt
import Derived.Laws.IdiomStrings
import Derived.Deep.Draws
import Derived.Deep.OwnRows
import Derived.ChangeSame
import Derived.Lib.Hide
import Derived.RegionTactic
import Derived.WalkKit
import Derived.OwnWalk
import Derived.Test.YtmelaiefbpdifaaGreatDoorChecked
import Derived.WalkLawsBesides
import Derived.WalkSpells
import Derived.Outline
import Derived.KernelRfl
import Derived.Deep.MidRow
import Derived.BigQuiet
import Derived.StillTailTactics
import Derived.Laws.CopyOwn
import Derived.Lib.BufferWrite
import Derived.Deep.WholeRow
import Derived.Laws.BitsAllLaws
import Derived.Deep.RegionHeld3
import Derived.Deep.AppendLies
import Derived.Laws.CopyRow
/- Words for memory, of no program: what a call leaves alone (Only), a row of bytes (BytesAt), and the row's last step where the world behind the call is known by what it leaves alone. -/
namespace Go.Proofs.YtmelaiefbpdifaaGreatDoor
open Go.RowKit Go.WideShapes Go.ChangeShapes
def kL(b:UInt8):Value:=.int .u8 (b.toNat:Int)
def ak(l:List UInt8):List Value:=l.map kL
theorem aO(l:List UInt8):(ak l).length=l.length:=by simp [ak]
theorem Hr(l m:List UInt8):ak (l++m)=ak l++ak m:=by simp [ak]
theorem lI(l:List UInt8):∀ u∈ak l,u.oneCell'=true:=by
 intro u hu
 simp only [ak,List.mem_map] at hu
 obtain⟨b,_,rfl⟩:=hu
 rfl
structure Only(S:List Nat)(w w':World):Prop where
 os:w'.os=w.os
 tape:w'.tape=w.tape
 output:w'.output=w.output
 size:w.heap.size≤w'.heap.size
 block:∀ k,k<w.heap.size→k∉S→w'.heap[k]?=w.heap[k]?
section
variable {S T:List Nat}{a w w':World}
theorem Only.refl(S:List Nat)(w:World):Only S w w:=⟨rfl,rfl,rfl,Nat.le_refl _,fun _ _ _=>rfl⟩
theorem Only.then(h:Only S a w)(k:Only T w w')(hT:∀ i∈T,i∈S∨a.heap.size≤i):Only S a w':=
 ⟨k.os.trans h.os,k.tape.trans h.tape,k.output.trans h.output,Nat.le_trans h.size k.size,
  fun i hi hn=>(k.block i (Nat.lt_of_lt_of_le hi h.size) (fun hm=>by rcases hT i hm with h1 | h1;exact hn h1;omega)).trans (h.block i hi hn)⟩
theorem Only.trans(h:Only S a w)(k:Only S w w'):Only S a w':=h.then k fun _ hi=>.inl hi
theorem Only.more(h:Only S a w)(hS:∀ i∈S,i∈T∨a.heap.size≤i):Only T a w:=
 ⟨h.os,h.tape,h.output,h.size,fun i hi hn=>h.block i hi (fun hm=>by rcases hS i hm with h1 | h1;exact hn h1;omega)⟩
theorem Only.alloc(h:Only S a w)(o:Obj):Only S a (w.alloc o):=
 ⟨h.os,h.tape,h.output,Nat.le_trans h.size (by simp),fun i hi hn=>(Below.heap_alloc w o i (Nat.lt_of_lt_of_le hi h.size)).trans (h.block i hi hn)⟩
theorem Only.drew(h:Only S a w):Only S a w.drew:=⟨h.os,h.tape,h.output,h.size,h.block⟩
theorem Only.drewN(h:Only S a w)(n:Nat):Only S a (w.drewN n):=⟨h.os,h.tape,h.output,h.size,h.block⟩
theorem Only.setCell(h:Only S a w){p:Addr}(hp:p.block∈S∨a.heap.size≤p.block)(u:Value):Only S a (w.setCell p u):=
 ⟨h.os,h.tape,h.output,by simpa [World.setCell] using h.size,fun i hi hn=>(Below.heap_setCell w p u i (by
  rintro rfl
  rcases hp with hp | hp
  ·exact hn hp
  ·omega)).trans (h.block i hi hn)⟩
theorem Only.grown(h:Only S a w){row:Option Nat}(hg:w.grownBy w' row)(hr:∀ k,row=some k→k∈S∨a.heap.size≤k):Only S a w':=
 ⟨hg.os.trans h.os,hg.tape.trans h.tape,hg.output.trans h.output,Nat.le_trans h.size hg.size,
  fun i hi hn=>(hg.block i (Nat.lt_of_lt_of_le hi h.size) (fun e=>by rcases hr i e.symm with h1 | h1;exact hn h1;omega)).trans (h.block i hi hn)⟩
theorem Only.below(h:Only S w w'){B:Nat}(hB:B≤w.heap.size)(hS:∀ i∈S,B≤i):Below B w w':=
 ⟨h.os,h.tape,h.output,h.size,fun k hk=>h.block k (by omega) (fun hm=>by have:=hS k hm;omega)⟩
theorem Only.of_below(h:Below w.heap.size w w')(S:List Nat):Only S w w':=⟨h.os,h.tape,h.output,h.size,fun k hk _=>h.block k hk⟩
theorem Only.cell(h:Only S w w'){p:Addr}{v:Value}(hc:w.cell? p=some v)(hp:p.block∉S):w'.cell? p=some v:=
 (World.cell?_of_block (w:=w) (h.block p.block (World.block_lt_of_cell? w p hc) hp)).trans hc
end
def Blk(w:World)(g:Nat)(t:TypeId)(cs:Array Value):Prop:=w.heap[g]?=some (.cells cs t (0,0))
section
variable {S:List Nat}{w w':World}{g:Nat}{t:TypeId}{cs:Array Value}
theorem Blk.lt(h:Blk w g t cs):g<w.heap.size:=by
 unfold Blk at h
 exact (Array.getElem?_eq_some_iff.1 h).1
theorem Blk.cell(h:Blk w g t cs)(i:Nat):w.cell? ⟨g,i,none⟩=cs[i]?:=cell_of_row w g i cs t (0,0) h
theorem Blk.free(h:Blk w g t cs)(i:Nat):w.frozen? ⟨g,i,none⟩=false:=by
 unfold Blk at h
 simp [World.frozen?,h]
theorem Blk.new(w:World)(t:TypeId)(cs:Array Value):Blk (w.alloc (.cells cs t)) w.heap.size t cs:=heap_alloc_new w _
theorem Blk.kept(h:Blk w g t cs)(k:Only S w w')(hg:g∉S):Blk w' g t cs:=(k.block g h.lt hg).trans h
theorem Blk.set(h:Blk w g t cs)(i:Nat)(u:Value):Blk (w.setCell ⟨g,i,none⟩ u) g t (cs.setIfInBounds i u):=by
 unfold Blk at h ⊢
 simp [World.setCell,Array.getElem?_modify,h]
theorem Blk.alloc(h:Blk w g t cs)(o:Obj):Blk (w.alloc o) g t cs:=(Below.heap_alloc w o g h.lt).trans h
end
def BytesAt(w:World)(g o:Nat)(l:List UInt8):Prop:=∀ j (h:j<l.length),w.cell? ⟨g,o+j,none⟩=some (kL l[j])
section
variable {S:List Nat}{w w':World}{g o:Nat}{l:List UInt8}
theorem BytesAt.kept(h:BytesAt w g o l)(k:Only S w w')(hg:g∉S):BytesAt w' g o l:=fun j hj=>k.cell (h j hj) hg
theorem BytesAt.drop(h:BytesAt w g o l)(n:Nat):BytesAt w g (o+n) (l.drop n):=fun j hj=>by
 have hj':n+j<l.length:=by simp at hj;omega
 rw [Nat.add_assoc,h (n+j) hj']
 simp
theorem BytesAt.take(h:BytesAt w g o l)(n:Nat):BytesAt w g o (l.take n):=fun j hj=>by
 have hj':j<l.length:=by simp at hj;omega
 rw [h j hj']
 simp
theorem BytesAt.nil(w:World)(g o:Nat):BytesAt w g o []:=fun j hj=>absurd hj (by simp)
end
section
variable {H:Type}{enc:TypeId × Value→H}{P:Program}
theorem I4{f:Func}{s:ChangeSpec}{apart fresh handsOn again:Bool}{W W':World}{args:Array Value}{v:Value}{ds gs:List (DataW H)}{before pa pv:List MemPlace}
  (hW:DataW.Whole enc P f.params.toList s.vars apart W args.toList ds gs before)
  (hres:∀ (b:Nat) (sp:Nat→Bool) (hd:Bool),DataW.TrodAll enc P W' b sp hd f.resultTypes.toList (v.resultList f.resultTypes.size) (s.fn H (ds++gs)).results [])
  (hargs:∀ sp:Nat→Bool,(∀ p∈before,sp p.block=true)→DataW.TrodAll enc P W' 0 sp true f.params.toList args.toList (s.fn H (ds++gs)).args pa)
  (hvars:∀ sp:Nat→Bool,(∀ p∈before,sp p.block=true)→DataW.TrodVars enc P W' sp s.vars (s.fn H (ds++gs)).vars pv)
  (hps:before=pa++pv) (hb:Below W.heap.size W W')
  (hok:∀ (j:Nat) (t:TypeId) (r:Value),f.resultTypes[j]?=some t→(v.resultList f.resultTypes.size)[j]?=some r→Value.okWide P W' .any 0 t r):
  s.post enc P f apart fresh handsOn again W args v W':=by
 have hin:∀ p∈before,p.block<W.heap.size:=fun p hp=>hW.lt p hp
 have hsp:∀ p∈before,(fun b=>decide (b<W.heap.size)) p.block=true:=fun p hp=>by simpa using hin p hp
 have hk:W.keptBut W' fun p=>p∈before∧p∉pa++pv:=hb.frame _
 refine⟨ds,gs,before,[],pa,pv,hW,hres _ _ _,hargs _ hsp,hvars _ hsp,World.keptBut_mono (fun p hp=>(hp.2 (by rw [←hps];exact hp.1)).elim) hk,fun _=> ?_⟩
 obtain⟨_,_,_,_,_,hz,hn⟩:=hW
 refine⟨hok,_,_,([]++pa)++pv,⟨[]++pa,pv,trodAll_append (hargs _ (fun _ _=>rfl)) (hres _ _ _),hvars _ (fun _ _=>rfl),rfl,?_,?_⟩,?_⟩
 ·intro b off hp
  have hm:MemPlace.cell b off∈before:=by rw [hps];simpa using hp
  rw [hb.frozen (hin _ hm)]
  exact hz b off hm
 ·intro ha
  have h0:=hn ha
  rw [hps] at h0
  simpa using h0
 ·intro p hp _
  rw [hps]
  simpa using hp
end
end Go.Proofs.YtmelaiefbpdifaaGreatDoor
/- append onto a row of the call's own, the source nil, empty or not: of no program. -/
namespace Go.Proofs.YtmelaiefbpdifaaGreatDoor
open Go.RowKit
def yL(w:World)(v:Value)(m:Nat)(news:List Value):Prop:=
 ∃ A c,v = .slice A m c∧news.length=m∧(m=0∨∃ ad,A=some ad∧∀ j u,news[j]?=some u→w.cell? (ad.add j)=some u)
theorem yL.kept{S:List Nat}{w w':World}{A:Option Addr}{m c:Nat}{news:List Value}(h:yL w (.slice A m c) m news)(k:Only S w w')(hg:∀ a,A=some a→a.block∉S):yL w' (.slice A m c) m news:=by
 obtain⟨A',c',he,hl,hs⟩:=h
 injection he with h1 h2 h3
 subst h1;subst h3
 refine⟨A,c,rfl,hl,hs.imp id ?_⟩
 rintro⟨ad,rfl,hc⟩
 refine⟨ad,rfl,fun j u hu=>k.cell (hc j u hu) ?_⟩
 have:(ad.add j).block=ad.block:=by unfold Addr.add;split<;>rfl
 rw [this]
 exact hg ad rfl
theorem addr_add(g o j:Nat):(⟨g,o,none⟩:Addr).add j=⟨g,o+j,none⟩:=by unfold Addr.add;split<;>simp_all
theorem yL.sW{w:World}{g o:Nat}{l:List UInt8}(c:Nat)(h:BytesAt w g o l):yL w (.slice (some ⟨g,o,none⟩) l.length c) l.length (ak l):=by
 refine⟨_,_,rfl,aO l,.inr ⟨_,rfl,fun j u hu=> ?_⟩⟩
 rw [addr_add]
 have hj:j<l.length:=by have:=(List.getElem?_eq_some_iff.1 hu).1;simpa [ak] using this
 rw [h j hj]
 simp [ak,List.getElem?_eq_getElem hj] at hu
 rw [←hu]
section
variable {P:Program}(w:World)
theorem Dj(t ty e:TypeId)(i:TypeInfo)(z:Value)(bytes:Nat)(ht:P.underlying t=some (.slice e))(hi:P.info? e=some i)(hz:i.zero=some z)
  (hsize:i.size=1) (hby:i.bytes=bytes) (hzs:z.cells.size=1) (v:Value) (n:Nat) (xs:List Value) (hown:w.ownsRow 0 e 1 v n xs)
  (x:Value) (m:Nat) (news:List Value) (hsrc:yL w x m news) (h1:∀ u∈news,u.oneCell'=true) (h63:n+m≤maxLen) (hbytes:(n+m)*bytes≤140737488355328):
  ∃ v' w',(Builtin.append_ #[t,t] ty #[v,x]).run P w = .ok v' w'∧w'.ownsRow 0 e 1 v' (n+m) (xs++news)∧w.grownBy w' v.ownBlock ∧
   (v'.ownBlock=v.ownBlock∨v'.ownBlock=some w.heap.size):=by
 obtain⟨A,c,rfl,hl,hs⟩:=hsrc
 have go:∀ ad:Addr,A=some ad→(∀ j u,news[j]?=some u→w.cell? (ad.add j)=some u)→∃ v' w',(Builtin.append_ #[t,t] ty #[v,.slice A m c]).run P w = .ok v' w'∧w'.ownsRow 0 e 1 v' (n+m) (xs++news)∧w.grownBy w' v.ownBlock ∧
   (v'.ownBlock=v.ownBlock∨v'.ownBlock=some w.heap.size):=by
  intro ad hA hc
  obtain⟨v',w',hr,h2,h3,_,h5⟩:=run_append_own_at (P:=P) w 0 t ty e i z 1 bytes ht hi hz hsize hby hzs Nat.one_pos v n xs hown ad m c news (by simpa using hl) hc h1 h63 hbytes (Nat.zero_le _)
  subst hA
  exact⟨v',w',hr,h2,h3,h5⟩
 rcases hs with rfl | ⟨ad,hA,hc⟩
 ·obtain rfl:news = []:=List.eq_nil_of_length_eq_zero hl
  cases hA:A with
  | some ad=>rw [←hA];exact go ad hA (by intro j u hu;simp at hu)
  | none=>
   refine⟨v,w,?_,by simpa using hown,World.grownBy.refl w _,.inl rfl⟩
   rcases hown.2 with⟨rfl,rfl⟩ | ⟨g,cap,cur,rfl,_,_,hnc,_⟩
   ·simp [Builtin.append_,run_underlying ht,sizeOf,typeInfo,hi,Builtin.lenOf,Builtin.firstCells]
   ·simp [Builtin.append_,run_underlying ht,sizeOf,typeInfo,hi,Builtin.lenOf,Builtin.firstCells,hnc,storeCells]
 ·exact go ad hA hc
theorem xM{ops:Array Oper}{rest:List Oper}{o:Oper}{a:Act}{Q:Exit→Act→World→Prop}(hgd:o.guard=none)(s y:Operand)(t:TypeId)
  (ho:o.op = .call { callee:=.builtin .append,args:=#[s,y],argTypes:=#[t,t] })
  (e:TypeId) (z:Value) (bytes:Nat) (ht:P.underlying t=some (.slice e)) (hinfo:(P.info? e).map (fun i=>(i.zero,i.size,i.bytes))=some (some z,1,bytes)) (hzs:z.cells.size=1)
  (v:Value) (n:Nat) (xs:List Value) (hs:a.eval s=v) (hown:w.ownsRow 0 e 1 v n xs)
  (x:Value) (m:Nat) (news:List Value) (hx:a.eval y=x) (hsrc:yL w x m news) (h1:∀ u∈news,u.oneCell'=true)
  (h63:n+m≤maxLen) (hbytes:(n+m)*bytes≤140737488355328)
  (h:∀ v' w',w'.ownsRow 0 e 1 v' (n+m) (xs++news)→w.grownBy w' v.ownBlock→(v'.ownBlock=v.ownBlock∨v'.ownBlock=some w.heap.size)→wpList P ops Q rest (a.put o.dst v') w'):wpList P ops Q (o :: rest) a w:=by
 refine wpList_plain hgd fun K hK=> ?_
 obtain⟨i,hi,hz0,hz1,hz2⟩:=info_parts hinfo
 obtain⟨v',w',hrun,h2,h3,h4⟩:=Dj (P:=P) w t o.type e i z bytes ht hi hz0 hz1 hz2 hzs v n xs hown x m news hsrc h1 h63 hbytes
 unfold Oper.wp execOp
 simp only [ho,resolve,invoke,builtin,Sem.run_bind,Sem.run_pure,Result.andThen_ok,List.map_toArray,List.map_cons,List.map_nil,hs,hx,hrun]
 exact hK _ _ (h v' w' h2 h3 h4)
end
theorem Lm{w:World}{e:TypeId}{v:Value}{n:Nat}{xs:List Value}(h:w.ownsRow 0 e 1 v n xs){a:Addr}(ha:v.ownBlock≠some a.block)(u:Value):(w.setCell a u).ownsRow 0 e 1 v n xs:=by
 refine h.kept (row:=some a.block) ⟨rfl,rfl,rfl,by simp [World.setCell],fun k _ hk=>Below.heap_setCell _ _ _ _ (fun e=>hk (by rw [e]))⟩ (.inr ha)
theorem yX{S:List Nat}{w w':World}{e:TypeId}{v:Value}{n:Nat}{xs:List Value}(h:w.ownsRow 0 e 1 v n xs)(k:Only S w w')(hv:∀ g,v.ownBlock=some g→g∉S):w'.ownsRow 0 e 1 v n xs:=by
 refine⟨h.1,?_⟩
 rcases h.2 with h0 | ⟨g,cap,cur,rfl,hb,hg,r⟩
 ·exact .inl h0
 ·exact .inr ⟨g,cap,cur,rfl,hb,by rw [k.block g (Array.getElem?_eq_some_iff.1 hg).1 (hv g rfl)];exact hg,r⟩
theorem pW{w:World}{e:TypeId}{v:Value}{n:Nat}{xs:List Value}(h:w.ownsRow 0 e 1 v n xs):∃ A c,v = .slice A n c:=by
 rcases h.2 with⟨rfl,rfl⟩ | ⟨g,cap,cur,rfl,_⟩
 ·exact⟨_,_,rfl⟩
 ·exact⟨_,_,rfl⟩
theorem Bf{w:World}{e:TypeId}{v:Value}{n:Nat}{xs:List Value}(h:w.ownsRow 0 e 1 v n xs):yL w v n xs:=by
 rcases id h.2 with⟨rfl,rfl⟩ | ⟨g,cap,cur,rfl,_,_,_⟩
 ·exact⟨none,0,rfl,by simpa using h.1,.inl rfl⟩
 ·exact⟨_,_,rfl,by simpa using h.1,.inr ⟨_,rfl,h.cells rfl⟩⟩
def strOf(l:List UInt8):ByteArray:=⟨l.toArray⟩
theorem mX(s:ByteArray):strOf s.data.toList=s:=by cases s;simp [strOf]
theorem dh(l:List UInt8):(strOf l).data.toList=l:=by simp [strOf]
theorem aj(l:List UInt8):(strOf l).size=l.length:=by simp [strOf,ByteArray.size]
theorem yL.bytes{w:World}{A:Option Addr}{m c:Nat}{l:List UInt8}(h:yL w (.slice A m c) m (ak l)):l.length=m∧(m=0∨∃ ad,A=some ad∧∀ j (hj:j<l.length),w.cell? (ad.add j)=some (.int .u8 (l[j].toNat:Int))):=by
 obtain⟨A',c',he,hl,hs⟩:=h
 injection he with h1 _ _
 subst h1
 refine⟨by simpa [ak] using hl,hs.imp id ?_⟩
 rintro⟨ad,rfl,hc⟩
 exact⟨ad,rfl,fun j hj=>hc j _ (by simp only [ak,List.getElem?_map,List.getElem?_eq_getElem hj];rfl)⟩
section
variable {P:Program}(w:World){ops:Array Oper}{rest:List Oper}{o:Oper}{a:Act}{Q:Exit→Act→World→Prop}
theorem qL(hgd:o.guard=none)(src dst e:TypeId)(x:Operand)(ho:o.op = .convert src dst x)
  (hs:P.underlying src=some .string) (hd:P.underlying dst=some (.slice e)) (he:P.underlying e=some (.int .u8)) (s:ByteArray) (hx:a.eval x = .string s) (hlen:s.size≤maxLen)
  (h:∀ w' c,Only [] w w'→s.size≤c→c≤maxLen→BytesAt w' w.heap.size 0 s.data.toList→w.heap.size<w'.heap.size→wpList P ops Q rest (a.put o.dst (.slice (some ⟨w.heap.size,0,none⟩) s.size c)) w'):
  wpList P ops Q (o :: rest) a w:=by
 refine wpList_plain hgd fun K hK=> ?_
 have hr:=run_bytes_of_string (P:=P) w src dst e s hs hd he
 unfold Oper.wp
 simp [execOp,ho,hx,hr,Result.andThen]
 refine hK _ _ (h _ _ ((Only.refl [] w).drew.alloc _) (grownCap_ge w s.size 0 e) (grownCap_le_maxLen w s.size 0 e hlen) (fun j hj=> ?_) (by simp))
 have hj':j<s.data.size:=by simpa using hj
 rw [Nat.zero_add]
 have:=World.cell?_alloc_mark w.drew (bytesRow s (grownCap w s.size 0 e)) e ((bytesRow s (grownCap w s.size 0 e)).size,(bytesRow s (grownCap w s.size 0 e)).size+1) j
 rw [bytesRow_at s _ j hj'] at this
 simpa [kL] using this
theorem dQ(hgd:o.guard=none)(src dst e:TypeId)(x:Operand)(ho:o.op = .convert src dst x)
  (hs:P.underlying src=some (.slice e)) (he:P.underlying e=some (.int .u8)) (hd:P.underlying dst=some .string) (A:Option Addr) (m c:Nat) (l:List UInt8) (hx:a.eval x = .slice A m c)
  (hsrc:yL w (.slice A m c) m (ak l)) (h:wpList P ops Q rest (a.put o.dst (.string (strOf l))) w):wpList P ops Q (o :: rest) a w:=by
 refine wpList_plain hgd fun K hK=> ?_
 obtain⟨hl,hc⟩:=hsrc.bytes
 have hr:(convert src dst (.slice A m c)).run P w = .ok (.string (strOf l)) w:=by
  cases hA:A with
  | some ad=>
   subst hA
   have hc':∀ j (hj:j<l.length),w.cell? (ad.add j)=some (.int .u8 (l[j].toNat:Int)):=by
    rcases hc with h0 | ⟨ad',he',hc⟩
    ·intro j hj;omega
    ·injection he' with he';subst he';exact hc
   have:=run_convert_bytes_back (P:=P) w src dst e ad c l hs he hd hc'
   rw [hl] at this
   exact this
  | none=>
   have h0:m=0:=by rcases hc with h0 | ⟨ad,he',_⟩;exact h0;rw [hA] at he';cases he'
   obtain rfl:l = []:=List.eq_nil_of_length_eq_zero (by omega)
   rw [run_convert_bytes_string w src dst e none m c hs he hd]
   simp [Conv.bytesToString,strOf]
   rfl
 unfold Oper.wp
 simp [execOp,ho,hx,hr,Result.andThen]
 exact hK _ _ h
theorem Bz(n:Nat):(madeCells #[Value.int .u8 0] n).toList=ak (List.replicate n 0):=by
 rw [toList_madeCells_one]
 simp [ak,kL]
end
theorem xP{P:Program}(t e:TypeId)(ht:P.underlying t=some (.slice e))(hz:∀ w,(Go.sizeOf e).run P w = .ok 1 w)(g o n c m:Nat)(k:IntKind)(x:Int)(hx:x=m)(hm:m≤n):
  ∃ o',(m<c→o'=o+m)∧∀ W:World,(Instr.slice t (.slice (some ⟨g,o,none⟩) n c) (some (.int k x)) none none).run P W = .ok (.slice (some ⟨g,o',none⟩) (n-m) (c-m)) W:=by
 subst hx
 have ht':P.underlying t=some (.slice (P.elem t)):=by simp [Program.elem,ht]
 have he:P.elem t=e:=by simp [Program.elem,ht]
 refine⟨if c=m then o else o+m,fun h=>by rw [if_neg (by omega)],fun W=> ?_⟩
 rw [run_slice_l W t _ _ _ ht' k _ (by omega) (by omega),he,hz]
 by_cases hc:c=m
 ·simp [Result.andThen,sliced,hc]
 ·simp [Result.andThen,sliced,hc,addr_add]
theorem OW{P:Program}(t e:TypeId)(ht:P.underlying t=some (.slice e))(hz:∀ w,(Go.sizeOf e).run P w = .ok 1 w)(g o n c m h:Nat)(k k':IntKind)(x y:Int)(hx:x=m)(hy:y=h)(hm:m≤h)(hh:h≤c):
  ∃ o',(m<c→o'=o+m)∧∀ W:World,(Instr.slice t (.slice (some ⟨g,o,none⟩) n c) (some (.int k x)) (some (.int k' y)) none).run P W = .ok (.slice (some ⟨g,o',none⟩) (h-m) (c-m)) W:=by
 subst hx
 subst hy
 have ht':P.underlying t=some (.slice (P.elem t)):=by simp [Program.elem,ht]
 have he:P.elem t=e:=by simp [Program.elem,ht]
 refine⟨if c=m then o else o+m,fun h=>by rw [if_neg (by omega)],fun W=> ?_⟩
 rw [run_slice_lh W t _ _ _ ht' k k' _ _ (by omega) (by omega) (by omega),he,hz]
 by_cases hc:c=m
 ·simp [Result.andThen,sliced,hc]
 ·simp [Result.andThen,sliced,hc,addr_add]
theorem gY{P:Program}(w:World){ops:Array Oper}{rest:List Oper}{o:Oper}{a:Act}{Q:Exit→Act→World→Prop}
  (hg:o.guard=none) (l c:Operand) (t:TypeId) (hop:o.op=Op.makeSlice t l c) (e:TypeId) (z:Value) (bytes:Nat) (h1:P.underlying t=some (.slice e))
  (hinfo:(P.info? e).map (fun i=>(i.zero,i.size,i.bytes))=some (some z,1,bytes)) (hzs:z.cells = #[z])
  (kl kc:IntKind) (L C:Int) (n:Nat) (hl:a.eval l = .int kl L) (hc:a.eval c = .int kc C) (hL:L=(n:Int)) (hC:C=(n:Int)) (b2:bytes*n≤281474976710656) (b3:n≤9223372036854775807)
  (hK:wpList P ops Q rest (a.put o.dst (.slice (some ⟨w.heap.size,0,none⟩) n n)) (w.alloc (.cells (List.replicate n z).toArray e))):
  wpList P ops Q (o :: rest) a w:=by
 refine wpList_plain hg fun K hK'=> ?_
 obtain⟨i,hi,hz0,hz1,hz2⟩:=info_parts hinfo
 subst hL
 subst hC
 have hb':(i.bytes:Int)*(n:Int)≤281474976710656:=by
  have h:((i.bytes*n:Nat):Int)≤281474976710656:=by rw [hz2];omega
  rwa [Int.natCast_mul] at h
 have hr:=run_make (P:=P) w t e i z h1 hi hz0 kl kc n n (by omega) (Int.le_refl _) hb' (by omega)
 simp only [Int.toNat_natCast,hz1,Nat.mul_one] at hr
 have hm:madeCells z.cells n=(List.replicate n z).toArray:=by
  rw [←toList_madeCells_one,hzs]
 rw [hm] at hr
 unfold Oper.wp
 simp [execOp,hop,hl,hc,hr,Result.andThen]
 exact hK' _ _ (by simpa using hK)
theorem mY(l m:List UInt8):strOf l++strOf m=strOf (l++m):=ByteArray.mk_append_mk l m
theorem eP{P:Program}(w:World){ops:Array Oper}{rest:List Oper}{o:Oper}{a:Act}{Q:Exit→Act→World→Prop}
  (hg:o.guard=none) (t u:TypeId) (x y:Operand) (hop:o.op=Op.binOp .add t x y u) (l m:List UInt8) (hx:a.eval x = .string (strOf l)) (hy:a.eval y = .string (strOf m)) (hlen:l.length+m.length≤9223372036854775807)
  (hK:wpList P ops Q rest (a.put o.dst (.string (strOf (l++m)))) w):wpList P ops Q (o :: rest) a w:=by
 refine wpList_plain hg fun K hK'=> ?_
 have hr:(binOp .add t (.string (strOf l)) (.string (strOf m))).run P w = .ok (.string (strOf (l++m))) w:=by
  rw [binOp_string_add,run_string_add_sum w _ _ (by rw [aj,aj];exact hlen),mY]
 unfold Oper.wp
 simp only [execOp,hop,hx,hy,eqGuard_add,Sem.run_bind,Sem.run_pure,Result.andThen_ok,hr]
 exact hK' _ _ hK
def strLen:Value→Nat
 | .string s=>s.size
 | _=>0
end Go.Proofs.YtmelaiefbpdifaaGreatDoor
/- The document's device as a state: what was settled, what was written since, the fuse, the death; and what each act makes of it. -/
namespace Go.Proofs.YtmelaiefbpdifaaGreatDoor
theorem mZ{α:Type}{p:List α→Prop}(h0:p [])(h1:∀ l x,p l→p (l++[x])):∀ l,p l:=fun l=>by
 have h:∀ r:List α,p r.reverse:=by
  intro r
  induction r with
  | nil=>exact h0
  | cons a r ih=>rw [List.reverse_cons];exact h1 _ _ ih
 have:=h l.reverse
 rwa [List.reverse_reverse] at this
section
variable {α:Type}
theorem zW(c:Nat):∀ (L:List (List α)),(∀ b∈L,b.length=c)→L.flatten.length=L.length*c
 | [],_=>by simp
 | b :: L,h=>by
  simp only [List.flatten_cons,List.length_append,List.length_cons,zW c L (fun x hx=>h x (by simp [hx])),h b (by simp),Nat.succ_mul]
  omega
theorem rQ(c:Nat):∀ (L:List (List α)) (k j:Nat) (b:List α) (v:α),(∀ b∈L,b.length=c)→L[k]?=some b→b[j]?=some v→L.flatten[k*c+j]?=some v
 | [],k,j,b,v,_,hk,_=>by simp at hk
 | x :: L,0,j,b,v,h,hk,hj=>by
  simp only [List.getElem?_cons_zero,Option.some.injEq] at hk
  subst hk
  have hl:j<x.length:=(List.getElem?_eq_some_iff.1 hj).1
  rw [List.flatten_cons,Nat.zero_mul,Nat.zero_add,List.getElem?_append_left hl]
  exact hj
 | x :: L,k+1,j,b,v,h,hk,hj=>by
  rw [List.getElem?_cons_succ] at hk
  have hx:=h x (by simp)
  rw [List.flatten_cons,List.getElem?_append_right (by rw [hx,Nat.succ_mul];omega),hx]
  have e:(k+1)*c+j-c=k*c+j:=by rw [Nat.succ_mul];omega
  rw [e]
  exact rQ c L k j b v (fun y hy=>h y (by simp [hy])) hk hj
theorem GK(c:Nat):∀ (L:List (List α)) (k:Nat) (b:List α),(∀ b∈L,b.length=c)→k<L.length→b.length=c →
  (L.set k b).flatten=L.flatten.take (k*c)++(b++L.flatten.drop (k*c+c))
 | [],k,b,_,hk,_=>by simp at hk
 | x :: L,0,b,h,hk,hb=>by
  have hx:=h x (by simp)
  simp only [List.set_cons_zero,List.flatten_cons,Nat.zero_mul,List.take_zero,List.nil_append,Nat.zero_add]
  rw [List.drop_append,←hx]
  simp
 | x :: L,k+1,b,h,hk,hb=>by
  have hx:=h x (by simp)
  have t1:(x++L.flatten).take (k*c+c)=x++L.flatten.take (k*c):=by
   rw [List.take_append,hx,List.take_of_length_le (l:=x) (by omega)]
   congr 2
   omega
  have t2:(x++L.flatten).drop (k*c+c+c)=L.flatten.drop (k*c+c):=by
   rw [List.drop_append,hx,List.drop_of_length_le (l:=x) (by omega)]
   simp only [List.nil_append]
   congr 1
   omega
  rw [List.set_cons_succ,List.flatten_cons,GK c L k b (fun y hy=>h y (by simp [hy])) (by simpa using hk) hb,List.flatten_cons,Nat.succ_mul,t1,t2,List.append_assoc]
end
structure St where
 aA:List (List UInt8)
 late:List (Nat × List UInt8)
 fuse:Int
 dead:Bool
def qg(d:List UInt8)(late:List (Nat × List UInt8))(k:Nat):List UInt8:=late.foldl (fun s x=>if x.1=k then x.2 else s) d
theorem Je(d:List UInt8)(k:Nat):qg d [] k=d:=rfl
theorem lF(d:List UInt8)(l:List (Nat × List UInt8))(x:Nat × List UInt8)(k:Nat):qg d (l++[x]) k=if x.1=k then x.2 else qg d l k:=by simp [qg]
def qm(k:Nat):Nat→Nat→List (Nat × List UInt8)→Nat
 | _,m,[]=>m
 | i,m,x :: r=>qm k (i+1) (if x.1=k then i+1 else m) r
def lastOf(late:List (Nat × List UInt8))(k:Nat):Nat:=qm k 0 0 late
theorem wQ(k:Nat):∀ (l:List (Nat × List UInt8)) (i m:Nat) (x:Nat × List UInt8),qm k i m (l++[x])=if x.1=k then i+l.length+1 else qm k i m l
 | [],i,m,x=>by simp [qm]
 | y :: l,i,m,x=>by
  rw [List.cons_append,qm,wQ k l,qm,List.length_cons]
  split<;>first | rfl | omega
theorem Ew(k:Nat):lastOf [] k=0:=rfl
theorem BG(l:List (Nat × List UInt8))(x:Nat × List UInt8)(k:Nat):lastOf (l++[x]) k=if x.1=k then l.length+1 else lastOf l k:=by
 unfold lastOf
 rw [wQ]
 simp
theorem BF(d:List UInt8)(k:Nat):∀ (l:List (Nat × List UInt8)),(lastOf l k=0∧qg d l k=d∧∀ x∈l,x.1≠k)∨(0<lastOf l k∧lastOf l k≤l.length∧l[lastOf l k-1]?=some (k,qg d l k)):=by
 refine mZ (.inl ⟨rfl,rfl,by simp⟩) ?_
 intro l x ih
 rw [BG,lF]
 by_cases hx:x.1=k
 ·right
  rw [if_pos hx,if_pos hx]
  refine⟨by omega,by simp,?_⟩
  simp [←hx]
 ·rw [if_neg hx,if_neg hx]
  rcases ih with⟨h1,h2,h3⟩ | ⟨h1,h2,h3⟩
  ·left
   refine⟨h1,h2,fun y hy=> ?_⟩
   rcases List.mem_append.1 hy with hy | hy
   ·exact h3 y hy
   ·simp at hy;subst hy;exact hx
  ·right
   refine⟨h1,by simp;omega,?_⟩
   rw [List.getElem?_append_left (by omega)]
   exact h3
def nV(keep i:Nat):Bool:=decide (keep / 2 ^ (i % 64) % 2=1)
def jc(keep:Nat):Nat→List (Nat × List UInt8)→List (List UInt8)→List (List UInt8)
 | _,[],f=>f
 | i,x :: r,f=>jc keep (i+1) r (if nV keep i then f.set x.1 x.2 else f)
theorem qU(keep:Nat):∀ (l:List (Nat × List UInt8)) (i:Nat) (f:List (List UInt8)) (x:Nat × List UInt8),
  jc keep i (l++[x]) f=if nV keep (i+l.length) then (jc keep i l f).set x.1 x.2 else jc keep i l f
 | [],i,f,x=>by simp [jc]
 | y :: l,i,f,x=>by
  rw [List.cons_append,jc,qU keep l,jc,List.length_cons]
  have e:i+1+l.length=i+(l.length+1):=by omega
  rw [e]
def settle(keep:Nat)(l:List (Nat × List UInt8))(f:List (List UInt8)):List (List UInt8):=jc keep 0 l f
theorem DU(keep:Nat)(f:List (List UInt8)):settle keep [] f=f:=rfl
theorem lN(keep:Nat)(l:List (Nat × List UInt8))(f:List (List UInt8))(x:Nat × List UInt8):
  settle keep (l++[x]) f=if nV keep l.length then (settle keep l f).set x.1 x.2 else settle keep l f:=by
 unfold settle
 rw [qU,Nat.zero_add]
theorem dL(keep:Nat)(f:List (List UInt8)):∀ l,(settle keep l f).length=f.length:=by
 refine mZ rfl ?_
 intro l x ih
 rw [lN]
 split<;>simp [ih]
theorem OX(keep:Nat)(f:List (List UInt8))(k:Nat)(b:List UInt8):∀ l,(settle keep l f)[k]?=some b→f[k]?=some b∨(k,b)∈l:=by
 refine mZ (fun h=>.inl h) ?_
 intro l x ih h
 rw [lN] at h
 split at h
 ·rw [List.getElem?_set] at h
  split at h
  ·rename_i hx
   subst hx
   split at h
   ·right
    simp only [Option.some.injEq] at h
    subst h
    simp
   ·cases h
  ·rcases ih h with h | h
   ·exact .inl h
   ·exact .inr (by simp [h])
 ·rcases ih h with h | h
  ·exact .inl h
  ·exact .inr (by simp [h])
theorem NV(i:Nat):nV 18446744073709551615 i=true:=by
 unfold nV
 have h:i % 64<64:=Nat.mod_lt _ (by decide)
 generalize i % 64=r at h
 have hall:∀ r:Fin 64,decide (18446744073709551615 / 2 ^ r.val % 2=1)=true:=by decide +kernel
 exact hall ⟨r,h⟩
theorem OY(f:List (List UInt8))(k:Nat)(d:List UInt8)(hk:f[k]?=some d):∀ l,(settle 18446744073709551615 l f)[k]?=some (qg d l k):=by
 refine mZ hk ?_
 intro l x ih
 rw [lN,NV,if_pos rfl,lF,List.getElem?_set]
 have hl:k<(settle 18446744073709551615 l f).length:=(List.getElem?_eq_some_iff.1 ih).1
 by_cases hx:x.1=k
 ·rw [if_pos hx,if_pos hx,if_pos (by omega)]
 ·rw [if_neg hx,if_neg hx]
  exact ih
def dZ(s:St):Bool:=!(decide (s.fuse=0) || s.dead)
def dD(s:St):St:=if dZ s then { s with fuse:=if 0<s.fuse then s.fuse-1 else s.fuse } else { s with dead:=true }
def bF(n:Nat)(k:Int):Bool:=decide (0≤k∧k<(n:Int))
def aI(s:St)(k:Int)(b:List UInt8):Int:=if (bF s.aA.length k && decide (b.length=256))=false then 1 else if dZ s=false then 5 else 0
def written(s:St)(k:Int)(b:List UInt8):St:=
 if (bF s.aA.length k && decide (b.length=256))=false then s else if dZ s=false then dD s else { dD s with late:=s.late++[(k.toNat,b)] }
def dW(s:St):Int:=if dZ s=false then 5 else 0
def bW(s:St)(keep:Nat):St:={ s with aA:=settle keep s.late s.aA,late:=[] }
def bD(s:St):St:=if dZ s=false then dD s else bW (dD s) 18446744073709551615
def lit(s:St)(n:Int):St:={ s with fuse:=n }
def crashed(s:St)(keep:Nat):St:={ bW s keep with fuse := -1,dead:=false }
def iQ(s:St)(k:Int):Int:=if bF s.aA.length k=false then 1 else if s.dead then 5 else 0
def readB(s:St)(k:Int):List UInt8:=if bF s.aA.length k=false then [] else if s.dead then [] else qg (s.aA.getD k.toNat []) s.late k.toNat
structure Fine(s:St):Prop where
 pos:1≤s.aA.length
 few:s.aA.length≤1024
 aA:∀ b∈s.aA,b.length=256
 late:∀ x∈s.late,x.1<s.aA.length∧x.2.length=256
 lo : -9223372036854775808≤s.fuse
 hi:s.fuse≤9223372036854775807
theorem Aw(keep:Nat)(f:List (List UInt8))(hf:∀ b∈f,b.length=256):∀ l:List (Nat × List UInt8),(∀ x∈l,x.1<f.length∧x.2.length=256)→∀ b∈settle keep l f,b.length=256:=by
 refine mZ (fun _=>hf) ?_
 intro l x ih h b hb
 have ih':=ih (fun y hy=>h y (by simp [hy]))
 rw [lN] at hb
 split at hb
 ·rcases List.mem_or_eq_of_mem_set hb with hb | rfl
  ·exact ih' b hb
  ·exact (h x (by simp)).2
 ·exact ih' b hb
theorem dK(s:St):(dD s).aA=s.aA:=by unfold dD;split<;>rfl
theorem iC(s:St):(dD s).late=s.late:=by unfold dD;split<;>rfl
theorem Fine.dD{s:St}(h:Fine s):Fine (dD s):=by
 obtain⟨h1,h2,h3,h4,h5,h6⟩:=h
 unfold Go.Proofs.YtmelaiefbpdifaaGreatDoor.dD
 split
 ·refine⟨h1,h2,h3,h4,?_,?_⟩
  ·show -9223372036854775808≤(if 0<s.fuse then s.fuse-1 else s.fuse)
   split<;>omega
  ·show (if 0<s.fuse then s.fuse-1 else s.fuse)≤9223372036854775807
   split<;>omega
 ·exact⟨h1,h2,h3,h4,h5,h6⟩
theorem Fine.settled{s:St}(h:Fine s)(keep:Nat):Fine (bW s keep):=
 ⟨by rw [bW,dL];exact h.pos,by rw [bW,dL];exact h.few,Aw keep s.aA h.aA s.late h.late,by simp [bW],h.lo,h.hi⟩
theorem Fine.written{s:St}(h:Fine s)(k:Int)(b:List UInt8):Fine (written s k b):=by
 unfold Go.Proofs.YtmelaiefbpdifaaGreatDoor.written
 split
 ·exact h
 ·rename_i hk
  split
  ·exact h.dD
  ·refine⟨h.dD.pos,h.dD.few,h.dD.aA,?_,h.dD.lo,h.dD.hi⟩
   intro x hx
   simp only [dK]
   simp [bF] at hk
   rcases List.mem_append.1 hx with hx | hx
   ·exact h.late x hx
   ·simp at hx
    subst hx
    exact⟨by simp;omega,hk.2.2⟩
theorem Fine.bD{s:St}(h:Fine s):Fine (bD s):=by
 unfold Go.Proofs.YtmelaiefbpdifaaGreatDoor.bD
 split
 ·exact h.dD
 ·exact h.dD.settled _
theorem Fine.lit{s:St}(h:Fine s)(n:Int)(h0 : -9223372036854775808≤n)(h1:n≤9223372036854775807):Fine (lit s n):=⟨h.pos,h.few,h.aA,h.late,h0,h1⟩
theorem Fine.crashed{s:St}(h:Fine s)(keep:Nat):Fine (crashed s keep):=by
 obtain⟨h1,h2,h3,h4,_,_⟩:=h.settled keep
 exact⟨h1,h2,h3,h4,by simp [Go.Proofs.YtmelaiefbpdifaaGreatDoor.crashed],by simp [Go.Proofs.YtmelaiefbpdifaaGreatDoor.crashed]⟩
def rep(n:Nat)(b:UInt8):List UInt8:=List.replicate n b
theorem lu(n:Nat)(b:UInt8):(rep n b).length=n:=List.length_replicate
theorem rep_succ(n:Nat)(b:UInt8):rep (n+1) b=rep n b++[b]:=List.replicate_succ'
def fresh(n:Nat):St:=⟨List.replicate n (rep 256 0),[], -1,false⟩
theorem jk(n:Nat):(fresh n).aA.length=n:=List.length_replicate
theorem EO(n:Nat)(h0:1≤n)(h1:n≤1024):Fine (fresh n):=by
 refine⟨by rw [jk];exact h0,by rw [jk];exact h1,?_,?_,(by decide:(-9223372036854775808:Int) ≤ -1),(by decide:(-1:Int)≤9223372036854775807)⟩
 ·intro b hb
  rw [(List.mem_replicate.1 hb).2,lu]
 ·intro x hx
  cases hx
end Go.Proofs.YtmelaiefbpdifaaGreatDoor
/- A device in memory, and the walks of those of its methods that only look. -/
namespace Go.Proofs.YtmelaiefbpdifaaGreatDoor
open Go.RowKit
def jy(l:List (Nat × List UInt8)):List (List Value):=l.map fun x=>.int .i64 (x.1:Int) :: ak x.2
def bU(f:List (List UInt8)):List (List Value):=f.map ak
def eX(n:Nat)(l:List (Nat × List UInt8)):List Value:=(List.range n).map fun k=>.int .i64 (lastOf l k:Int)
def Dev(w:World)(p:Nat)(F:List Nat)(s:St):Prop:=
 ∃ gs gl v,Blk w p 84 #[.slice (some ⟨gs,0,none⟩) s.aA.length s.aA.length,v,.slice (some ⟨gl,0,none⟩) s.aA.length s.aA.length,.int .i64 s.fuse,.bool s.dead] ∧
  Blk w gs 105 (bU s.aA).flatten.toArray∧Blk w gl 3 (eX s.aA.length s.late).toArray∧w.ownsRow 0 107 257 v s.late.length (jy s.late).flatten ∧
  (p≠gs∧p≠gl∧gs≠gl∧v.ownBlock≠some p∧v.ownBlock≠some gs∧v.ownBlock≠some gl)∧(p∈F∧gs∈F∧gl∈F∧∀ k,v.ownBlock=some k→k∈F)∧Fine s
def Did(w w':World)(p:Nat)(F:List Nat)(s:St):Prop:=
 ∃ F',Dev w' p F' s∧Only F w w'∧Hid (∀ k∈F',k∈F∨w.heap.size≤k)
theorem Dev.lt{w:World}{p:Nat}{F:List Nat}{s:St}(h:Dev w p F s):p<w.heap.size:=by
 obtain⟨gs,gl,v,h1,_⟩:=h
 exact h1.lt
theorem Dev.fine{w:World}{p:Nat}{F:List Nat}{s:St}(h:Dev w p F s):Fine s:=by
 obtain⟨gs,gl,v,_,_,_,_,_,_,h1⟩:=h
 exact h1
theorem ay{S:List Nat}{w w':World}{e:TypeId}{z:Nat}{v:Value}{n:Nat}{xs:List Value}(h:w.ownsRow 0 e z v n xs)(k:Only S w w')(hv:∀ g,v.ownBlock=some g→g∉S):w'.ownsRow 0 e z v n xs:=by
 refine⟨h.1,?_⟩
 rcases h.2 with h0 | ⟨g,cap,cur,rfl,hb,hg,r⟩
 ·exact .inl h0
 ·exact .inr ⟨g,cap,cur,rfl,hb,by rw [k.block g (Array.getElem?_eq_some_iff.1 hg).1 (hv g rfl)];exact hg,r⟩
theorem Dev.kept{S:List Nat}{w w':World}{p:Nat}{F:List Nat}{s:St}(h:Dev w p F s)(k:Only S w w')(hF:∀ i∈F,i∉S):Dev w' p F s:=by
 obtain⟨gs,gl,v,h1,h2,h3,h4,h5,⟨f1,f2,f3,f4⟩,h7⟩:=h
 exact⟨gs,gl,v,h1.kept k (hF _ f1),h2.kept k (hF _ f2),h3.kept k (hF _ f3),ay h4 k (fun g hg=>hF g (f4 g hg)),h5,⟨f1,f2,f3,f4⟩,h7⟩
theorem Dev.trim{w:World}{p:Nat}{F:List Nat}{s:St}(h:Dev w p F s):∃ F',Dev w p F' s∧(∀ k∈F',k∈F)∧∀ k∈F',k<w.heap.size:=by
 obtain⟨gs,gl,v,h1,h2,h3,h4,h5,⟨f1,f2,f3,f4⟩,h7⟩:=h
 refine⟨p :: gs :: gl :: v.ownBlock.toList,⟨gs,gl,v,h1,h2,h3,h4,h5,⟨by simp,by simp,by simp,fun k hk=>by simp [hk]⟩,h7⟩,?_,?_⟩
 ·intro k hk
  rcases List.mem_cons.1 hk with rfl | hk
  ·exact f1
  rcases List.mem_cons.1 hk with rfl | hk
  ·exact f2
  rcases List.mem_cons.1 hk with rfl | hk
  ·exact f3
  ·exact f4 k (by simpa using hk)
 ·intro k hk
  rcases List.mem_cons.1 hk with rfl | hk
  ·exact h1.lt
  rcases List.mem_cons.1 hk with rfl | hk
  ·exact h2.lt
  rcases List.mem_cons.1 hk with rfl | hk
  ·exact h3.lt
  ·rcases h4.2 with⟨rfl,_⟩ | ⟨g,cap,cur,rfl,_,hg,_⟩
   ·simp [Value.ownBlock] at hk
   ·simp [Value.ownBlock] at hk
    subst hk
    exact (Array.getElem?_eq_some_iff.1 hg).1
theorem o7(w:World)(p:Nat)(F:List Nat)(s:St)(hd:Dev w p F s):
  Calls Tryz.prog 71 #[.pointer (some ⟨p,0,none⟩)] w fun e w'=>e = .returned (.int .i64 (s.aA.length:Int))∧w'=w:=by
 obtain⟨gs,gl,v,hb,_⟩:=hd
 have c0:=hb.cell 0
 simp only [List.getElem?_toArray,List.getElem?_cons_zero] at c0
 generalize s.aA.length=n at *
 go_enter Tryz.func71,Tryz.ntmps71
 go_wp2
 go_ret
 exact⟨rfl,rfl⟩
theorem rO(w:World)(p:Nat)(F:List Nat)(s:St)(k:Int)(hd:Dev w p F s):
  Calls Tryz.prog 44 #[.pointer (some ⟨p,0,none⟩),.int .i64 k] w fun e w'=>e = .returned (.bool (bF s.aA.length k))∧w'=w:=by
 by_cases hk:0≤k
 ·go_enter Tryz.func44,Tryz.ntmps44
  go_wp2_with fail
  refine (o7 w p F s hd).mono ?_
  rintro e w1 ⟨rfl,rfl⟩
  go_wp2
  go_ret
  exact⟨by simp [bF,hk],rfl⟩
 ·go_enter Tryz.func44,Tryz.ntmps44
  go_wp2
  go_ret
  exact⟨by simp [bF];omega,rfl⟩
end Go.Proofs.YtmelaiefbpdifaaGreatDoor
/- Read, Settled. -/
namespace Go.Proofs.YtmelaiefbpdifaaGreatDoor
open Go.RowKit
theorem pK{P:Program}(w:World)(src dst e:TypeId)(hs:P.underlying src=some (.slice e))(he:P.underlying e=some (.int .u8))(hd:P.underlying dst=some .string)(A:Option Addr)(m c:Nat)(l:List UInt8)
  (hsrc:yL w (.slice A m c) m (ak l)):(convert src dst (.slice A m c)).run P w = .ok (.string (strOf l)) w:=by
 obtain⟨hl,hc⟩:=hsrc.bytes
 cases hA:A with
 | some ad=>
  subst hA
  have hc':∀ j (hj:j<l.length),w.cell? (ad.add j)=some (.int .u8 (l[j].toNat:Int)):=by
   rcases hc with h0 | ⟨ad',he',hc⟩
   ·intro j hj;omega
   ·injection he' with he';subst he';exact hc
  have:=run_convert_bytes_back (P:=P) w src dst e ad c l hs he hd hc'
  rw [hl] at this
  exact this
 | none=>
  have h0:m=0:=by rcases hc with h0 | ⟨ad,he',_⟩;exact h0;rw [hA] at he';cases he'
  obtain rfl:l = []:=List.eq_nil_of_length_eq_zero (by omega)
  rw [run_convert_bytes_string w src dst e none m c hs he hd]
  simp [Conv.bytesToString,strOf]
  rfl
theorem wU{α:Type}{l:List α}{k:Nat}(hk:k<l.length)(d:α):l[k]?=some (l.getD k d):=by
 rw [List.getD_eq_getElem?_getD,List.getElem?_eq_getElem hk];rfl
theorem CV(f:List (List UInt8))(hf:∀ b∈f,b.length=256):∀ b∈bU f,b.length=256:=by
 intro b hb
 simp only [bU,List.mem_map] at hb
 obtain⟨x,hx,rfl⟩:=hb
 rw [aO]
 exact hf x hx
theorem WL(l:List (Nat × List UInt8))(hl:∀ x∈l,x.2.length=256):∀ b∈jy l,b.length=257:=by
 intro b hb
 simp only [jy,List.mem_map] at hb
 obtain⟨x,hx,rfl⟩:=hb
 rw [List.length_cons,aO,hl x hx]
theorem XB{w:World}{gs:Nat}{f:List (List UInt8)}(hb:Blk w gs 105 (bU f).flatten.toArray)(hf:∀ b∈f,b.length=256)(k:Nat)(hk:k<f.length)(c:Nat):
  yL w (.slice (some ⟨gs,k*256,none⟩) 256 c) 256 (ak (f.getD k [])):=by
 have hg:=wU hk ([]:List UInt8)
 have hl:(f.getD k []).length=256:=hf _ (List.mem_of_getElem? hg)
 refine⟨_,_,rfl,by rw [aO,hl],.inr ⟨_,rfl,fun j u hu=> ?_⟩⟩
 rw [addr_add,hb.cell]
 simp only [List.getElem?_toArray]
 refine rQ 256 _ k j (ak (f.getD k [])) u (CV f hf) ?_ hu
 simp only [bU,List.getElem?_map,hg]
 rfl
theorem Eu{w:World}{v:Value}{n:Nat}{l:List (Nat × List UInt8)}(hn:n=l.length)(h:w.ownsRow 0 107 257 v n (jy l).flatten)(hl:∀ x∈l,x.2.length=256){i:Nat}{x:Nat × List UInt8}(hi:l[i]?=some x):
  ∃ g c,v = .slice (some ⟨g,0,none⟩) n c∧n≤9223372036854775807∧w.rangeAt g (i*257) (.int .i64 (x.1:Int) :: ak x.2):=by
 have hil:i<l.length:=(List.getElem?_eq_some_iff.1 hi).1
 rcases id h.2 with⟨rfl,h0⟩ | ⟨g,cap,cur,rfl,_,_,hc,hm,_⟩
 ·omega
 ·refine⟨g,cap,rfl,by simp only [maxLen] at hm;omega,fun j u hu=> ?_⟩
  have hj:j<257:=by
   have:=(List.getElem?_eq_some_iff.1 hu).1
   rw [List.length_cons,aO,hl x (List.mem_of_getElem? hi)] at this
   exact this
  have:=h.cells rfl (i*257+j) u (rQ 257 _ i j _ u (WL l hl) (by simp only [jy,List.getElem?_map,hi];rfl) hu)
  rw [addr_add,Nat.zero_add] at this
  exact this
theorem TB{w:World}{v:Value}{l:List (Nat × List UInt8)}(h:w.ownsRow 0 107 257 v l.length (jy l).flatten)(hl:∀ x∈l,x.2.length=256){i:Nat}{x:Nat × List UInt8}(hi:l[i]?=some x):
  ∃ g c,v = .slice (some ⟨g,0,none⟩) l.length c∧l.length≤9223372036854775807∧w.rangeAt g (i*257) (.int .i64 (x.1:Int) :: ak x.2):=Eu rfl h hl hi
theorem WJ{w:World}{g o:Nat}{k:Int}{b:List UInt8}(h:w.rangeAt g o (.int .i64 k :: ak b))(hb:b.length=256)(c:Nat):yL w (.slice (some ⟨g,o+1,none⟩) 256 c) 256 (ak b):=by
 refine⟨_,_,rfl,by rw [aO,hb],.inr ⟨_,rfl,fun j u hu=> ?_⟩⟩
 rw [addr_add]
 have:=h (j+1) u (by rw [List.getElem?_cons_succ];exact hu)
 rw [show o+(j+1)=o+1+j by omega] at this
 exact this
theorem Jp{w:World}{gl n:Nat}{l:List (Nat × List UInt8)}(h:Blk w gl 3 (eX n l).toArray){k:Nat}(hk:k<n):w.cell? ⟨gl,k,none⟩=some (.int .i64 (lastOf l k:Int)):=by
 rw [h.cell]
 simp [eX,hk]
theorem wC(w:World)(p:Nat)(F:List Nat)(s:St)(k:Int)(hd:Dev w p F s):
  Calls Tryz.prog 14 #[.pointer (some ⟨p,0,none⟩),.int .i64 k] w fun e w'=>e = .returned (.tuple #[.string (strOf (readB s k)),.int .i64 (iQ s k)])∧w'=w:=by
 obtain⟨gs,gl,v,hb,hf,hl,hown,_,_,fine⟩:=id hd
 have c0:=hb.cell 0
 have c1:=hb.cell 1
 have c2:=hb.cell 2
 have c4:=hb.cell 4
 simp only [List.getElem?_toArray,List.getElem?_cons_zero,List.getElem?_cons_succ] at c0 c1 c2 c4
 cases hh:bF s.aA.length k with
 | false=>
  go_enter Tryz.func14,Tryz.ntmps14
  go_wp2_with fail
  refine (rO w p F s k hd).mono ?_
  rintro e w1 ⟨rfl,rfl⟩
  rw [hh]
  go_wp2
  go_ret2
  exact⟨by simp [readB,iQ,hh,strOf],rfl⟩
 | true=>
  have hk:0≤k∧k<(s.aA.length:Int):=by simpa [bF] using hh
  obtain⟨k,rfl⟩:=Int.eq_ofNat_of_zero_le hk.1
  have hk':k<s.aA.length:=by omega
  cases fG:s.dead with
  | true=>
   rw [fG] at c4
   go_enter Tryz.func14,Tryz.ntmps14
   go_wp2_with fail
   refine (rO w p F s k hd).mono ?_
   rintro e w1 ⟨rfl,rfl⟩
   rw [hh]
   go_wp2
   go_ret2
   exact⟨by simp [readB,iQ,hh,fG,strOf],rfl⟩
  | false=>
   rw [fG] at c4
   have c5:=Jp hl hk'
   have hr:readB s k=qg (s.aA.getD k []) s.late k:=by simp [readB,hh,fG]
   have hre:iQ s k=0:=by simp [iQ,hh,fG]
   rw [hr,hre]
   clear hr hre
   rcases BF (s.aA.getD k []) k s.late with⟨h1,h2,_⟩ | ⟨h1,h2,h3⟩
   ·rw [h2]
    rw [h1] at c5
    have hc:=pK (P:=Tryz.prog) w 103 9 5 Tryz.underlying103 Tryz.underlying5 Tryz.underlying9 _ _ _ _ (XB hf fine.aA k hk' 256)
    clear h1 h2
    generalize s.aA.getD k []=d at *
    go_enter Tryz.func14,Tryz.ntmps14
    go_wp2_with fail
    refine (rO w p F s k hd).mono ?_
    rintro e w1 ⟨rfl,rfl⟩
    rw [hh]
    go_wp2
    go_ret2
    exact⟨rfl,rfl⟩
   ·obtain⟨g,c,rfl,hmax,hrange⟩:=TB hown (fun x hx=>(fine.late x hx).2) h3
    have hlen:=(fine.late _ (List.mem_of_getElem? h3)).2
    simp only at hlen
    have hc:=pK (P:=Tryz.prog) w 103 9 5 Tryz.underlying103 Tryz.underlying5 Tryz.underlying9 _ _ _ _ (WJ hrange hlen 256)
    clear hrange h3 hlen
    generalize qg (s.aA.getD k []) s.late k=d at *
    generalize lastOf s.late k=m at *
    obtain⟨m,rfl⟩:∃ m',m=m'+1:=⟨m-1,by omega⟩
    have e1:((m+1:Nat):Int)=(m:Int)+1:=by omega
    rw [e1] at c5
    simp only [Nat.add_sub_cancel] at hc
    have hw:wrap64 (m:Int)=m:=by simp only [wrap64];omega
    have hmn:(m:Int)<(s.late.length:Int):=by omega
    clear hmax
    generalize s.late.length=n at *
    go_enter Tryz.func14,Tryz.ntmps14
    go_wp2_with fail
    refine (rO w p F s k hd).mono ?_
    rintro e w1 ⟨rfl,rfl⟩
    rw [hh]
    go_wp2
    go_ret2
    exact⟨rfl,rfl⟩
end Go.Proofs.YtmelaiefbpdifaaGreatDoor
/- spend, Fuse: what turns the device's own cells alone. -/
namespace Go.Proofs.YtmelaiefbpdifaaGreatDoor
open Go.RowKit
theorem Only.set(w:World)(F:List Nat){p i:Nat}(hp:p∈F)(u:Value):Only F w (w.setCell ⟨p,i,none⟩ u):=(Only.refl F w).setCell (.inl hp) u
theorem Dev.mem{w:World}{p:Nat}{F:List Nat}{s:St}(h:Dev w p F s):p∈F:=by
 obtain⟨gs,gl,v,_,_,_,_,_,⟨f1,_⟩,_⟩:=h
 exact f1
theorem Dev.Az{w:World}{p:Nat}{F:List Nat}{s:St}(h:Dev w p F s)(n:Int)(h0 : -9223372036854775808≤n)(h1:n≤9223372036854775807):Dev (w.setCell ⟨p,3,none⟩ (.int .i64 n)) p F { s with fuse:=n }:=by
 obtain⟨gs,gl,v,b1,b2,b3,b4,⟨n1,n2,n3,n4,n5,n6⟩,hf,fine⟩:=h
 have k:Only [p] w (w.setCell ⟨p,3,none⟩ (.int .i64 n)):=Only.set w [p] (by simp) _
 exact⟨gs,gl,v,by simpa using b1.set 3 (.int .i64 n),b2.kept k (by simpa using fun e=>n1 e.symm),b3.kept k (by simpa using fun e=>n2 e.symm),
  ay b4 k (fun g hg=>by simp;rintro rfl;exact n4 hg),⟨n1,n2,n3,n4,n5,n6⟩,hf,⟨fine.pos,fine.few,fine.aA,fine.late,h0,h1⟩⟩
theorem Dev.FK{w:World}{p:Nat}{F:List Nat}{s:St}(h:Dev w p F s)(d:Bool):Dev (w.setCell ⟨p,4,none⟩ (.bool d)) p F { s with dead:=d }:=by
 obtain⟨gs,gl,v,b1,b2,b3,b4,⟨n1,n2,n3,n4,n5,n6⟩,hf,fine⟩:=h
 have k:Only [p] w (w.setCell ⟨p,4,none⟩ (.bool d)):=Only.set w [p] (by simp) _
 exact⟨gs,gl,v,by simpa using b1.set 4 (.bool d),b2.kept k (by simpa using fun e=>n1 e.symm),b3.kept k (by simpa using fun e=>n2 e.symm),
  ay b4 k (fun g hg=>by simp;rintro rfl;exact n4 hg),⟨n1,n2,n3,n4,n5,n6⟩,hf,⟨fine.pos,fine.few,fine.aA,fine.late,fine.lo,fine.hi⟩⟩
def Same(w w':World)(p:Nat)(F:List Nat)(s:St):Prop:=Dev w' p F s∧Only F w w'
theorem Ap(w:World)(p:Nat)(F:List Nat)(s:St)(hd:Dev w p F s):
  Calls Tryz.prog 175 #[.pointer (some ⟨p,0,none⟩)] w fun e w'=>e = .returned (.bool (dZ s))∧Same w w' p F (dD s):=by
 have hmem:=hd.mem
 obtain⟨aA,late,fuse,dead⟩:=s
 obtain⟨gs,gl,v,hb,_,_,_,_,_,fine⟩:=id hd
 have flo:=fine.lo
 have fhi:=fine.hi
 have c3:=hb.cell 3
 have c4:=hb.cell 4
 have f3:=hb.free 3
 have f4:=hb.free 4
 simp only [List.getElem?_toArray,List.getElem?_cons_zero,List.getElem?_cons_succ] at c3 c4
 simp only at flo fhi
 have hdone:∀ n, -9223372036854775808≤n→n≤9223372036854775807→Same w (w.setCell ⟨p,3,none⟩ (.int .i64 n)) p F ⟨aA,late,n,dead⟩:=fun n h0 h1=>⟨hd.Az n h0 h1,Only.set w F hmem _⟩
 have fG:Same w (w.setCell ⟨p,4,none⟩ (.bool true)) p F ⟨aA,late,fuse,true⟩:=⟨hd.FK true,Only.set w F hmem _⟩
 have hrest:Same w w p F ⟨aA,late,fuse,dead⟩:=⟨hd,Only.refl F w⟩
 have hdone:=Lib.hid hdone
 have fG:=Lib.hid fG
 have hrest:=Lib.hid hrest
 clear hb hd fine
 by_cases h0:fuse=0
 ·subst h0
  go_enter Tryz.func175,Tryz.ntmps175
  go_wp2
  go_ret
  refine⟨by simp [dZ],?_⟩
  simpa [dD,dZ] using fG.out
 ·cases hdd:dead with
  | true=>
   rw [hdd] at c4 hrest
   go_enter Tryz.func175,Tryz.ntmps175
   go_wp2
   go_ret
   refine⟨by simp [dZ],?_⟩
   simpa [dD,dZ] using hrest.out
  | false=>
   rw [hdd] at c4 hrest hdone
   by_cases h1:0<fuse
   ·have hw:wrap64 (fuse-1)=fuse-1:=by simp only [wrap64];omega
    go_enter Tryz.func175,Tryz.ntmps175
    go_wp2
    go_ret
    refine⟨by simp [dZ,h0],?_⟩
    simpa [dD,dZ,h0,h1] using hdone.out (fuse-1) (by omega) (by omega)
   ·go_enter Tryz.func175,Tryz.ntmps175
    go_wp2
    go_ret
    refine⟨by simp [dZ,h0],?_⟩
    have e1:(if 0<fuse then fuse-1 else fuse)=fuse:=if_neg (by omega)
    simpa [dD,dZ,h0,e1] using hrest.out
theorem Oe(w:World)(p:Nat)(F:List Nat)(s:St)(n:Int)(h0 : -9223372036854775808≤n)(h1:n≤9223372036854775807)(hd:Dev w p F s):
  Calls Tryz.prog 22 #[.pointer (some ⟨p,0,none⟩),.int .i64 n] w fun e w'=>e = .returned (.tuple #[])∧Same w w' p F (lit s n):=by
 have hmem:=hd.mem
 obtain⟨gs,gl,v,hb,_,_,_,_,_,fine⟩:=id hd
 have c3:=hb.cell 3
 have f3:=hb.free 3
 simp only [List.getElem?_toArray,List.getElem?_cons_zero,List.getElem?_cons_succ] at c3
 have hdone:Same w (w.setCell ⟨p,3,none⟩ (.int .i64 n)) p F (lit s n):=⟨hd.Az n h0 h1,Only.set w F hmem _⟩
 have hdone:=Lib.hid hdone
 clear hb hd fine
 go_enter Tryz.func22,Tryz.ntmps22
 go_wp2
 go_end0
 exact⟨rfl,hdone.out⟩
end Go.Proofs.YtmelaiefbpdifaaGreatDoor
/- settle: which unsettled writes are kept. -/
namespace Go.Proofs.YtmelaiefbpdifaaGreatDoor
open Go.RowKit
theorem Only.setRow{S:List Nat}{a w:World}(h:Only S a w){g:Nat}(hg:g∈S∨a.heap.size≤g)(cs:Array Value):Only S a (w.setRow g cs):=
 ⟨h.os,h.tape,h.output,by simpa [World.setRow] using h.size,fun i hi hn=>(setRow_other w g i cs (by
  rintro rfl
  rcases hg with hg | hg
  ·exact hn hg
  ·omega)).trans (h.block i hi hn)⟩
theorem aS{P:Program}{ops:Array Oper}{rest:List Oper}{op:Oper}{a:Act}{w:World}{Q:Exit→Act→World→Prop}(hgd:op.guard=none)(ty:TypeId)(x y:Operand)(ho:op.op = .store ty x y)
  (g:Nat) (c c':Array Value) (hx:a.eval x = .pointer (some ⟨g,0,none⟩)) (hy:a.eval y = .agg c') (hb:Blk w g ty c) (hi:(P.info? ty).map (·.size)=some c'.size) (hs:c.size=c'.size) (h1:c'.all (·.oneCell')=true)
  (h:∀ w',Blk w' g ty c'→Only [g] w w'→wpList P ops Q rest (a.put op.dst undef) w'):wpList P ops Q (op :: rest) a w:=by
 refine wpList_plain hgd fun K hK=> ?_
 have hrun:=run_storeVar_row (P:=P) w g ty ty c c' hb hi hs h1
 unfold Oper.wp execOp
 simp only [ho,hx,hy,Instr.storeAt,Instr.sureAddr,Sem.run_bind,Sem.run_pure,Result.andThen_ok,hrun]
 exact hK _ _ (h _ (setRow_heap w g c c' ty _ hb) ((Only.refl [g] w).setRow (.inl (by simp)) _))
theorem OC:∃ Z:Array Value,(Tryz.prog.info? 107).map (fun i=>(i.zero,i.size))=some (some (.agg Z),257)∧Z.size=257:=
 ⟨(((Tryz.prog.info? 107).bind (·.zero)).getD (.int .i64 0)).cells,by kernel_rfl,by kernel_rfl⟩
def lU(n:Nat)(l:List (Nat × List UInt8))(i:Nat):List Value:=(List.range n).map fun k=>.int .i64 (if k∈(l.take i).map (·.1) then 0 else (lastOf l k:Int))
theorem WQ(keep k:Nat)(h:keep<18446744073709551616):(bits BinOp.and IntKind.u64 ((keep:Int) / 2 ^ (k % 64)) 1==1)=nV keep k:=by
 have e1:((keep:Int) / 2 ^ (k % 64))=((keep / 2 ^ (k % 64):Nat):Int):=by simp
 have h2:keep / 2 ^ (k % 64)<18446744073709551616:=Nat.lt_of_le_of_lt (Nat.div_le_self _ _) h
 unfold nV
 rw [e1]
 generalize keep / 2 ^ (k % 64)=q at *
 have e2:=u64_and_nat q 1 h2 (by decide)
 rw [Nat.and_one_is_mod] at e2
 have e3:((1:Nat):Int)=1:=rfl
 rw [e3] at e2
 rw [e2]
 have:q % 2=0∨q % 2=1:=by omega
 rcases this with h | h<;>rw [h]<;>rfl
theorem Ag{P:Program}{w:World}{ops:Array Oper}{rest:List Oper}{o:Oper}{a:Act}{Q:Exit→Act→World→Prop}(hgd:o.guard=none)(d s:Operand)(dT sT:TypeId)
  (ho:o.op = .call { callee:=.builtin .copy,args:=#[d,s],argTypes:=#[dT,sT] }) (elem:TypeId) (hu:P.underlying dT=some (.slice elem)) (hsz:(P.info? elem).map (·.size)=some 1)
  (g off n dCap sCap:Nat) (ad:Addr) (hd:a.eval d = .slice (some ⟨g,off,none⟩) n dCap) (hs:a.eval s = .slice (some ad) n sCap)
  (cur:List Value) (t:TypeId) (hg:Blk w g t cur.toArray) (cs:List Value) (hn:cs.length=n)
  (hsrc:∀ j v,cs[j]?=some v→w.cell? (ad.add j)=some v) (hfit:off+n≤cur.length) (h1:∀ v∈cs,v.oneCell'=true) (res:List Value) (hr:res=cur.take off++(cs++cur.drop (off+n)))
  (h:∀ w',Blk w' g t res.toArray→Only [g] w w'→wpList P ops Q rest (a.put o.dst (goInt n)) w'):wpList P ops Q (o :: rest) a w:=by
 subst hn
 subst hr
 refine wpList_copy_own hgd d s dT sT ho elem hu hsz g off _ dCap ad _ sCap hd hs cur.toArray t hg cs (by simp) hsrc (by simpa using hfit) h1 ?_
 refine h _ ?_ ((Only.refl [g] w).setRow (.inl (by simp)) _)
 unfold Blk
 simpa using setRow_heap w g cur.toArray (cur.take off++(cs++cur.drop (off+cs.length))).toArray t _ hg
theorem GL(f:List (List UInt8))(hf:∀ b∈f,b.length=256)(k:Nat)(b:List UInt8)(hk:k<f.length)(hb:b.length=256):
  (bU (f.set k b)).flatten=(bU f).flatten.take (k*256)++(ak b++(bU f).flatten.drop (k*256+256)):=by
 have e:bU (f.set k b)=(bU f).set k (ak b):=by simp [bU,List.map_set]
 rw [e]
 exact GK 256 _ k _ (CV f hf) (by simpa [bU] using hk) (by rw [aO];exact hb)
theorem GN(f:List (List UInt8))(hf:∀ b∈f,b.length=256):(bU f).flatten.length=f.length*256:=by
 rw [zW 256 _ (CV f hf)]
 simp [bU]
theorem yZ(n:Nat)(l:List (Nat × List UInt8))(k:Nat)(x:Nat × List UInt8)(hx:l[k]?=some x):(lU n l k).set x.1 (.int .i64 0)=lU n l (k+1):=by
 have ht:l.take (k+1)=l.take k++[x]:=by
  rw [List.take_add_one,hx]
  rfl
 apply List.ext_getElem?
 intro j
 rw [List.getElem?_set]
 simp only [lU,ht,List.getElem?_map,List.length_map,List.length_range]
 by_cases hj:j<n
 ·rw [List.getElem?_eq_getElem (by simpa using hj)]
  simp only [List.getElem_range,Option.map_some,List.map_append,List.map_cons,List.map_nil,List.mem_append,List.mem_singleton]
  by_cases e:x.1=j
  ·subst e
   simp [hj]
  ·have e':¬j=x.1:=fun h=>e h.symm
   simp [e,e']
 ·rw [List.getElem?_eq_none (by simpa using hj)]
  split
  ·simp only [Option.map_none]
   rename_i e
   rw [if_neg (by omega)]
  ·rfl
theorem LC(n:Nat)(l:List (Nat × List UInt8)):lU n l l.length=eX n []:=by
 unfold lU eX
 apply List.map_congr_left
 intro k _
 rw [List.take_of_length_le (Nat.le_refl _),Ew]
 rcases BF [] k l with⟨h,_⟩ | ⟨_,_,h⟩
 ·rw [h];simp
 ·have:k∈l.map (·.1):=List.mem_map.2 ⟨_,List.mem_of_getElem? h,rfl⟩
  rw [if_pos this]
  rfl
theorem Ep(n:Nat)(l:List (Nat × List UInt8))(i k:Nat)(hk:k<n):∃ u,(lU n l i)[k]?=some u:=⟨_,List.getElem?_eq_getElem (by simpa [lU] using hk)⟩
theorem uM(keep:Nat)(l:List (Nat × List UInt8))(f:List (List UInt8))(k:Nat)(x:Nat × List UInt8)(hx:l[k]?=some x):
  settle keep (l.take (k+1)) f=if nV keep k then (settle keep (l.take k) f).set x.1 x.2 else settle keep (l.take k) f:=by
 have hk:k<l.length:=(List.getElem?_eq_some_iff.1 hx).1
 have ht:l.take (k+1)=l.take k++[x]:=by
  rw [List.take_add_one,hx]
  rfl
 rw [ht,lN,List.length_take,Nat.min_eq_left (by omega)]
set_option maxRecDepth 100000 in
theorem DV(w:World)(p:Nat)(F:List Nat)(s:St)(keep:Nat)(hkeep:keep<18446744073709551616)(hd:Dev w p F s):
  Calls Tryz.prog 59 #[.pointer (some ⟨p,0,none⟩),.int .u64 (keep:Int)] w fun e w'=>e = .returned (.tuple #[])∧Same w w' p F (bW s keep):=by
 obtain⟨Z,hz,hzs⟩:=OC
 obtain⟨hz0,hz1⟩:=zero_of_info hz
 clear hz
 obtain⟨gs,gl,v,hb,hf,hl,hown,⟨n1,n2,n3,n4,n5,n6⟩,hF,fine⟩:=id hd
 obtain⟨aA,late,fuse,dead⟩:=s
 simp only at hb hf hl hown fine
 have c1:=hb.cell 1
 simp only [List.getElem?_toArray,List.getElem?_cons_zero,List.getElem?_cons_succ] at c1
 obtain⟨n,hn⟩:∃ n,n=late.length:=⟨_,rfl⟩
 rw [←hn] at hown
 obtain⟨A,c,rfl,hmax⟩:∃ A c,v = .slice A n c∧n≤9223372036854775807:=by
  rcases hown.2 with⟨rfl,h0⟩ | ⟨g,cap,cur,rfl,_,_,h1,h2,_⟩
  ·exact⟨_,_,by rw [h0],by omega⟩
  ·exact⟨_,_,rfl,by simp only [maxLen] at h2;omega⟩
 replace hn:=Lib.hid hn
 go_enter Tryz.func59,Tryz.ntmps59
 go_wp2
 go_loopw [11] (fun i wr=>∃ k:Nat,k≤n∧i = .int .i64 k∧Blk wr gs 105 (bU (settle keep (late.take k) aA)).flatten.toArray∧Blk wr gl 3 (lU aA.length late k).toArray∧Only [gs,gl] w wr) (fun i _=>n-(intOf i).toNat)
 case atStart=>exact⟨0,Nat.zero_le _,rfl,by simpa [DU] using hf,by simpa [lU,eX] using hl,Only.refl _ _⟩
 case round=>
  obtain⟨k,hk,rfl,hf',hl',hkept⟩:=hrel
  by_cases hlt:k<n
  ·have hx:late[k]?=some (late[k]'(by rw [←hn.out];exact hlt)):=List.getElem?_eq_getElem _
   have hown':=ay hown hkept (fun g hg=>by simp;exact⟨by rintro rfl;exact n5 hg,by rintro rfl;exact n6 hg⟩)
   obtain⟨g,c',hA,_,hrange⟩:=Eu hn.out hown' (fun x hx=>(fine.late x hx).2) hx
   injection hA with hA _ hc'
   subst hA
   subst hc'
   generalize late[k]'(by rw [←hn.out];exact hlt)=x at *
   have hxl:=(fine.late x (List.mem_of_getElem? hx)).2
   have hcl:(Value.int .i64 (x.1:Int) :: ak x.2).length=257:=by rw [List.length_cons,aO,hxl]
   have hone:(Value.int .i64 (x.1:Int) :: ak x.2).toArray.all (·.oneCell')=true:=all_oneCell_toArray (fun v hv=>by
    rcases List.mem_cons.1 hv with rfl | hv
    ·rfl
    ·exact lI _ v hv)
   obtain⟨cs,hcs⟩:∃ cs,cs=Value.int .i64 (x.1:Int) :: ak x.2:=⟨_,rfl⟩
   rw [←hcs] at hrange hcl hone
   replace hcs:=Lib.hid hcs
   have hbit:=WQ keep k hkeep
   have hfx:x.1<aA.length:=(fine.late x (List.mem_of_getElem? hx)).1
   have aeL:gs≠wr.heap.size:=Nat.ne_of_lt hf'.lt
   have aez:gl≠wr.heap.size:=Nat.ne_of_lt hl'.lt
   cases hkb:nV keep k with
   | true=>
    rw [hkb] at hbit
    go_wp2_with (first
     | (refine wpList_load_mid rfl 107 (.tmp 14) rfl g (k*257) rfl cs _ hrange Tryz.underlying107 rfl (by rw [hcl];exact hz1) ?_)
     | (refine aS rfl 107 (.tmp 5) (.tmp 15) rfl wr.heap.size Z cs.toArray rfl rfl (Blk.new wr _ _) (by simpa [hcl] using hz1) (by simpa [hcl] using hzs) hone ?_;intro w1 hw1 k1))
    have k2:Only [gs,gl] w w1:=(hkept.alloc _).then k1 (by
     intro i hi
     simp at hi
     subst hi
     exact .inr hkept.size)
    have pb:=hb.kept k2 (by simp;exact⟨n1,n2⟩)
    have d0:=pb.cell 0
    have d2:=pb.cell 2
    simp only [List.getElem?_toArray,List.getElem?_cons_zero,List.getElem?_cons_succ] at d0 d2
    have hcs':=hcs.out
    rw [hcs'] at hw1
    have q0:=hw1.cell 0
    simp only [List.getElem?_toArray,List.getElem?_cons_zero] at q0
    have hg1:Blk w1 gs 105 (bU (settle keep (late.take k) aA)).flatten.toArray:=(hf'.alloc _).kept k1 (by simp;exact Nat.ne_of_lt hf'.lt)
    have hl1:Blk w1 gl 3 (lU aA.length late k).toArray:=(hl'.alloc _).kept k1 (by simp;exact Nat.ne_of_lt hl'.lt)
    have hstep:=uM keep late aA k x hx
    rw [hkb] at hstep
    clear hrange hf' hl' hkept hown' k1
    simp only [if_true] at hstep
    go_still_tail 10,(by kernel_rfl)
    change wpList _ _ _ _ _ w1.drew
    have hgx:gs≠wr.heap.size:=aeL
    have hlx:gl≠wr.heap.size:=aez
    have kd0:Only [] w1 w1.drew:=(Only.refl [] w1).drew
    have hg1':=hg1.kept kd0 (by simp)
    have adH:=hl1.kept kd0 (by simp)
    have abX:=hw1.kept kd0 (by simp)
    have k2':=k2.drew
    generalize w1.drew=wc at *
    have hset:∀ b∈settle keep (late.take k) aA,b.length=256:=Aw keep aA fine.aA _ (fun y hy=>fine.late y (List.mem_of_mem_take hy))
    refine Ag rfl (.tmp 29) (.tmp 31) 103 103 rfl 5 Tryz.underlying103 (by kernel_rfl) gs (x.1*256) 256 256 256 ⟨wr.heap.size,1,none⟩ rfl rfl (bU (settle keep (late.take k) aA)).flatten 105 hg1' (ak x.2) (by rw [aO,hxl]) ?src ?fit (lI _) (bU (settle keep (late.take (k+1)) aA)).flatten ?res ?_
    case src=>
     intro j v hj
     rw [addr_add,abX.cell]
     simp only [List.getElem?_toArray]
     rw [Nat.add_comm,List.getElem?_cons_succ]
     exact hj
    case fit=>
     rw [GN _ hset,dL]
     omega
    case res=>
     rw [hstep]
     exact GL _ hset x.1 x.2 (by rw [dL];exact hfx) hxl
    intro w2 hg2 k3
    have hl2:=adH.kept k3 (by simp;exact fun e=>n3 e.symm)
    have hw2:=abX.kept k3 (by simp;exact fun e=>hgx e.symm)
    have k4:Only [gs,gl] w w2:=k2'.then k3 (by simp)
    clear hg1 hl1 hw1 hg1' adH abX k2 k2' k3 kd0 pb d0 d2 q0
    go_wp2
    have ac3:=hb.kept k4 (by simp;exact⟨n1,n2⟩)
    have e2:=ac3.cell 2
    simp only [List.getElem?_toArray,List.getElem?_cons_zero,List.getElem?_cons_succ] at e2
    have e0:=(hw2).cell 0
    simp only [List.getElem?_toArray,List.getElem?_cons_zero] at e0
    go_still_tail 7,(by kernel_rfl)
    change wpList _ _ _ _ _ w2.drew
    have kd:Only [] w2 w2.drew:=(Only.refl [] w2).drew
    have hgd:=(hg2).kept kd (by simp)
    have hld:=(hl2).kept kd (by simp)
    have BH:=(k4).drew
    generalize w2.drew=wd at *
    have e3:∃ u,wd.cell? ⟨gl,x.1,none⟩=some u:=by
     obtain⟨u,hu⟩:=Ep aA.length late k x.1 hfx
     exact⟨u,by rw [hld.cell];simpa using hu⟩
    obtain⟨u,e3⟩:=e3
    have e4:=hld.free x.1
    have Me:=hgd.kept (Only.set wd [gl] (p:=gl) (i:=x.1) (by simp) (.int .i64 0)) (by simpa using n3)
    have rJ:=hld.set x.1 (.int .i64 0)
    simp only [List.setIfInBounds_toArray,yZ aA.length late k x hx] at rJ
    have Md:Only [gs,gl] w (wd.setCell ⟨gl,x.1,none⟩ (.int .i64 0)):=BH.setCell (.inl (by simp)) _
    replace Me:=Lib.hid Me
    replace rJ:=Lib.hid rJ
    replace Md:=Lib.hid Md
    clear hgd hld BH kd e0 e2 ac3 hstep
    go_wp2
    go_round
    case rel=>exact⟨k+1,by omega,by go_num,Me.out,rJ.out,Md.out⟩
    case measure=>simp [intOf];omega
   | false=>
    rw [hkb] at hbit
    go_wp2_with (first
     | (refine wpList_load_mid rfl 107 (.tmp 14) rfl g (k*257) rfl cs _ hrange Tryz.underlying107 rfl (by rw [hcl];exact hz1) ?_)
     | (refine aS rfl 107 (.tmp 5) (.tmp 15) rfl wr.heap.size Z cs.toArray rfl rfl (Blk.new wr _ _) (by simpa [hcl] using hz1) (by simpa [hcl] using hzs) hone ?_;intro w1 hw1 k1))
    have k2:Only [gs,gl] w w1:=(hkept.alloc _).then k1 (by
     intro i hi
     simp at hi
     subst hi
     exact .inr hkept.size)
    have pb:=hb.kept k2 (by simp;exact⟨n1,n2⟩)
    have d0:=pb.cell 0
    have d2:=pb.cell 2
    simp only [List.getElem?_toArray,List.getElem?_cons_zero,List.getElem?_cons_succ] at d0 d2
    have hcs':=hcs.out
    rw [hcs'] at hw1
    have q0:=hw1.cell 0
    simp only [List.getElem?_toArray,List.getElem?_cons_zero] at q0
    have hg1:Blk w1 gs 105 (bU (settle keep (late.take k) aA)).flatten.toArray:=(hf'.alloc _).kept k1 (by simp;exact Nat.ne_of_lt hf'.lt)
    have hl1:Blk w1 gl 3 (lU aA.length late k).toArray:=(hl'.alloc _).kept k1 (by simp;exact Nat.ne_of_lt hl'.lt)
    have hstep:=uM keep late aA k x hx
    rw [hkb] at hstep
    clear hrange hf' hl' hkept hown' k1
    simp only [Bool.false_eq_true,if_false] at hstep
    rw [←hstep] at hg1
    clear pb d0 d2 q0
    have ac4:=hb.kept k2 (by simp;exact⟨n1,n2⟩)
    have e2:=ac4.cell 2
    simp only [List.getElem?_toArray,List.getElem?_cons_zero,List.getElem?_cons_succ] at e2
    have e0:=(hw1).cell 0
    simp only [List.getElem?_toArray,List.getElem?_cons_zero] at e0
    go_still_tail 7,(by kernel_rfl)
    change wpList _ _ _ _ _ w1.drew
    have kd:Only [] w1 w1.drew:=(Only.refl [] w1).drew
    have hgd:=(hg1).kept kd (by simp)
    have hld:=(hl1).kept kd (by simp)
    have BH:=(k2).drew
    generalize w1.drew=wd at *
    have e3:∃ u,wd.cell? ⟨gl,x.1,none⟩=some u:=by
     obtain⟨u,hu⟩:=Ep aA.length late k x.1 hfx
     exact⟨u,by rw [hld.cell];simpa using hu⟩
    obtain⟨u,e3⟩:=e3
    have e4:=hld.free x.1
    have Me:=hgd.kept (Only.set wd [gl] (p:=gl) (i:=x.1) (by simp) (.int .i64 0)) (by simpa using n3)
    have rJ:=hld.set x.1 (.int .i64 0)
    simp only [List.setIfInBounds_toArray,yZ aA.length late k x hx] at rJ
    have Md:Only [gs,gl] w (wd.setCell ⟨gl,x.1,none⟩ (.int .i64 0)):=BH.setCell (.inl (by simp)) _
    replace Me:=Lib.hid Me
    replace rJ:=Lib.hid rJ
    replace Md:=Lib.hid Md
    clear hgd hld BH kd e0 e2 ac4 hstep
    go_wp2
    go_round
    case rel=>exact⟨k+1,by omega,by go_num,Me.out,rJ.out,Md.out⟩
    case measure=>simp [intOf];omega
  ·have hkn:k=late.length:=by rw [←hn.out];omega
   subst hkn
   rw [List.take_of_length_le (Nat.le_refl _)] at hf'
   rw [LC] at hl'
   have pb:=hb.kept hkept (by simp;exact⟨n1,n2⟩)
   have d1:=pb.cell 1
   have d2:=pb.free 1
   simp only [List.getElem?_toArray,List.getElem?_cons_zero,List.getElem?_cons_succ] at d1
   have kp:Only [p] wr (wr.setCell ⟨p,1,none⟩ (.slice none 0 0)):=Only.set wr [p] (by simp) _
   have hall:Only F w (wr.setCell ⟨p,1,none⟩ (.slice none 0 0)):=by
    have h1:Only (p :: [gs,gl]) w wr:=hkept.more (fun i hi=>.inl (by simp at hi;rcases hi with rfl | rfl<;>simp))
    have h2:=h1.then kp (by simp)
    refine h2.more (fun i hi=>.inl ?_)
    simp at hi
    rcases hi with rfl | rfl | rfl
    ·exact hF.1
    ·exact hF.2.1
    ·exact hF.2.2.1
   have hend:Same w (wr.setCell ⟨p,1,none⟩ (.slice none 0 0)) p F (bW ⟨aA,late,fuse,dead⟩ keep):=by
    refine⟨⟨gs,gl,.slice none 0 0,?_,?_,?_,World.ownsRow_nil _ 0 _ 257,⟨n1,n2,n3,by simp [Value.ownBlock],by simp [Value.ownBlock],by simp [Value.ownBlock]⟩,⟨hF.1,hF.2.1,hF.2.2.1,by simp [Value.ownBlock]⟩,fine.settled keep⟩,hall⟩
    ·have:=pb.set 1 (.slice none 0 0)
     simpa [bW,dL] using this
    ·exact hf'.kept kp (by simp;exact fun e=>n1 e.symm)
    ·have:=hl'.kept kp (by simp;exact fun e=>n2 e.symm)
     simpa [bW,dL] using this
   replace hend:=Lib.hid hend
   clear pb hf' hl' hkept hd hb hf hl hall kp
   go_wp2
   go_end0
   exact⟨rfl,hend.out⟩
end Go.Proofs.YtmelaiefbpdifaaGreatDoor
/- Crash, Barrier. -/
namespace Go.Proofs.YtmelaiefbpdifaaGreatDoor
open Go.RowKit
theorem Same.trans{w w1 w2:World}{p:Nat}{F:List Nat}{s t:St}(h:Same w w1 p F s)(k:Same w1 w2 p F t):Same w w2 p F t:=⟨k.1,h.2.trans k.2⟩
theorem CB(w:World)(p:Nat)(F:List Nat)(s:St)(keep:Nat)(hkeep:keep<18446744073709551616)(hd:Dev w p F s):
  Calls Tryz.prog 20 #[.pointer (some ⟨p,0,none⟩),.int .u64 (keep:Int)] w fun e w'=>e = .returned (.tuple #[])∧Same w w' p F (crashed s keep):=by
 have hx:((keep:Int))=keep:=rfl
 go_enter Tryz.func20,Tryz.ntmps20
 go_wp2_with fail
 refine (DV w p F s keep hkeep hd).mono ?_
 rintro e w1 ⟨rfl,h1⟩
 obtain⟨gs,gl,v,hb,_⟩:=id h1.1
 have c3:=hb.cell 3
 have c4:=hb.cell 4
 have f3:=hb.free 3
 have f4:=hb.free 4
 simp only [List.getElem?_toArray,List.getElem?_cons_zero,List.getElem?_cons_succ] at c3 c4
 have hmem:=hd.mem
 have k1:=h1.1.Az (-1) (by decide) (by decide)
 have k2:=k1.FK false
 have hend:Same w ((w1.setCell ⟨p,3,none⟩ (.int .i64 (-1))).setCell ⟨p,4,none⟩ (.bool false)) p F (crashed s keep):=
  ⟨k2,(h1.2.setCell (.inl hmem) _).setCell (.inl hmem) _⟩
 have hend:=Lib.hid hend
 clear hb k1 k2 h1 hd
 go_wp2
 go_end0
 exact⟨rfl,hend.out⟩
theorem vG(w:World)(p:Nat)(F:List Nat)(s:St)(hd:Dev w p F s):
  Calls Tryz.prog 132 #[.pointer (some ⟨p,0,none⟩)] w fun e w'=>e = .returned (.int .i64 (dW s))∧Same w w' p F (bD s):=by
 go_enter Tryz.func132,Tryz.ntmps132
 go_wp2_with fail
 refine (Ap w p F s hd).mono ?_
 rintro e w1 ⟨rfl,h1⟩
 cases hb:dZ s with
 | false=>
  have h2:Same w w1 p F (bD s):=by simpa [bD,hb] using h1
  have h2:=Lib.hid h2
  clear h1
  go_wp2
  go_ret
  exact⟨by simp [dW,hb],h2.out⟩
 | true=>
  go_wp2_with fail
  refine (DV w1 p F _ 18446744073709551615 (by decide) h1.1).mono ?_
  rintro e w2 ⟨rfl,h2⟩
  have h3:Same w w2 p F (bD s):=by simpa [bD,hb] using h1.trans h2
  have h3:=Lib.hid h3
  clear h1 h2
  go_wp2
  go_ret
  exact⟨by simp [dW,hb],h3.out⟩
end Go.Proofs.YtmelaiefbpdifaaGreatDoor
/- A slice's literal of one struct of many cells: of no program. -/
namespace Go.Proofs.YtmelaiefbpdifaaGreatDoor
open Go.RowKit
theorem Og:∀ (l:List Value) (n:Nat) (A:Array Value),n+l.length≤A.size →
  (l.zipIdx n).foldl (fun a x=>a.setIfInBounds (0+x.2) x.1) A=(A.toList.take n++l++A.toList.drop (n+l.length)).toArray
 | [],n,A,_=>by simp
 | v :: r,n,A,h=>by
  rw [List.zipIdx_cons,List.foldl_cons]
  rw [Og r (n+1) _ (by simp at h ⊢;omega)]
  have:=list_seg_step A.toList n v r (by simp at h ⊢;omega)
  simp only [Nat.zero_add,Array.toList_setIfInBounds,List.length_cons]
  rw [this]
theorem fill_whole(cs:List Value)(A:Array Value)(h:A.size=cs.length):Instr.fill (fun i=>some (i*cs.length,cs.length)) A [(0,.agg cs.toArray)]=some cs.toArray:=by
 have hf:=Og cs 0 A (by omega)
 rw [List.take_zero,List.nil_append,Nat.zero_add,List.drop_of_length_le (by simp;omega),List.append_nil] at hf
 have hz:cs.toArray.zipIdx.foldl (fun cs (x:Value × Nat)=>cs.setIfInBounds (0+x.2) x.1) A=cs.toArray:=by
  simpa using hf
 unfold Instr.fill
 simp only [Nat.zero_mul,Value.cells,List.size_toArray,ne_eq,not_true_eq_false,Nat.zero_add,decide_false,Bool.false_or]
 rw [if_neg (by simp;omega)]
 unfold Instr.fill
 have hz':=hz
 simp only [Nat.zero_add] at hz'
 rw [hz']
section
variable {P:Program}
theorem tY(w:World)(t e:TypeId)(cs:List Value)(Z:Array Value)(hu:P.underlying t=some (.slice e))(hi:(P.info? e).map (fun i=>(i.zero,i.size))=some (some (.agg Z),cs.length))
  (hpos:0<cs.length) (hfew:cs.length≤16777216):
  (Instr.buildSlice t 1 #[(0,.agg cs.toArray)]).run P w = .ok (.slice (some ⟨w.heap.size,0,none⟩) 1 1) (w.alloc (.cells cs.toArray e)):=by
 cases hq:P.info? e with
 | none=>simp [hq] at hi
 | some i=>
  simp [hq] at hi
  obtain⟨h1,h2⟩:=hi
  have hne:¬cs.length=0:=by omega
  have hf:∀ A:Array Value,A.size=cs.length→Instr.fill (fun i=>some (i*cs.length,cs.length)) A [(0,.agg cs.toArray)]=some cs.toArray:=fill_whole cs
  have hgt:¬ 16777216<cs.length:=by omega
  simp [Instr.buildSlice,run_underlying hu,sizeOf,typeInfo,hq,h2,zeroValue,h1,hne,newRow,hf,hgt]
theorem jX{ops:Array Oper}{o:Oper}{a:Act}{w:World}{K:Act→World→Prop}{Q:Exit→Act→World→Prop}{E:Prop}(hgd:o.guard=none)(t:TypeId)(x:Operand)(ho:o.op = .buildSlice t 1 #[(0,x)])
  (e:TypeId) (cs:List Value) (Z:Array Value) (hu:P.underlying t=some (.slice e)) (hi:(P.info? e).map (fun i=>(i.zero,i.size))=some (some (.agg Z),cs.length)) (hpos:0<cs.length) (hfew:cs.length≤16777216)
  (hx:a.eval x = .agg cs.toArray) (h:K (a.put o.dst (.slice (some ⟨w.heap.size,0,none⟩) 1 1)) (w.alloc (.cells cs.toArray e))):
  if Region.wanted o (yielded ops a.tmps)=true then Oper.wp P o a w K Q else E:=by
 have hw:Region.wanted o (yielded ops a.tmps)=true:=by simp [Region.wanted,hgd]
 rw [if_pos hw]
 have hrun:=tY (P:=P) w t e cs Z hu hi hpos hfew
 unfold Oper.wp
 simp [execOp,ho,hx,hrun,Result.andThen]
 exact h
theorem rM{ops:Array Oper}{Q:Exit→Act→World→Prop}{md:Region.Mode}{S:World→Prop}{fuel:Nat}{listed:Array Bool}{a:Act}{w:World}(i:Nat){oi:Oper}(v:Value)(hi:ops.toList[i]?=some oi)
  (hs:Region.noSelect ops=true) (hf:Region.free md ops listed i=true) (hr:(Region.ready md ops listed).contains i=true)
  (hQ:∀ c a w,Q (.panic c) (a.put oi.dst v) w→Q (.panic c) a w) (hS:S w) (hy:YieldsIf P ops S oi v a)
  (h:wpAnyH P md ops Q S fuel (listed.setIfInBounds i true) (a.put oi.dst v) w):wpAnyH P md ops Q S (fuel+1) listed a w:=
 wpAnyH_take (by simpa using hi) hs hf hr hQ hy hS h
theorem rwT{ops:Array Oper}{Q:Exit→Act→World→Prop}{md:Region.Mode}{S:World→Prop}{fuel:Nat}{listed:Array Bool}{a:Act}{w:World}(i:Nat){oi:Oper}(v:Value)(hS:S w)
  (h:wpAnyH P md ops Q S fuel (listed.setIfInBounds i true) (a.put oi.dst v) w) (hi:ops.toList[i]?=some oi:=by rfl) (hs:Region.noSelect ops=true:=by kernel_rfl) (hf:Region.free md ops listed i=true:=by kernel_rfl) (hr:(Region.ready md ops listed).contains i=true:=by kernel_rfl)
  (hQ:∀ c a w,Q (.panic c) (a.put oi.dst v) w→Q (.panic c) a w:=by first | exact fun _ _ _ h=>h | exact fun _ _ _ h=>adu _ _ _ _ h)
  (hy:YieldsIf P ops S oi v a:=by exact Or.inl ⟨by rfl,fun w' hSw=>by (try dsimp only at hSw);(try subst hSw);go_simp⟩):wpAnyH P md ops Q S (fuel+1) listed a w:=
 rM i v hi hs hf hr hQ hS hy h
theorem rwY{ops:Array Oper}{Q:Exit→Act→World→Prop}{md:Region.Mode}{S:World→Prop}{fuel:Nat}{listed:Array Bool}{a:Act}{w:World}(i:Nat){oi:Oper}(v:Value)(hS:S w)
  (h:wpAnyH P md ops Q S fuel (listed.setIfInBounds i true) (a.put oi.dst v) w) (hi:ops.toList[i]?=some oi:=by rfl) (hs:Region.noSelect ops=true:=by kernel_rfl) (hf:Region.free md ops listed i=true:=by kernel_rfl) (hr:(Region.ready md ops listed).contains i=true:=by kernel_rfl)
  (hQ:∀ c a w,Q (.panic c) (a.put oi.dst v) w→Q (.panic c) a w:=by first | exact fun _ _ _ h=>h | exact fun _ _ _ h=>adu _ _ _ _ h) (hy:YieldsIf P ops S oi v a):wpAnyH P md ops Q S (fuel+1) listed a w:=
 rM i v hi hs hf hr hQ hS hy h
theorem rwU{ops:Array Oper}{Q:Exit→Act→World→Prop}{md:Region.Mode}{S:World→Prop}{fuel:Nat}{listed:Array Bool}{a:Act}{w:World}(i:Nat){oi:Oper}(hS:S w)
  (h:wpAnyH P md ops Q S fuel (listed.setIfInBounds i true) (a.put oi.dst undef) w) (hi:ops.toList[i]?=some oi:=by rfl) (hs:Region.noSelect ops=true:=by kernel_rfl) (hf:Region.free md ops listed i=true:=by kernel_rfl) (hr:(Region.ready md ops listed).contains i=true:=by kernel_rfl)
  (hQ:∀ c a w,Q (.panic c) (a.put oi.dst undef) w→Q (.panic c) a w:=by first | exact fun _ _ _ h=>h | exact fun _ _ _ h=>adu _ _ _ _ h)
  (hy:YieldsIf P ops S oi undef a:=by exact Or.inr ⟨by rfl,rfl⟩):wpAnyH P md ops Q S (fuel+1) listed a w:=
 rM i undef hi hs hf hr hQ hS hy h
theorem rwA:(∀ (a:Act) (d:Nat) (v:Value),a.put (some d) v=⟨a.tmps.setIfInBounds d v,a.defers⟩)∧(∀ (l:List Value) (i:Nat) (v:Value),l.toArray.setIfInBounds i v=(l.set i v).toArray)∧(∀ (x:Value) (l:List Value) (v:Value),(x :: l).set 0 v=v :: l)∧(∀ (x:Value) (l:List Value) (n:Nat) (v:Value),(x :: l).set (n+1) v=x :: l.set n v):=
 ⟨fun _ _ _=>rfl,fun _ _ _=>by simp,fun _ _ _=>rfl,fun _ _ _ _=>rfl⟩
theorem ah{ops:Array Oper}{Q:Exit→Act→World→Prop}{md:Region.Mode}{S:World→Prop}{fuel:Nat}{listed:Array Bool}{a:Act}{w:World}(i:Nat){oi:Oper}(hi:ops.toList[i]?=some oi)
  (hr:Region.ready md ops listed = [i])
  (h:∀ K':Act→World→Prop,Shut (∀ a w,S w→(S w→wpAnyH P md ops Q S fuel (listed.setIfInBounds i true) a w)→K' a w)→if Region.wanted oi (yielded ops a.tmps)=true then Oper.wp P oi a w K' Q else K' (a.put oi.dst undef) w):
  wpAnyH P md ops Q S (fuel+1) listed a w:=
 wpAnyH_ready hr (by simp) (AllReadyH.cons (by simpa using hi) h AllReadyH.nil)
theorem tC{ops:Array Oper}{Q:Exit→Act→World→Prop}{md:Region.Mode}{S:World→Prop}{fuel:Nat}{listed:Array Bool}{a:Act}{w:World}(i j:Nat){oi oj:Oper}(hi:ops.toList[i]?=some oi)(hj:ops.toList[j]?=some oj)
  (hr:Region.ready md ops listed = [i,j])
  (h:∀ K':Act→World→Prop,Shut (∀ a w,S w→(S w→wpAnyH P md ops Q S fuel (listed.setIfInBounds i true) a w)→K' a w)→if Region.wanted oi (yielded ops a.tmps)=true then Oper.wp P oi a w K' Q else K' (a.put oi.dst undef) w)
  (h':∀ K':Act→World→Prop,Shut (∀ a w,S w→(S w→wpAnyH P md ops Q S fuel (listed.setIfInBounds j true) a w)→K' a w)→if Region.wanted oj (yielded ops a.tmps)=true then Oper.wp P oj a w K' Q else K' (a.put oj.dst undef) w):
  wpAnyH P md ops Q S (fuel+1) listed a w:=
 wpAnyH_ready hr (by simp) (AllReadyH.cons (by simpa using hi) h (AllReadyH.cons (by simpa using hj) h' AllReadyH.nil))
end
end Go.Proofs.YtmelaiefbpdifaaGreatDoor
/- Write. -/
namespace Go.Proofs.YtmelaiefbpdifaaGreatDoor
open Go.RowKit
theorem kM(l:List UInt8):Lib.byteCells l=ak l:=rfl
theorem Ae{P:Program}{w:World}{ops:Array Oper}{rest:List Oper}{o:Oper}{a:Act}{Q:Exit→Act→World→Prop}(hgd:o.guard=none)(d s:Operand)(dT sT:TypeId)
  (ho:o.op = .call { callee:=.builtin .copy,args:=#[d,s],argTypes:=#[dT,sT] }) (elem:TypeId) (hu:P.underlying dT=some (.slice elem)) (hsz:(P.info? elem).map (·.size)=some 1)
  (g off n dCap:Nat) (b:List UInt8) (hd:a.eval d = .slice (some ⟨g,off,none⟩) n dCap) (hs:a.eval s = .string (strOf b))
  (cur:List Value) (t:TypeId) (hg:Blk w g t cur.toArray) (hn:b.length=n) (hfit:off+n≤cur.length) (res:List Value) (hr:res=cur.take off++(ak b++cur.drop (off+n)))
  (h:∀ w',Blk w' g t res.toArray→Only [g] w w'→wpList P ops Q rest (a.put o.dst (goInt n)) w'):wpList P ops Q (o :: rest) a w:=by
 subst hn
 subst hr
 refine wpList_plain hgd fun K hK=> ?_
 have hrun:=Lib.run_copy_row_string (P:=P) w dT sT o.type elem g off b.length dCap (strOf b) cur.toArray t hu hsz hg (by rw [aj];exact Nat.le_refl _) (by rw [aj];simpa using hfit)
 unfold Oper.wp
 simp [execOp,ho,resolve,invoke,builtin,hd,hs,hrun,Result.andThen]
 rw [aj]
 refine hK _ _ (h _ ?_ ((Only.refl [g] w).setRow (.inl (by simp)) _))
 unfold Blk
 rw [setRow_heap w g cur.toArray _ t _ hg]
 simp [dh,kM]
theorem KD:∃ (z:Value) (zs:List Value),(Tryz.prog.info? 107).map (fun i=>(i.zero,i.size,i.bytes))=some (some (.agg (z :: zs).toArray),257,264)∧zs.length=256∧∀ v∈zs,v.oneCell'=true:=by
 have h:∃ Z:Array Value,(Tryz.prog.info? 107).map (fun i=>(i.zero,i.size,i.bytes))=some (some (.agg Z),257,264)∧Z.size=257∧Z.all (·.oneCell')=true:=
  ⟨(((Tryz.prog.info? 107).bind (·.zero)).getD (.int .i64 0)).cells,by kernel_rfl,by kernel_rfl,by kernel_rfl⟩
 obtain⟨⟨l⟩,h1,h2,h3⟩:=h
 match l,h1,h2,h3 with
 | [],_,h2,_=>simp at h2
 | z :: zs,h1,h2,h3=>
  refine⟨z,zs,h1,by simpa using h2,fun v hv=> ?_⟩
  have:=Array.all_eq_true_iff_forall_mem.1 h3 v (by simp [hv])
  exact this
theorem Dq(l:List (Nat × List UInt8))(k:Nat)(b:List UInt8):(jy (l++[(k,b)])).flatten=(jy l).flatten++(.int .i64 (k:Int) :: ak b):=by simp [jy]
theorem Dt(n:Nat)(l:List (Nat × List UInt8))(k:Nat)(b:List UInt8)(x:Int)(hx:x=l.length+1):(eX n l).set k (.int .i64 x)=eX n (l++[(k,b)]):=by
 subst hx
 apply List.ext_getElem?
 intro j
 rw [List.getElem?_set]
 simp only [eX,List.getElem?_map,List.length_map,List.length_range,BG]
 by_cases hj:j<n
 ·rw [List.getElem?_eq_getElem (by simpa using hj)]
  simp only [List.getElem_range,Option.map_some]
  by_cases e:k=j
  ·subst e
   simp [hj]
  ·simp [e]
 ·rw [List.getElem?_eq_none (by simpa using hj)]
  split
  ·rw [if_neg (by omega)]
   rfl
  ·rfl
theorem X4{w1 w2 wa w5:World}{p gs gl:Nat}{v:Value}{F:List Nat}{s:St}{n g:Nat}{fuse:Int}{dead:Bool}
  (hb:Blk w2 p 84 #[.slice (some ⟨gs,0,none⟩) n n,v,.slice (some ⟨gl,0,none⟩) n n,.int .i64 fuse,.bool dead]) (hf:Blk w2 gs 105 (bU s.aA).flatten.toArray) (hl:Blk w2 gl 3 (eX n s.late).toArray)
  (n1:p≠gs) (n2:p≠gl) (n3:gs≠gl) (n4:v.ownBlock≠some p) (n5:v.ownBlock≠some gs) (n6:v.ownBlock≠some gl)
  (hF:p∈F∧gs∈F∧gl∈F∧∀ k,v.ownBlock=some k→k∈F)
  (k12:Only F w1 w2) (k2a:Only [] w2 wa)
  (hg:wa.grownBy w5 v.ownBlock) (hat:v.ownBlock=some g∨g=wa.heap.size):
  ∃ F':List Nat,(∀ i∈F',i∈F∨w1.heap.size≤i)∧p∈F'∧gs∈F'∧gl∈F'∧g∈F'∧(g≠p∧g≠gs∧g≠gl)∧Only F w1 w5 ∧
   Blk w5 p 84 #[.slice (some ⟨gs,0,none⟩) n n,v,.slice (some ⟨gl,0,none⟩) n n,.int .i64 fuse,.bool dead]∧Blk w5 gs 105 (bU s.aA).flatten.toArray∧Blk w5 gl 3 (eX n s.late).toArray:=by
 have l1:=hb.lt
 have l2:=hf.lt
 have l3:=hl.lt
 have hs:=k2a.size
 have far:∀ j,v.ownBlock≠some j→j<w2.heap.size→w5.heap[j]?=w2.heap[j]?:=fun j hj hl=>(hg.block j (by omega) (fun e=>hj e.symm)).trans (k2a.block j hl (by simp))
 have k25:Only v.ownBlock.toList w2 w5:=by
  refine ((k2a.more (T:=v.ownBlock.toList) (by simp)).grown hg ?_)
  intro j hj
  exact .inl (by simp [hj])
 have hgf:g∈F∨w1.heap.size≤g:=by
  rcases hat with h | h
  ·exact .inl (hF.2.2.2 g h)
  ·exact .inr (by have:=k12.size;omega)
 refine⟨[p,gs,gl,g],?_,by simp,by simp,by simp,by simp,?_,?_,(far p n4 l1).trans hb,(far gs n5 l2).trans hf,(far gl n6 l3).trans hl⟩
 ·intro i hi
  simp at hi
  rcases hi with rfl | rfl | rfl | rfl
  ·exact .inl hF.1
  ·exact .inl hF.2.1
  ·exact .inl hF.2.2.1
  ·exact hgf
 ·rcases hat with h | h
  ·refine⟨?_,?_,?_⟩<;>rintro rfl
   ·exact n4 h
   ·exact n5 h
   ·exact n6 h
  ·refine⟨?_,?_,?_⟩<;>omega
 ·exact k12.then k25 (fun i hi=>.inl (hF.2.2.2 i (by simpa using hi)))
set_option maxRecDepth 100000 in
set_option maxHeartbeats 1000000 in
theorem write_any(w:World)(p:Nat)(F:List Nat)(s:St)(k:Int)(b:List UInt8)(hk0 : -9223372036854775808≤k)(hk1:k≤9223372036854775807)(hlen:s.late.length<1048576)(hd:Dev w p F s):
  Calls Tryz.prog 131 #[.pointer (some ⟨p,0,none⟩),.int .i64 k,.string (strOf b)] w fun e w'=>e = .returned (.int .i64 (aI s k b))∧Did w w' p F (written s k b):=by
 have hsz:(strOf b).size=b.length:=aj b
 obtain⟨bs,hbs⟩:∃ bs,bs=strOf b:=⟨_,rfl⟩
 cases hh:bF s.aA.length k with
 | false=>
  have h0:Did w w p F (written s k b):=⟨F,by simpa [written,hh] using hd,Only.refl F w,fun k hk=>.inl hk⟩
  have h0:=Lib.hid h0
  rw [←hbs] at hsz ⊢
  go_enter Tryz.func131,Tryz.ntmps131
  go_wp2_with fail
  refine (rO w p F s k hd).mono ?_
  rintro e w1 ⟨rfl,rfl⟩
  rw [hh]
  go_wp2
  go_ret
  exact⟨by simp [aI,hh],h0.out⟩
 | true=>
  by_cases hb:b.length=256
  ·rw [hb] at hsz
   have hk:0≤k∧k<(s.aA.length:Int):=by simpa [bF] using hh
   obtain⟨k,rfl⟩:=Int.eq_ofNat_of_zero_le hk.1
   have hkl:k<s.aA.length:=by omega
   cases qJ:dZ s with
   | false=>
    have h0:written s (k:Int) b=dD s:=by simp [written,hh,hb,qJ]
    have h1:aI s (k:Int) b=5:=by simp [aI,hh,hb,qJ]
    rw [h0,h1,←hbs]
    rw [←hbs] at hsz
    replace hbs:=Lib.hid hbs
    go_enter Tryz.func131,Tryz.ntmps131
    go_wp2_with fail
    refine (rO w p F s k hd).mono ?_
    rintro e w1 ⟨rfl,rfl⟩
    rw [hh]
    go_wp2_with fail
    refine (Ap w1 p F s hd).mono ?_
    rintro e w2 ⟨rfl,h2⟩
    rw [qJ]
    have h3:Did w1 w2 p F (dD s):=⟨F,h2.1,h2.2,fun k hk=>.inl hk⟩
    have h3:=Lib.hid h3
    clear h2
    go_wp2
    go_ret
    exact⟨rfl,h3.out⟩
   | true=>
    have h0:written s (k:Int) b = { dD s with late:=s.late++[(k,b)] }:=by simp [written,hh,hb,qJ]
    have h1:aI s (k:Int) b=0:=by simp [aI,hh,hb,qJ]
    obtain⟨z,zs,hz8,hzs,hz1⟩:=KD
    obtain⟨ti,ht1,ht2,ht3,ht4⟩:=info_parts hz8
    have hz9:(Tryz.prog.info? 107).map (fun i=>(i.zero,i.size))=some (some (.agg (z :: zs).toArray),257):=by simp [ht1,ht2,ht3]
    obtain⟨hz0,hz2⟩:=zero_of_info hz9
    replace ht1:=Lib.hid ht1
    replace ht2:=Lib.hid ht2
    replace ht3:=Lib.hid ht3
    replace ht4:=Lib.hid ht4
    rw [h0,h1,←hbs]
    rw [←hbs] at hsz
    replace hbs:=Lib.hid hbs
    clear h0 h1
    go_enter Tryz.func131,Tryz.ntmps131
    go_wp2_with fail
    refine (rO w p F s k hd).mono ?_
    rintro e w1 ⟨rfl,rfl⟩
    rw [hh]
    go_wp2_with fail
    refine (Ap w1 p F s hd).mono ?_
    rintro e w2 ⟨rfl,h2⟩
    rw [qJ]
    go_wp2_with (first
     | (refine aS rfl 107 (.tmp 7) (.tmp 23) rfl w2.heap.size (z :: zs).toArray ((.int .i64 (k:Int)) :: zs).toArray rfl rfl (Blk.new w2 _ _) (by simpa [hzs] using hz2) (by simp) (all_oneCell_toArray (by
       intro v hv
       rcases List.mem_cons.1 hv with rfl | hv
       ·rfl
       ·exact hz1 v hv)) ?_;intro w3 hw3 k3)
     | (refine Ae rfl (.tmp 25) (.tmp 26) 103 9 rfl 5 Tryz.underlying103 (by kernel_rfl) w2.heap.size 1 256 256 b rfl (by rw [←hbs.out];rfl) ((.int .i64 (k:Int)) :: zs) 107 hw3 hb (by simp [hzs]) (.int .i64 (k:Int) :: ak b) (by simp [hzs]) ?_;intro w4 hw4 k4))
    obtain⟨q,hq⟩:∃ q,q=w2.heap.size:=⟨_,rfl⟩
    have k24:Only [] w2 w4:=(((Only.refl [] w2).alloc _).then k3 (by simp)).then k4 (by simp)
    rw [←hq] at hw4 ⊢
    have hql:q<w4.heap.size:=hw4.lt
    obtain⟨gs,gl,v,hb2,hf2,hl2,hown2,⟨n1,n2,n3,n4,n5,n6⟩,hF,fine⟩:=h2.1
    have hqp:q≠p:=by have:=hb2.lt;omega
    have hvq:v.ownBlock≠some q:=fun e=>by have:=(hown2.lt q e).2;omega
    have k12:=h2.2
    clear hw3 k3 k4 h2
    rw [dK,iC] at *
    have hcl:(Value.int .i64 (k:Int) :: ak b).length=257:=by rw [List.length_cons,aO,hb]
    have hone:∀ v∈(Value.int .i64 (k:Int) :: ak b),v.oneCell'=true:=fun v hv=>by
     rcases List.mem_cons.1 hv with rfl | hv
     ·rfl
     ·exact lI _ v hv
    obtain⟨cs,hcs⟩:∃ cs,cs=Value.int .i64 (k:Int) :: ak b:=⟨_,rfl⟩
    rw [←hcs] at hw4 hcl hone
    replace hcs:=Lib.hid hcs
    replace hq:=Lib.hid hq
    have k2d:=k24.drew
    have hwd:=hw4.kept ((Only.refl [] w4).drew) (by simp)
    refine wp_region_held_drew (S:=fun w'=>w'.rangeAt q 0 cs) (by kernel_rfl) (fun j u hu=>by
     rw [Nat.zero_add,hwd.cell j]
     simpa using hu) (fun hHeld=> ?_)
    generalize w4.drew=wd at *
    have d1:=(hb2.kept k2d (by simp)).cell 1
    have g1:=(hb2.kept k2d (by simp)).free 1
    simp only [List.getElem?_toArray,List.getElem?_cons_zero,List.getElem?_cons_succ] at d1
    have k2a:=k2d.alloc (.cells cs.toArray 107)
    have d1a:=(hb2.kept k2a (by simp)).cell 1
    simp only [List.getElem?_toArray,List.getElem?_cons_zero,List.getElem?_cons_succ] at d1a
    have zJ:=ay hown2 k2a (by simp)
    have hHa:=World.rangeAt_alloc hHeld (.cells cs.toArray 107)
    have news:=World.news_of_block (Blk.new wd 107 cs.toArray)
    obtain⟨wa,hwa⟩:∃ wa,wa=wd.alloc (.cells cs.toArray 107):=⟨_,rfl⟩
    rw [←hwa] at k2a d1a zJ hHa news
    replace hwa:=Lib.hid hwa
    refine rwY 0 (.pointer (some ⟨p,0,none⟩)) hHeld ?_ (hy:=Or.inl ⟨by rfl,fun w' _=>by go_simp⟩);simp only [rwA]
    refine rwY 1 (.pointer (some ⟨p,0,none⟩)) hHeld ?_ (hy:=Or.inl ⟨by rfl,fun w' _=>by go_simp⟩);simp only [rwA]
    refine rwY 2 (.pointer (some ⟨p,0,none⟩)) hHeld ?_ (hy:=Or.inl ⟨by rfl,fun w' _=>by go_simp⟩);simp only [rwA]
    refine rwY 3 (.pointer (some ⟨p,1,none⟩)) hHeld ?_ (hy:=Or.inl ⟨by rfl,fun w' _=>by go_simp⟩);simp only [rwA]
    refine rwY 5 (.agg cs.toArray) hHeld ?_ (hy:=yieldsIf_load_mid (by rfl) 107 (.tmp 7) rfl q 0 rfl cs _ (fun w' h=>h) Tryz.underlying107 rfl (by rw [hcl];exact hz2));simp only [rwA]
    refine tC 4 6 rfl rfl (by kernel_rfl) (fun K hK=> ?_) (fun K hK=> ?_)
    rotate_left
    refine jX rfl 82 (.tmp 33) rfl 107 cs _ Tryz.underlying82 (by rw [hcl];exact hz9) (by omega) (by omega) rfl ?_
    rw [←hwa.out]
    refine hK.out _ _ hHa (fun hHeld=> ?_)
    clear hK K
    simp only [rwA]
    refine ah 4 rfl (by kernel_rfl) (fun K hK=> ?_)
    go_simp
    refine hK.out _ _ hHa (fun hHeld=> ?_)
    clear hK K
    rotate_left
    go_simp
    refine hK.out _ _ hHeld (fun hHeld=> ?_)
    clear hK K
    refine ah 6 rfl (by kernel_rfl) (fun K hK=> ?_)
    refine jX rfl 82 (.tmp 33) rfl 107 cs _ Tryz.underlying82 (by rw [hcl];exact hz9) (by omega) (by omega) rfl ?_
    rw [←hwa.out]
    refine hK.out _ _ hHa (fun hHeld=> ?_)
    clear hK K
    simp only [rwA]
    all_goals
     refine ah 7 rfl (by kernel_rfl) (fun K hK=> ?_)
     refine step_append_lies _ rfl (.tmp 32) (.tmp 34) 82 rfl 0 107 ti (.agg (z :: zs).toArray) 257 264 Tryz.underlying82 ht1.out ht2.out ht3.out ht4.out (by simp [hzs,Value.cells]) (by decide) v s.late.length _ rfl zJ ⟨wd.heap.size,0,none⟩ 1 1 cs rfl (by omega) (by simpa using news) hone (by decide) (by unfold maxLen;omega) (by omega) (Nat.zero_le _) _ rfl ?_
     intro g c' w5 hown5 hgrow hat hlt
     obtain⟨F',hF',f1,f2,f3,f4,⟨m1,m2,m3⟩,k15,b5,f5,l5⟩:=X4 hb2 hf2 hl2 n1 n2 n3 n4 n5 n6 hF k12 k2a hgrow hat
     have e1:=b5.cell 1
     have e2:=b5.free 1
     simp only [List.getElem?_toArray,List.getElem?_cons_zero,List.getElem?_cons_succ] at e1
     have hqa:q<wa.heap.size:=by rw [hwa.out];have:=hwd.lt;simp;omega
     have hH5:w5.rangeAt q 0 cs:=fun j u hu=>(hgrow.cell_far ⟨q,0+j,none⟩ hqa (fun e=>hvq e.symm)).trans (hHeld j u hu)
     refine hK.out _ _ hH5 (fun hHeld=> ?_)
     clear hK K
     simp only [rwA]
     refine rwY 8 (.pointer (some ⟨p,0,none⟩)) hHeld ?_ (hy:=Or.inl ⟨by rfl,fun w' _=>by go_simp⟩);simp only [rwA]
     refine rwY 9 (.pointer (some ⟨p,1,none⟩)) hHeld ?_ (hy:=Or.inl ⟨by rfl,fun w' _=>by go_simp⟩);simp only [rwA]
     refine ah 10 rfl (by kernel_rfl) (fun K hK=> ?_)
     have k56:Only [p] w5 (w5.setCell ⟨p,1,none⟩ (.slice (some ⟨g,0,none⟩) (s.late.length+1) c')):=Only.set w5 [p] (by simp) _
     have b6:=b5.set 1 (.slice (some ⟨g,0,none⟩) (s.late.length+1) c')
     have f6:=f5.kept k56 (by simp;exact fun e=>n1 e.symm)
     have l6:=l5.kept k56 (by simp;exact fun e=>n2 e.symm)
     have hH6:(w5.setCell ⟨p,1,none⟩ (.slice (some ⟨g,0,none⟩) (s.late.length+1) c')).rangeAt q 0 cs:=fun j u hu=>k56.cell (hH5 j u hu) (by simpa using hqp)
     have ZT:=ay hown5 k56 (by simp [Value.ownBlock];exact m1)
     have k16:=(k15.more (T:=F) (fun i hi=>.inl hi)).then k56 (by simp;exact .inl hF.1)
     simp only [List.setIfInBounds_toArray,List.set_cons_zero,List.set_cons_succ] at b6
     go_simp
     refine hK.out _ _ hH6 (fun hHeld=> ?_)
     clear hK K
     refine wpAnyH_done (by kernel_rfl) ?_ _
     generalize w5.setCell ⟨p,1,none⟩ (.slice (some ⟨g,0,none⟩) (s.late.length+1) c')=w6 at *
     clear hHeld hH5 hH6 k56 b5 f5 l5 hown5 hgrow e1 e2 hb2 hf2 hl2 k2a k12 hat zJ news hHa
     have d1:=b6.cell 1
     have d2:=b6.cell 2
     simp only [List.getElem?_toArray,List.getElem?_cons_zero,List.getElem?_cons_succ] at d1 d2
     go_wp2
     go_still_tail 11,(by kernel_rfl)
     change wpList _ _ _ _ _ w6.drew
     have kd:Only [] w6 w6.drew:=(Only.refl [] w6).drew
     have b7:=b6.kept kd (by simp)
     have f7:=f6.kept kd (by simp)
     have l7:=l6.kept kd (by simp)
     have ac5:=ay ZT kd (by simp)
     have k17:=k16.drew
     generalize w6.drew=w7 at *
     have e3:w7.cell? ⟨gl,k,none⟩=some (.int .i64 (lastOf s.late k:Int)):=Jp l7 hkl
     have e4:=l7.free k
     have k78:Only [gl] w7 (w7.setCell ⟨gl,k,none⟩ (.int .i64 ((s.late.length:Int)+1))):=Only.set w7 [gl] (by simp) _
     have l8:=l7.set k (.int .i64 ((s.late.length:Int)+1))
     simp only [List.setIfInBounds_toArray,Dt s.aA.length s.late k b _ rfl] at l8
     have hfin:Did w1 (w7.setCell ⟨gl,k,none⟩ (.int .i64 ((s.late.length:Int)+1))) p F ⟨s.aA,s.late++[(k,b)],(dD s).fuse,(dD s).dead⟩:=by
      refine⟨F',⟨gs,gl,.slice (some ⟨g,0,none⟩) (s.late.length+1) c',b7.kept k78 (by simpa using n2),f7.kept k78 (by simpa using n3),l8,?_,⟨n1,n2,n3,by simpa [Value.ownBlock] using m1,by simpa [Value.ownBlock] using m2,by simpa [Value.ownBlock] using m3⟩,⟨f1,f2,f3,by simpa [Value.ownBlock] using f4⟩,?_⟩,?_,hF'⟩
      ·have:=ay ac5 k78 (by simpa [Value.ownBlock] using m3)
       rw [hcs.out] at this
       rw [Dq]
       simpa using this
      ·have:=hd.fine.written (k:Int) b
       simpa [written,hh,hb,qJ,dK] using this
      ·exact k17.then k78 (by simp;exact .inl hF.2.2.1)
     replace hfin:=Lib.hid hfin
     clear b7 f7 l7 ac5 k17 l8 k78 kd b6 f6 l6 ZT k16
     go_wp2
     go_ret
     exact⟨rfl,by rw [dK];exact hfin.out⟩
  ·have h0:Did w w p F (written s k b):=⟨F,by simpa [written,hh,hb] using hd,Only.refl F w,fun k hk=>.inl hk⟩
   have h0:=Lib.hid h0
   have hne:¬((b.length:Int)=256):=by omega
   rw [←hbs] at hsz ⊢
   have herr:aI s k b=1:=by simp [aI,hh,hb]
   rw [herr]
   clear herr hb hbs
   generalize b.length=bn at *
   go_enter Tryz.func131,Tryz.ntmps131
   go_wp2_with fail
   refine (rO w p F s k hd).mono ?_
   rintro e w1 ⟨rfl,rfl⟩
   rw [hh]
   go_wp2
   go_ret
   exact⟨rfl,h0.out⟩
end Go.Proofs.YtmelaiefbpdifaaGreatDoor
/- New. -/
namespace Go.Proofs.YtmelaiefbpdifaaGreatDoor
open Go.RowKit
def clamp(k:Int):Nat:=(min (max k 1) 1024).toNat
theorem vV{P:Program}{ops:Array Oper}{o:Oper}{a:Act}{w:World}{K:Act→World→Prop}{Q:Exit→Act→World→Prop}{E:Prop}(hgd:o.guard=none)(t:TypeId)(l c:Operand)(ho:o.op = .makeSlice t l c)
  (e:TypeId) (z:Value) (size bytes:Nat) (hu:P.underlying t=some (.slice e)) (hinfo:(P.info? e).map (fun i=>(i.zero,i.size,i.bytes))=some (some z,size,bytes))
  (kl kc:IntKind) (L C:Int) (n:Nat) (hl:a.eval l = .int kl L) (hc:a.eval c = .int kc C) (hL:L=(n:Int)) (hC:C=(n:Int)) (hfew:bytes*n≤281474976710656) (h63:n≤9223372036854775807)
  (cs:List Value) (hcs:(madeCells z.cells (n*size)).toList=cs) (h:K (a.put o.dst (.slice (some ⟨w.heap.size,0,none⟩) n n)) (w.alloc (.cells cs.toArray e))):
  if Region.wanted o (yielded ops a.tmps)=true then Oper.wp P o a w K Q else E:=by
 have hw:Region.wanted o (yielded ops a.tmps)=true:=by simp [Region.wanted,hgd]
 rw [if_pos hw]
 obtain⟨i,hi,hz0,hz1,hz2⟩:=info_parts hinfo
 subst hL
 subst hC
 subst hcs
 have hb':(i.bytes:Int)*(n:Int)≤281474976710656:=by
  have h:((i.bytes*n:Nat):Int)≤281474976710656:=by rw [hz2];omega
  rwa [Int.natCast_mul] at h
 have hr:=run_make (P:=P) w t e i z hu hi hz0 kl kc n n (by omega) (Int.le_refl _) hb' (by omega)
 simp only [Int.toNat_natCast,hz1] at hr
 unfold Oper.wp
 simp [execOp,ho,hl,hc,hr,Result.andThen]
 rw [Array.toArray_toList] at h
 exact h
theorem jV(z:Array Value)(u:Value)(m:Nat)(hz:∀ j (h:j<z.size),z[j]=u)(hs:0<z.size):(madeCells z m).toList=List.replicate m u:=by
 apply List.ext_getElem
 ·simp [size_madeCells]
 ·intro j h1 h2
  have hj:j % z.size<z.size:=Nat.mod_lt _ hs
  simp [madeCells,hj,hz]
theorem one_cell:∀ j (h:j<(Value.int .i64 0).cells.size),(Value.int .i64 0).cells[j] = .int .i64 0:=by
 intro j h
 have:j=0:=by simp [Value.cells] at h;exact h
 subst this
 rfl
theorem OD:∃ Z:Array Value,(Tryz.prog.info? 105).map (fun i=>(i.zero,i.size,i.bytes))=some (some (.agg Z),256,256)∧Z.size=256∧∀ j (h:j<Z.size),Z[j] = .int .u8 0:=by
 have h:(Tryz.prog.info? 105).map (fun i=>(i.zero,i.size,i.bytes))=some (some (.agg (Array.replicate 256 (.int .u8 0))),256,256):=by kernel_rfl
 exact⟨_,h,Array.size_replicate,fun j h=>Array.getElem_replicate _⟩
theorem oI{α:Type}(u:α)(c:Nat):∀ n,(List.replicate n (List.replicate c u)).flatten=List.replicate (n*c) u
 | 0=>by simp
 | n+1=>by rw [List.replicate_succ,List.flatten_cons,oI u c n,List.replicate_append_replicate,Nat.succ_mul,Nat.add_comm]
theorem BX(n:Nat):(bU (fresh n).aA).flatten=List.replicate (n*256) (.int .u8 0):=by
 have e:bU (fresh n).aA=List.replicate n (List.replicate 256 (Value.int .u8 0)):=by
  simp only [bU,fresh,List.map_replicate]
  have h:∀ (n:Nat) (b:UInt8),ak (rep n b)=List.replicate n (kL b):=fun n b=>List.map_replicate
  rw [h]
  have h0:kL 0 = .int .u8 0:=rfl
  rw [h0]
 rw [e,oI]
theorem BU(n:Nat):eX n []=List.replicate n (.int .i64 0):=by
 unfold eX
 simp only [Ew]
 rw [List.map_const',List.length_range]
 rfl
theorem WA{w w1 w2:World}{n gs gl:Nat}(h0:1≤n)(h1:n≤1024)(k:Only [] w w1)(hw2:w2=w1.alloc (.cells #[.slice (some ⟨gs,0,none⟩) n n,.slice none 0 0,.slice (some ⟨gl,0,none⟩) n n,.int .i64 (-1),.bool false] 84))
  (hs:Blk w1 gs 105 (List.replicate (n*256) (.int .u8 0)).toArray) (hl:Blk w1 gl 3 (List.replicate n (.int .i64 0)).toArray) (hn:gs≠gl) (a1:w.heap.size≤gs) (a2:w.heap.size≤gl):
  ∃ F,Dev w2 w1.heap.size F (fresh n)∧Only [] w w2∧∀ i∈F,w.heap.size≤i:=by
 subst hw2
 have b1:=hs.lt
 have b2:=hl.lt
 have b3:=k.size
 refine⟨[w1.heap.size,gs,gl],⟨gs,gl,.slice none 0 0,?_,?_,?_,World.ownsRow_nil _ 0 _ 257,⟨by omega,by omega,hn,by simp [Value.ownBlock],by simp [Value.ownBlock],by simp [Value.ownBlock]⟩,⟨by simp,by simp,by simp,by simp [Value.ownBlock]⟩,EO n h0 h1⟩,k.alloc _,?_⟩
 ·rw [jk]
  exact Blk.new w1 _ _
 ·rw [BX]
  exact hs.alloc _
 ·rw [jk]
  show Blk _ gl _ (eX n []).toArray
  rw [BU]
  exact hl.alloc _
 ·intro i hi
  simp at hi
  omega
set_option maxRecDepth 100000 in
set_option maxHeartbeats 1000000 in
theorem new_any(w:World)(k:Int)(h0 : -9223372036854775808≤k)(h1:k≤9223372036854775807):
  Calls Tryz.prog 10 #[.int .i64 k] w fun e w'=>∃ p F,e = .returned (.pointer (some ⟨p,0,none⟩))∧Dev w' p F (fresh (clamp k))∧Only [] w w'∧∀ i∈F,w.heap.size≤i:=by
 obtain⟨Z,hz,hzs,hzz⟩:=OD
 obtain⟨n,hn⟩:∃ n,n=clamp k:=⟨_,rfl⟩
 have hcl:(k<1→n=1)∧(1024<k→n=1024)∧(1≤k→k≤1024→(n:Int)=k):=by
  rw [hn]
  unfold clamp
  refine⟨fun h=> ?_,fun h=> ?_,fun h h'=> ?_⟩<;>omega
 have hn1:1≤n:=by omega
 have hn2:n≤1024:=by omega
 rw [←hn]
 clear hn
 obtain⟨C1,hC1⟩:∃ C,C=List.replicate (n*256) (Value.int .u8 0):=⟨_,rfl⟩
 obtain⟨C2,hC2⟩:∃ C,C=List.replicate n (Value.int .i64 0):=⟨_,rfl⟩
 replace hC1:=Lib.hid hC1
 replace hC2:=Lib.hid hC2
 replace hcl:=Lib.hid hcl
 have hdone:=Lib.hid (fun w2 w3 gs gl a b c d e f g=>@WA w w2 w3 n gs gl hn1 hn2 a b c d e f g)
 go_enter Tryz.func10,Tryz.ntmps10
 go_wp2
 all_goals
  refine wp_region_held_drew (S:=fun _=>True) (by kernel_rfl) trivial (fun hHeld=> ?_)
  have kd:Only [] w w.drew:=(Only.refl [] w).drew
  generalize w.drew=wd at *
  refine rM 0 _ rfl (by kernel_rfl) (by kernel_rfl) (by kernel_rfl) (fun _ _ _ h=>h) hHeld (Or.inl ⟨by rfl,fun w' _=>rfl⟩) ?_
  simp only [rwA]
  refine rM 2 _ rfl (by kernel_rfl) (by kernel_rfl) (by kernel_rfl) (fun _ _ _ h=>h) hHeld (Or.inl ⟨by rfl,fun w' _=>rfl⟩) ?_
  simp only [rwA]
  refine tC 1 3 rfl rfl (by kernel_rfl) (fun K hK=> ?_) (fun K hK=> ?_)
  ·refine vV rfl 80 (.tmp 7) (.tmp 7) rfl 105 (.agg Z) 256 256 Tryz.underlying80 hz .i64 .i64 _ _ n rfl rfl (by have:=hcl.out;omega) (by have:=hcl.out;omega) (by omega) (by omega) C1 (by rw [hC1.out];exact jV Z _ _ hzz (by omega)) ?_
   refine hK.out _ _ trivial (fun hHeld=> ?_)
   clear hK K
   simp only [rwA]
   refine ah 3 rfl (by kernel_rfl) (fun K hK=> ?_)
   refine vV rfl 81 (.tmp 9) (.tmp 9) rfl 3 (.int .i64 0) 1 8 Tryz.underlying81 (by kernel_rfl) .i64 .i64 _ _ n rfl rfl (by have:=hcl.out;omega) (by have:=hcl.out;omega) (by omega) (by omega) C2 (by rw [hC2.out,Nat.mul_one];exact jV _ _ _ one_cell (by decide)) ?_
   refine hK.out _ _ trivial (fun hHeld=> ?_)
   clear hK K
   simp only [rwA]
   refine ah 4 rfl (by kernel_rfl) (fun K hK=> ?_)
   go_simp
   refine hK.out _ _ trivial (fun hHeld=> ?_)
   clear hK K
   refine ah 5 rfl (by kernel_rfl) (fun K hK=> ?_)
   go_simp
   refine hK.out _ _ trivial (fun hHeld=> ?_)
   clear hK K
   refine ah 6 rfl (by kernel_rfl) (fun K hK=> ?_)
   go_simp
   refine hK.out _ _ trivial (fun hHeld=> ?_)
   clear hK K
   refine wpAnyH_done (by kernel_rfl) ?_ _
   have k1:Only [] w ((wd.alloc (.cells C1.toArray 105)).alloc (.cells C2.toArray 3)):=(kd.alloc _).alloc _
   obtain⟨F,d1,d2,d3⟩:=hdone.out _ _ wd.heap.size (wd.heap.size+1) k1 rfl (by rw [←hC1.out];exact (Blk.new wd _ _).alloc _) (by rw [←hC2.out];have:=Blk.new (wd.alloc (.cells C1.toArray 105)) 3 C2.toArray;simpa using this) (by omega) kd.size (by have:=kd.size;omega)
   replace d1:=Lib.hid d1
   replace d2:=Lib.hid d2
   replace d3:=Lib.hid d3
   go_wp2
   go_ret
   exact⟨_,F,rfl,by simpa using d1.out,d2.out,d3.out⟩
  ·refine vV rfl 81 (.tmp 9) (.tmp 9) rfl 3 (.int .i64 0) 1 8 Tryz.underlying81 (by kernel_rfl) .i64 .i64 _ _ n rfl rfl (by have:=hcl.out;omega) (by have:=hcl.out;omega) (by omega) (by omega) C2 (by rw [hC2.out,Nat.mul_one];exact jV _ _ _ one_cell (by decide)) ?_
   refine hK.out _ _ trivial (fun hHeld=> ?_)
   clear hK K
   simp only [rwA]
   refine ah 1 rfl (by kernel_rfl) (fun K hK=> ?_)
   refine vV rfl 80 (.tmp 7) (.tmp 7) rfl 105 (.agg Z) 256 256 Tryz.underlying80 hz .i64 .i64 _ _ n rfl rfl (by have:=hcl.out;omega) (by have:=hcl.out;omega) (by omega) (by omega) C1 (by rw [hC1.out];exact jV Z _ _ hzz (by omega)) ?_
   refine hK.out _ _ trivial (fun hHeld=> ?_)
   clear hK K
   simp only [rwA]
   refine ah 4 rfl (by kernel_rfl) (fun K hK=> ?_)
   go_simp
   refine hK.out _ _ trivial (fun hHeld=> ?_)
   clear hK K
   refine ah 5 rfl (by kernel_rfl) (fun K hK=> ?_)
   go_simp
   refine hK.out _ _ trivial (fun hHeld=> ?_)
   clear hK K
   refine ah 6 rfl (by kernel_rfl) (fun K hK=> ?_)
   go_simp
   refine hK.out _ _ trivial (fun hHeld=> ?_)
   clear hK K
   refine wpAnyH_done (by kernel_rfl) ?_ _
   have k1:Only [] w ((wd.alloc (.cells C2.toArray 3)).alloc (.cells C1.toArray 105)):=(kd.alloc _).alloc _
   obtain⟨F,d1,d2,d3⟩:=hdone.out _ _ (wd.heap.size+1) wd.heap.size k1 rfl (by rw [←hC1.out];have:=Blk.new (wd.alloc (.cells C2.toArray 3)) 105 C1.toArray;simpa using this) (by rw [←hC2.out];exact (Blk.new wd _ _).alloc _) (by omega) (by have:=kd.size;omega) kd.size
   replace d1:=Lib.hid d1
   replace d2:=Lib.hid d2
   replace d3:=Lib.hid d3
   go_wp2
   go_ret
   exact⟨_,F,rfl,by simpa using d1.out,d2.out,d3.out⟩
end Go.Proofs.YtmelaiefbpdifaaGreatDoor
/- A device of the call's own: what is known of it since the start, beside other blocks of the call's own. -/
namespace Go.Proofs.YtmelaiefbpdifaaGreatDoor
open Go.RowKit
theorem Same.did{w w':World}{p:Nat}{F:List Nat}{s:St}(h:Same w w' p F s):Did w w' p F s:=⟨F,h.1,h.2,fun _ hk=>.inl hk⟩
theorem Did.from{w w0 w':World}{p:Nat}{F:List Nat}{s:St}(k:Only [] w w0)(h:Did w0 w' p F s):Did w w' p F s:=by
 obtain⟨F',h1,h2,h3⟩:=h
 exact⟨F',h1,(k.more (T:=F) (by simp)).then h2 (fun _ hi=>.inl hi),fun i hi=>(h3.out i hi).imp id (fun h=>Nat.le_trans k.size h)⟩
theorem Did.mono{w w':World}{p:Nat}{F G:List Nat}{s:St}(h:Did w w' p F s)(hG:∀ i∈F,i∈G):Did w w' p G s:=by
 obtain⟨F',h1,h2,h3⟩:=h
 exact⟨F',h1,h2.more (fun i hi=>.inl (hG i hi)),fun i hi=>(h3.out i hi).imp (hG i) id⟩
theorem Did.cell{w w':World}{p:Nat}{F:List Nat}{s:St}(h:Did w w' p F s){a:Addr}{v:Value}(hc:w.cell? a=some v)(ha:a.block∉F):w'.cell? a=some v:=by
 obtain⟨F',h1,h2,h3⟩:=h
 exact h2.cell hc ha
theorem Only.Ii{S:List Nat}{w w':World}(h:Only S w.drew w'):Only S w w':=⟨h.os,h.tape,h.output,h.size,h.block⟩
def Run(w w':World)(p:Nat)(s:St):Prop:=∃ F,Dev w' p F s∧Only [] w w'∧∀ i∈F,w.heap.size≤i
theorem Run.only{w w1 w2:World}{p:Nat}{s:St}(h:Run w w1 p s)(k:Only [] w1 w2):Run w w2 p s:=by
 obtain⟨F,h1,h2,h3⟩:=h
 exact⟨F,h1.kept k (by simp),h2.trans k,h3⟩
theorem Run.did{w w1 w2:World}{p:Nat}{F:List Nat}{s:St}(k:Only [] w w1)(hF:∀ i∈F,w.heap.size≤i)(h:Did w1 w2 p F s):Run w w2 p s:=by
 obtain⟨F',h1,h2,h3⟩:=h
 refine⟨F',h1,k.then h2 (fun i hi=>.inr (hF i hi)),fun i hi=> ?_⟩
 rcases h3.out i hi with h | h
 ·exact hF i h
 ·exact Nat.le_trans k.size h
theorem Run.fine{w w1:World}{p:Nat}{s:St}(h:Run w w1 p s):Fine s:=by
 obtain⟨F,h1,_⟩:=h
 exact h1.fine
theorem Run.cell{w w':World}{p:Nat}{s:St}(h:Run w w' p s){a:Addr}{v:Value}(hc:w.cell? a=some v):w'.cell? a=some v:=by
 obtain⟨F,_,k,_⟩:=h
 exact k.cell hc (by simp)
theorem Run.acts{w w':World}{p:Nat}{s:St}(h:Run w w' p s):Only [] w w':=by
 obtain⟨F,_,k,_⟩:=h
 exact k
section
variable {w w1:World}{p:Nat}{s:St}
theorem Run.write(h:Run w w1 p s)(k:Int)(b:List UInt8)(h0 : -9223372036854775808≤k)(h1:k≤9223372036854775807)(hlen:s.late.length<1048576):
  Calls Tryz.prog 131 #[.pointer (some ⟨p,0,none⟩),.int .i64 k,.string (strOf b)] w1 fun e w'=>e = .returned (.int .i64 (aI s k b))∧Run w w' p (written s k b):=by
 obtain⟨F,hd,k,hF⟩:=h
 exact (write_any w1 p F s _ b h0 h1 hlen hd).mono fun e w' h=>⟨h.1,Run.did k hF h.2⟩
theorem Run.barrier(h:Run w w1 p s):
  Calls Tryz.prog 132 #[.pointer (some ⟨p,0,none⟩)] w1 fun e w'=>e = .returned (.int .i64 (dW s))∧Run w w' p (bD s):=by
 obtain⟨F,hd,k,hF⟩:=h
 exact (vG w1 p F s hd).mono fun e w' h=>⟨h.1,Run.did k hF h.2.did⟩
theorem Run.fuse(h:Run w w1 p s)(n:Int)(h0 : -9223372036854775808≤n)(h1:n≤9223372036854775807):
  Calls Tryz.prog 22 #[.pointer (some ⟨p,0,none⟩),.int .i64 n] w1 fun e w'=>e = .returned (.tuple #[])∧Run w w' p (lit s n):=by
 obtain⟨F,hd,k,hF⟩:=h
 exact (Oe w1 p F s n h0 h1 hd).mono fun e w' h=>⟨h.1,Run.did k hF h.2.did⟩
theorem Run.crash(h:Run w w1 p s)(keep:Nat)(hk:keep<18446744073709551616):
  Calls Tryz.prog 20 #[.pointer (some ⟨p,0,none⟩),.int .u64 (keep:Int)] w1 fun e w'=>e = .returned (.tuple #[])∧Run w w' p (crashed s keep):=by
 obtain⟨F,hd,k,hF⟩:=h
 exact (CB w1 p F s keep hk hd).mono fun e w' h=>⟨h.1,Run.did k hF h.2.did⟩
theorem Run.read(h:Run w w1 p s)(k:Int):
  Calls Tryz.prog 14 #[.pointer (some ⟨p,0,none⟩),.int .i64 k] w1 fun e w'=>e = .returned (.tuple #[.string (strOf (readB s k)),.int .i64 (iQ s k)])∧w'=w1:=by
 obtain⟨F,hd,_,_⟩:=h
 exact wC w1 p F s k hd
theorem Run.blocks(h:Run w w1 p s):
  Calls Tryz.prog 71 #[.pointer (some ⟨p,0,none⟩)] w1 fun e w'=>e = .returned (.int .i64 (s.aA.length:Int))∧w'=w1:=by
 obtain⟨F,hd,_,_⟩:=h
 exact o7 w1 p F s hd
end
theorem Run.new(w w1:World)(k:Int)(h0 : -9223372036854775808≤k)(h1:k≤9223372036854775807)(k1:Only [] w w1):
  Calls Tryz.prog 10 #[.int .i64 k] w1 fun e w'=>∃ p,e = .returned (.pointer (some ⟨p,0,none⟩))∧Run w w' p (fresh (clamp k)):=by
 refine (new_any w1 k h0 h1).mono ?_
 rintro e w' ⟨p,F,he,hd,hk,hF⟩
 exact⟨p,he,F,hd,k1.trans hk,fun i hi=>Nat.le_trans k1.size (hF i hi)⟩
def xE(w w':World)(Q:List Nat)(p:Nat)(s:St):Prop:=
 ∃ F,Dev w' p F s∧Only [] w w'∧(∀ i∈F,w.heap.size≤i∧i∉Q∧i<w'.heap.size)∧∀ q∈Q,w.heap.size≤q∧q<w'.heap.size
def H6(Q:List Nat)(w w':World):Prop:=∀ q∈Q,w'.heap[q]?=w.heap[q]?
theorem H6.blk{Q:List Nat}{w w':World}{g:Nat}{t:TypeId}{cs:Array Value}(h:H6 Q w w')(hb:Blk w g t cs)(hg:g∈Q):Blk w' g t cs:=(h g hg).trans hb
theorem H6.refl(Q:List Nat)(w:World):H6 Q w w:=fun _ _=>rfl
theorem Run.q{w w':World}{p:Nat}{s:St}(h:Run w w' p s):xE w w' [] p s:=by
 obtain⟨F,h1,h2,h3⟩:=h
 obtain⟨F',k1,k2,k3⟩:=h1.trim
 exact⟨F',k1,h2,fun i hi=>⟨h3 i (k2 i hi),by simp,k3 i hi⟩,by simp⟩
section
variable {w w1 w2:World}{Q:List Nat}{p:Nat}{s:St}
theorem xE.run(h:xE w w1 Q p s):Run w w1 p s:=by
 obtain⟨F,h1,h2,h3,_⟩:=h
 exact⟨F,h1,h2,fun i hi=>(h3 i hi).1⟩
theorem xE.acts(h:xE w w1 Q p s):Only [] w w1:=h.run.acts
theorem xE.fine(h:xE w w1 Q p s):Fine s:=h.run.fine
theorem xE.cell(h:xE w w1 Q p s){a:Addr}{v:Value}(hc:w.cell? a=some v):w1.cell? a=some v:=h.run.cell hc
theorem xE.did{F:List Nat}{t:St}(k:Only [] w w1)(hF:∀ i∈F,w.heap.size≤i∧i∉Q∧i<w1.heap.size)(hQ:∀ q∈Q,w.heap.size≤q∧q<w1.heap.size)(h:Did w1 w2 p F t):xE w w2 Q p t∧H6 Q w1 w2:=by
 obtain⟨F',h1,h2,h3⟩:=h
 obtain⟨F2,k1,k2,k3⟩:=h1.trim
 refine⟨⟨F2,k1,k.then h2 (fun i hi=>.inr (hF i hi).1),fun i hi=>⟨?_,?_,k3 i hi⟩,fun q hq=>⟨(hQ q hq).1,Nat.lt_of_lt_of_le (hQ q hq).2 h2.size⟩⟩,fun q hq=>h2.block q (hQ q hq).2 (fun hm=>(hF q hm).2.1 hq)⟩
 ·rcases h3.out i (k2 i hi) with h | h
  ·exact (hF i h).1
  ·exact Nat.le_trans k.size h
 ·rcases h3.out i (k2 i hi) with h | h
  ·exact (hF i h).2.1
  ·intro hq
   have:=(hQ i hq).2
   omega
theorem xE.turn{Q':List Nat}(h:xE w w1 Q p s)(k:Only Q w1 w2)(hQ':∀ q∈Q',(q∈Q∨w1.heap.size≤q)∧q<w2.heap.size):xE w w2 Q' p s:=by
 obtain⟨F,h1,h2,h3,h4⟩:=h
 refine⟨F,h1.kept k (fun i hi=>(h3 i hi).2.1),h2.then k (fun i hi=>.inr (h4 i hi).1),fun i hi=>⟨(h3 i hi).1,fun hq=> ?_,Nat.lt_of_lt_of_le (h3 i hi).2.2 k.size⟩,fun q hq=>⟨?_,(hQ' q hq).2⟩⟩
 ·rcases (hQ' i hq).1 with h | h
  ·exact (h3 i hi).2.1 h
  ·have:=(h3 i hi).2.2
   omega
 ·rcases (hQ' q hq).1 with h | h
  ·exact (h4 q h).1
  ·exact Nat.le_trans h2.size h
theorem xE.only(h:xE w w1 Q p s)(k:Only [] w1 w2):xE w w2 Q p s∧H6 Q w1 w2:=by
 have hq:∀ q∈Q,q<w1.heap.size:=by
  obtain⟨F,_,_,_,h4⟩:=h
  exact fun q hq=>(h4 q hq).2
 exact⟨h.turn (k.more (by simp)) (fun q h'=>⟨.inl h',Nat.lt_of_lt_of_le (hq q h') k.size⟩),fun q h'=>k.block q (hq q h') (by simp)⟩
theorem xE.write(h:xE w w1 Q p s)(k:Int)(b:List UInt8)(h0 : -9223372036854775808≤k)(h1:k≤9223372036854775807)(hlen:s.late.length<1048576):
  Calls Tryz.prog 131 #[.pointer (some ⟨p,0,none⟩),.int .i64 k,.string (strOf b)] w1 fun e w'=>e = .returned (.int .i64 (aI s k b))∧xE w w' Q p (written s k b)∧H6 Q w1 w':=by
 obtain⟨F,hd,k,hF,hQ⟩:=h
 exact (write_any w1 p F s _ b h0 h1 hlen hd).mono fun e w' h=>⟨h.1,xE.did k hF hQ h.2⟩
theorem xE.barrier(h:xE w w1 Q p s):
  Calls Tryz.prog 132 #[.pointer (some ⟨p,0,none⟩)] w1 fun e w'=>e = .returned (.int .i64 (dW s))∧xE w w' Q p (bD s)∧H6 Q w1 w':=by
 obtain⟨F,hd,k,hF,hQ⟩:=h
 exact (vG w1 p F s hd).mono fun e w' h=>⟨h.1,xE.did k hF hQ h.2.did⟩
theorem xE.crash(h:xE w w1 Q p s)(keep:Nat)(hk:keep<18446744073709551616):
  Calls Tryz.prog 20 #[.pointer (some ⟨p,0,none⟩),.int .u64 (keep:Int)] w1 fun e w'=>e = .returned (.tuple #[])∧xE w w' Q p (crashed s keep)∧H6 Q w1 w':=by
 obtain⟨F,hd,k,hF,hQ⟩:=h
 exact (CB w1 p F s keep hk hd).mono fun e w' h=>⟨h.1,xE.did k hF hQ h.2.did⟩
end
def strCells(L:List (List UInt8)):List Value:=L.map fun b=>.string (strOf b)
theorem yO(L:List (List UInt8))(i:Nat)(b:List UInt8):(strCells L).set i (.string (strOf b))=strCells (L.set i b):=by simp [strCells,List.map_set]
end Go.Proofs.YtmelaiefbpdifaaGreatDoor
