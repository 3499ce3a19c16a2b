/- Joined: Pm5, Pw5, Lk5, Pg13 -/
import Derived.Test.YtmelaiefbpdifaaGreatDoorHK4
import Derived.Test.YtmelaiefbpdifaaGreatDoorHK3
import Derived.Test.YtmelaiefbpdifaaGreatDoorHK0
namespace Go.Proofs.YtmelaiefbpdifaaGreatDoor
open Go.RowKit Go.Maps
def Iu(T:List (List UInt8)):Array Value:=(strCells T).toArray
theorem Rh(T:List (List UInt8))(i:Nat)(d:List UInt8):(Iu T).setIfInBounds i (.string (strOf d))=Iu (T.set i d):=by simp [Iu,strCells,List.map_set]
theorem VA(T:List (List UInt8))(i:Nat)(h:i<T.length):(Iu T)[i]?=some (.string (strOf T[i])):=by simp [Iu,strCells,h]
theorem YQ(l:List Rw)(k:Nat)(y:Rw)(h:l[k]?=some y)(d:List UInt8):encs rwE (l.set k ⟨y.key,d,y.at_⟩)=(encs rwE l).set (k*3+1) (.string (strOf d)):=by
 induction l generalizing k with
 | nil=>simp at h
 | cons x r ih=>
  cases k with
  | zero=>
   simp only [List.getElem?_cons_zero,Option.some.injEq] at h
   subst h
   simp [encs,rwE]
  | succ k=>
   simp only [List.getElem?_cons_succ] at h
   have:=ih k h
   have e:(k+1)*3+1=(k*3+1)+3:=by omega
   rw [e]
   simp only [List.set_cons_succ,encs,List.map_cons,List.flatten_cons] at this ⊢
   rw [this]
   simp [rwE]
structure uD(w wr:World)(ub tb vb:Nat)(v:Value)(st:mO):Prop where
 now:Mine rwE 3 200 w wr v st.now
 used:Blk wr ub 4 (oZ st.used)
 texts:Blk wr tb 9 (Iu st.texts)
 turned:Blk wr vb 4 (oZ st.turned)
 Yg:w.heap.size≤ub
 Wj:w.heap.size≤tb
 YV:w.heap.size≤vb
 ut:ub≠tb
 uv:ub≠vb
 tv:tb≠vb
 out:∀ g,v.ownBlock=some g→g≠ub∧g≠tb∧g≠vb
section
variable {w w1 w2:World}{ub tb vb:Nat}{v v':Value}{st:mO}
theorem uD.keep(h:uD w w1 ub tb vb v st)(k:Only [] w1 w2):uD w w2 ub tb vb v st:=
 ⟨h.now.keep k,h.used.kept k (by simp),h.texts.kept k (by simp),h.turned.kept k (by simp),h.Yg,h.Wj,h.YV,h.ut,h.uv,h.tv,h.out⟩
theorem Mine.past{α:Type}{enc:α→List Value}{k:Nat}{e:TypeId}{S:List Nat}{l:List α}(h:Mine enc k e w w1 v l)(kk:Only S w1 w2)(hS:∀ i∈S,w.heap.size≤i)(hv:∀ g,v.ownBlock=some g→g∉S):Mine enc k e w w2 v l:=
 ⟨ay h.own kk hv,h.new,h.only.then kk (fun i hi=>.inr (hS i hi))⟩
theorem uD.only(h:uD w w1 ub tb vb v st):Only [] w w1:=h.now.only
theorem uD.abN(h:uD w w1 ub tb vb v st)(i:Nat)(b:Bool):uD w (w1.setCell ⟨ub,i,none⟩ (.bool b)) ub tb vb v ⟨st.now,st.used.set i b,st.texts,st.turned⟩:=by
 have k:Only [ub] w1 (w1.setCell ⟨ub,i,none⟩ (.bool b)):=Only.set w1 [ub] (by simp) _
 have h2:=h.used.set i (.bool b)
 rw [tK] at h2
 exact⟨h.now.past k (by simpa using h.Yg) (fun g hg=>by simpa using (h.out g hg).1),h2,h.texts.kept k (by simpa using h.ut.symm),h.turned.kept k (by simpa using h.uv.symm),h.Yg,h.Wj,h.YV,h.ut,h.uv,h.tv,h.out⟩
theorem uD.QD(h:uD w w1 ub tb vb v st)(i:Nat)(d:List UInt8):uD w (w1.setCell ⟨tb,i,none⟩ (.string (strOf d))) ub tb vb v ⟨st.now,st.used,st.texts.set i d,st.turned⟩:=by
 have k:Only [tb] w1 (w1.setCell ⟨tb,i,none⟩ (.string (strOf d))):=Only.set w1 [tb] (by simp) _
 have h2:=h.texts.set i (.string (strOf d))
 rw [Rh] at h2
 exact⟨h.now.past k (by simpa using h.Wj) (fun g hg=>by simpa using (h.out g hg).2.1),h.used.kept k (by simpa using h.ut),h2,h.turned.kept k (by simpa using h.tv.symm),h.Yg,h.Wj,h.YV,h.ut,h.uv,h.tv,h.out⟩
theorem uD.Vg(h:uD w w1 ub tb vb v st)(i:Nat)(b:Bool):uD w (w1.setCell ⟨vb,i,none⟩ (.bool b)) ub tb vb v ⟨st.now,st.used,st.texts,st.turned.set i b⟩:=by
 have k:Only [vb] w1 (w1.setCell ⟨vb,i,none⟩ (.bool b)):=Only.set w1 [vb] (by simp) _
 have h2:=h.turned.set i (.bool b)
 rw [tK] at h2
 exact⟨h.now.past k (by simpa using h.YV) (fun g hg=>by simpa using (h.out g hg).2.2),h.used.kept k (by simpa using h.uv),h.texts.kept k (by simpa using h.tv),h2,h.Yg,h.Wj,h.YV,h.ut,h.uv,h.tv,h.out⟩
theorem uD.lay(h:uD w w1 ub tb vb v st){L:List Rw}(hm:Mine rwE 3 200 w1 w2 v' L):uD w w2 ub tb vb v' ⟨L,st.used,st.texts,st.turned⟩:=by
 have k:=hm.only
 have h1:=h.used.lt
 have h2:=h.texts.lt
 have h3:=h.turned.lt
 refine⟨hm.from h.only,h.used.kept k (by simp),h.texts.kept k (by simp),h.turned.kept k (by simp),h.Yg,h.Wj,h.YV,h.ut,h.uv,h.tv,fun g hg=> ?_⟩
 have:=hm.new g hg
 omega
theorem uD.aan{g c:Nat}{n:Nat}(h:uD w w1 ub tb vb (.slice (some ⟨g,0,none⟩) n c) st)(hn:n=st.now.length)(i:Nat)(y:Rw)(hy:st.now[i]?=some y)(d:List UInt8):
  uD w (w1.setCell ⟨g,i*3+1,none⟩ (.string (strOf d))) ub tb vb (.slice (some ⟨g,0,none⟩) n c) ⟨st.now.set i ⟨y.key,d,y.at_⟩,st.used,st.texts,st.turned⟩:=by
 subst hn
 have k:Only [g] w1 (w1.setCell ⟨g,i*3+1,none⟩ (.string (strOf d))):=Only.set w1 [g] (by simp) _
 have ho:=h.out g rfl
 have h2:=uQ (i:=i*3+1) h.now.own (.string (strOf d))
 rw [←YQ _ _ _ hy] at h2
 refine⟨⟨by rw [List.length_set];exact h2,h.now.new,h.now.only.then k (fun j hj=>.inr ?_)⟩,h.used.kept k (by simpa using ho.1.symm),h.texts.kept k (by simpa using ho.2.1.symm),h.turned.kept k (by simpa using ho.2.2.symm),h.Yg,h.Wj,h.YV,h.ut,h.uv,h.tv,h.out⟩
 simp only [List.mem_singleton] at hj
 subst hj
 exact h.now.new _ rfl
theorem uD.atU(h:uD w w1 ub tb vb v st){i:Nat}(hi:i<st.used.length):w1.cell? ⟨ub,i,none⟩=some (.bool st.used[i])∧w1.frozen? ⟨ub,i,none⟩=false:=
 ⟨by rw [h.used.cell,su _ _ hi],h.used.free i⟩
theorem uD.atT(h:uD w w1 ub tb vb v st){i:Nat}(hi:i<st.texts.length):w1.cell? ⟨tb,i,none⟩=some (.string (strOf st.texts[i]))∧w1.frozen? ⟨tb,i,none⟩=false:=
 ⟨by rw [h.texts.cell,VA _ _ hi],h.texts.free i⟩
theorem uD.atV(h:uD w w1 ub tb vb v st){i:Nat}(hi:i<st.turned.length):w1.cell? ⟨vb,i,none⟩=some (.bool st.turned[i])∧w1.frozen? ⟨vb,i,none⟩=false:=
 ⟨by rw [h.turned.cell,su _ _ hi],h.turned.free i⟩
end
theorem Mine.aa6{w w1:World}{e:TypeId}{g o c i n:Nat}{l:List Rw}(h:Mine rwE 3 e w w1 (.slice (some ⟨g,o,none⟩) n c) l)(hi:i<l.length):jq rwE 3 w1 g o l:=by
 obtain⟨A,c',he,hel,_⟩:=h.shape bH
 obtain⟨g',o',hA,_,hat⟩:=hel.get hi
 subst hA
 injection he with he _ _
 injection he with he
 injection he with h1 h2 _
 subst h1
 subst h2
 exact hat
theorem JW{M:List Rw}(hs:Sorted M){i:Nat}{r:Rw}(h:M[i]?=some r):M.take i++M.drop (i+1)=vN M r.key:=by
 obtain⟨hi,he⟩:=List.getElem?_eq_some_iff.1 h
 have hk:=List.pairwise_iff_getElem.1 hs.keys
 have hd:M=M.take i++r :: M.drop (i+1):=by rw [←he,List.getElem_cons_drop,List.take_append_drop]
 have h1:(M.take i).filter (fun x=>!(x.key==r.key))=M.take i:=by
  rw [List.filter_eq_self]
  intro x hx
  obtain⟨j,hj,rfl⟩:=List.getElem_of_mem hx
  rw [List.length_take] at hj
  rw [List.getElem_take]
  have:=hk j i (by omega) hi (by omega)
  rw [he] at this
  simpa using this
 have h2:(M.drop (i+1)).filter (fun x=>!(x.key==r.key))=M.drop (i+1):=by
  rw [List.filter_eq_self]
  intro x hx
  obtain⟨j,hj,rfl⟩:=List.getElem_of_mem hx
  rw [List.length_drop] at hj
  rw [List.getElem_drop]
  have:=hk i (i+1+j) hi (by omega) (by omega)
  rw [he] at this
  simpa using fun e=>this e.symm
 have h3:vN M r.key=(M.take i++r :: M.drop (i+1)).filter (fun x=>!(x.key==r.key)):=by unfold vN;rw [←hd]
 rw [h3,List.filter_append,h1,List.filter_cons_of_neg (by simp),h2]
theorem aal{M:List Rw}(hs:Sorted M){i:Nat}{r:Rw}(h:M[i]?=some r)(d:List UInt8):M.set i ⟨r.key,d,r.at_⟩=wG M ⟨r.key,d,r.at_⟩:=by
 obtain⟨hi,he⟩:=List.getElem?_eq_some_iff.1 h
 have hk:=List.pairwise_iff_getElem.1 hs
 have h1:=LU ⟨r.key,d,r.at_⟩ (vN M r.key) i (by
  rw [←JW hs h,List.length_append,List.length_take,List.length_drop];omega) (fun j y hj hy=>by
  rw [←JW hs h,List.getElem?_append_left (by rw [List.length_take];omega),List.getElem?_take,if_pos hj,List.getElem?_eq_getElem (by omega)] at hy
  injection hy with hy
  subst hy
  have:=hk j i (by omega) hi hj
  rw [he] at this
  exact this) (fun y hy=>by
  rw [←JW hs h,List.getElem?_append_right (by rw [List.length_take];omega),List.length_take,Nat.min_eq_left (by omega),Nat.sub_self,List.getElem?_drop] at hy
  obtain⟨hi2,hy⟩:=List.getElem?_eq_some_iff.1 hy
  subst hy
  have:=hk i (i+1+0) hi hi2 (by omega)
  rw [he] at this
  exact this)
 unfold wG
 rw [h1,←JW hs h]
 rw [List.take_append_of_le_length (by rw [List.length_take];omega),List.take_take,Nat.min_self,List.drop_append_of_le_length (by rw [List.length_take];omega),List.drop_of_length_le (by rw [List.length_take];omega)]
 rw [List.set_eq_take_append_cons_drop,if_pos hi]
 rfl
end Go.Proofs.YtmelaiefbpdifaaGreatDoor
namespace Go.Proofs.YtmelaiefbpdifaaGreatDoor
open Go.RowKit Go.Maps
def CZ(w w':World)(o:Option (List Rw × List Bk))(e:Ending):Prop:=match o with
 | none=>e = .returned (.tuple #[.slice none 0 0,.slice none 0 0,.bool false])∧Only [] w w'
 | some x=>∃ v u,e = .returned (.tuple #[v,u,.bool true])∧Mine rwE 3 200 w w' v x.1∧fV bkE 2 w w' u x.2
theorem CZ.no{w w':World}{o:Option (List Rw × List Bk)}(h:o=none)(k:Only [] w w'):CZ w w' o (.returned (.tuple #[.slice none 0 0,.slice none 0 0,.bool false])):=by
 subst h
 exact⟨rfl,k⟩
theorem CZ.yes{w w':World}{o:Option (List Rw × List Bk)}{L:List Rw}{O:List Bk}{v u:Value}(h:o=some (L,O))(k:Mine rwE 3 200 w w' v L)(j:fV bkE 2 w w' u O):CZ w w' o (.returned (.tuple #[v,u,.bool true])):=by
 subst h
 exact⟨v,u,rfl,k,j⟩
theorem Sm{N:Nat}{M:List Rw}{l:List Ch}{k:Nat}(h:lS (l.foldl D8 (qX N M)) (l.take k)=none):tZ N M l=none:=by
 unfold tZ
 rw [D7 l _ k h]
theorem Sl{N:Nat}{M:List Rw}{l:List Ch}{st:mO}(h:lS (l.foldl D8 (qX N M)) l=some st):tZ N M l=some (st.now,vF st N):=by
 unfold tZ
 rw [h]
set_option maxRecDepth 1000000 in
set_option maxHeartbeats 8000000 in
theorem RH(w:World)(A B:Option Addr)(c d N:Nat)(M:List Rw)(l:List Ch)(hA:Els rwE 3 w A M)(hs:Sorted M)(ha:∀ r∈M,r.at_<N)(hN:N≤1024)(hMN:M.length≤N)(hb:Els chE 3 w B l)(hl:l.length≤40)(hsm:oD l):
  Calls Tryz.prog 107 #[.slice A M.length c,.int .i64 (N:Int),.slice B l.length d] w fun e w'=>CZ w w' (tZ N M l) e:=by
 have hNI:(N:Int)≤1024:=by omega
 have hMI:(M.length:Int)≤1024:=by omega
 have hlI:(l.length:Int)≤40:=by omega
 have hg0:=Pv hs ha
 have hp0:qX N M=⟨M,tkL N M,List.replicate N [],List.replicate N false⟩:=rfl
 have hB0:Blk (w.alloc (.cells #[] 200)) w.heap.size 200 #[]:=Blk.new _ _ _
 have ho0:(w.alloc (.cells #[] 200)).ownsRow 0 200 3 (.slice (some ⟨w.heap.size,0,none⟩) 0 0) 0 (encs rwE ([]:List Rw)):=World.ownsRow_lit w #[] 0 (Nat.zero_le _) (by unfold maxLen;omega) rfl
 have k0:Only [] w (w.alloc (.cells #[] 200)):=(Only.refl [] w).alloc _
 have hm0:Mine rwE 3 200 w (w.alloc (.cells #[] 200)) (.slice (some ⟨w.heap.size,0,none⟩) 0 0) []:=⟨ho0,fun g hg=>by simp [Value.ownBlock] at hg;omega,k0⟩
 have hA0:=hA.kept k0 (by simp)
 replace hp0:=Lib.hid hp0
 replace hg0:=Lib.hid hg0
 clear hB0 ho0
 go_enter Tryz.func107,Tryz.ntmps107
 go_wp2_with (at_builtin;go_must (refine dI bH (by decide) iP rfl (.tmp 23) (.tmp 24) 122 rfl 200 (.agg #[.string ⟨#[]⟩,.string ⟨#[]⟩,.int .i64 0]) 40 Tryz.underlying122 iV rfl (.slice (some ⟨w.heap.size,0,none⟩) 0 0) 0 [] rfl hm0.own A c M rfl hA0 ?c1 ?c2 ?go))
 case c1=>unfold maxLen;omega
 case c2=>omega
 case go=>
 intro v3 w3 hown3 hg3 H9
 have hm3:=hm0.joined (by simpa using hown3) hg3 (by simpa using H9)
 rw [List.nil_append] at hm3
 clear hown3 hg3 H9 hm0 hA0 k0
 obtain⟨C,hC⟩:∃ C,(List.replicate N (Value.bool false)).toArray=C:=⟨_,rfl⟩
 obtain⟨E,hE⟩:∃ E,(List.replicate N (Value.string ⟨#[]⟩)).toArray=E:=⟨_,rfl⟩
 have hCu:C=oZ (tkL N []):=by rw [←hC,QT N];rfl
 have hCv:C=oZ (List.replicate N false):=by rw [←hC];simp [oZ]
 have hEt:E=Iu (List.replicate N []):=by rw [←hE];simp [Iu,strCells,strOf]
 replace hC:=Lib.hid hC
 replace hE:=Lib.hid hE
 replace hCu:=Lib.hid hCu
 replace hCv:=Lib.hid hCv
 replace hEt:=Lib.hid hEt
 go_wp2_with (first | (refine gY _ rfl _ _ 243 rfl 4 (.bool false) 1 Tryz.underlying243 Jv rfl .i64 .i64 N N N rfl rfl rfl rfl (by omega) (by omega) ?_;rw [hC.out]) | (refine gY _ rfl _ _ 35 rfl 9 (.string ⟨#[]⟩) 16 Tryz.underlying35 wR rfl .i64 .i64 N N N rfl rfl rfl rfl (by omega) (by omega) ?_;rw [hE.out]))
 have kt1:Only [] w3 (w3.alloc (.cells C 4)):=(Only.refl [] w3).alloc _
 have bt1:=Blk.new w3 4 C
 have kt2:Only [] (w3.alloc (.cells C 4)) ((w3.alloc (.cells C 4)).alloc (.cells E 9)):=(Only.refl [] _).alloc _
 have bt2:=Blk.new (w3.alloc (.cells C 4)) 9 E
 have kt3:Only [] ((w3.alloc (.cells C 4)).alloc (.cells E 9)) (((w3.alloc (.cells C 4)).alloc (.cells E 9)).alloc (.cells C 4)):=(Only.refl [] _).alloc _
 have bt3:=Blk.new ((w3.alloc (.cells C 4)).alloc (.cells E 9)) 4 C
 have z1:(w3.alloc (.cells C 4)).heap.size=w3.heap.size+1:=by simp
 have z2:((w3.alloc (.cells C 4)).alloc (.cells E 9)).heap.size=w3.heap.size+2:=by simp
 rw [z1] at bt2
 rw [z2] at bt3
 have hmem:uD w (((w3.alloc (.cells C 4)).alloc (.cells E 9)).alloc (.cells C 4)) w3.heap.size (w3.heap.size+1) (w3.heap.size+2) v3 ⟨M,tkL N [],List.replicate N [],List.replicate N false⟩:=by
  have hsz:=hm3.only.size
  refine⟨hm3.keep ((kt1.trans kt2).trans kt3),?_,?_,?_,by omega,by omega,by omega,by omega,by omega,by omega,fun g hg=> ?_⟩
  ·rw [←hCu.out];exact bt1.kept (kt2.trans kt3) (by simp)
  ·rw [←hEt.out];exact bt2.kept kt3 (by simp)
  ·rw [←hCv.out];exact bt3
  ·have:=(hm3.own.lt g hg).2
   omega
 obtain⟨ub,hub⟩:∃ ub,ub=w3.heap.size:=⟨_,rfl⟩
 simp only [←hub] at hmem ⊢
 generalize (((w3.alloc (.cells C 4)).alloc (.cells E 9)).alloc (.cells C 4))=w4 at *
 clear kt1 kt2 kt3 bt1 bt2 bt3 z1 z2 hm3 hub hCu hCv hEt hC hE
 clear w3 C E
 rw [show ub+2=ub+1+1 from rfl] at hmem
 generalize ub+1=tb at *
 generalize tb+1=vb at *
 obtain⟨A2,c2,hv,_,_,_,_⟩:=hmem.now.shape bH
 subst hv
 simp only at *
 go_loopw [13] (fun i wr=>∃ k:Nat,k≤M.length∧i = .int .i64 k∧uD w wr ub tb vb (.slice A2 M.length c2) ⟨M,tkL N (M.take k),List.replicate N [],List.replicate N false⟩) (fun i _=>M.length-(intOf i).toNat)
 case atStart=>exact⟨0,Nat.zero_le _,rfl,hmem⟩
 case round=>
  clear hmem
  obtain⟨k,hk,rfl,hmem⟩:=hrel
  by_cases hlt:k<M.length
  ·obtain⟨A',c',he,hel,_,_,_⟩:=hmem.now.shape bH
   injection he with e1 _ e3
   subst e1
   subst e3
   obtain⟨g,o,rfl,hg,hat⟩:=hel.get hlt
   obtain⟨_,_,x2⟩:=wo hat hlt
   have hat':=ha _ (List.getElem_mem hlt)
   have htk:=Ny N (M.take k) M[k] hat'
   have hst:M.take (k+1)=M.take k++[M[k]]:=by rw [List.take_add_one,List.getElem?_eq_getElem hlt];rfl
   rw [←hst] at htk
   generalize M[k]=r at *
   obtain⟨u1,f1⟩:=hmem.atU (i:=r.at_) (by simpa [tkL] using hat')
   have hm2:=hmem.abN r.at_ true
   simp only at hm2 u1
   rw [htk] at hm2
   have aeX:(r.at_:Int)<(N:Int):=by omega
   generalize (tkL N (M.take k))[r.at_]'(by simpa [tkL] using hat')=ob at *
   replace hm2:=Lib.hid hm2
   replace hst:=Lib.hid hst
   replace htk:=Lib.hid htk
   clear hmem hel hat
   go_wp2
   go_roundw
   case rel=>exact⟨k+1,by omega,by go_num,hm2.out⟩
   case measure=>simp [intOf];omega
  ·obtain rfl:k=M.length:=by omega
   rw [List.take_length] at hmem
   rw [←hp0.out] at hmem
   have hge:¬(M.length:Int)<(M.length:Int):=by omega
   go_wp2
   go_loopw [9,14] (fun v i wr=>∃ (k:Nat) (st:mO),k≤l.length∧i = .int .i64 k∧Hid (st=(l.take k).foldl D8 (qX N M))∧Nq N M.length st∧uD w wr ub tb vb v st) (fun _ i _=>l.length-(intOf i).toNat)
   case atStart=>exact⟨0,qX N M,Nat.zero_le _,rfl,rfl,hg0.out,hmem⟩
   case round=>
    clear hmem hge
    obtain⟨k,st,hk,rfl,hst,hgood,hmem⟩:=hrel
    obtain⟨A3,c3,hv,hel,hc3,hA3,hform⟩:=hmem.now.shape bH
    subst hv
    have hnl:=hgood.len
    by_cases hlt:k<l.length
    ·obtain⟨g,o,rfl,hg,hat⟩:=hb.get hlt
     obtain⟨x0,_,x2⟩:=kT (hat.kept hmem.only (by simp)) hlt
     have hnext:(l.take (k+1)).foldl D8 (qX N M)=D8 st l[k]:=by rw [tJ D8 _ l k hlt,←hst.out]
     have hgn:=Sz hgood l[k]
     have hfind:=wu wr A3 c3 st.now l[k].key hel (by omega)
     generalize l[k]=x at *
     obtain⟨key,val,gone⟩:=x
     simp only at x0 x2 hfind
     generalize hks:strOf key=ks at *
     replace hks:=Lib.hid hks
     replace hfind:=Lib.hid hfind
     cases gone with
     | false=>
      have hpd:D8 st ⟨key,val,false⟩=st:=rfl
      rw [hpd] at hnext
      have hnx:Hid (st=(l.take (k+1)).foldl D8 (qX N M)):=hnext.symm
      clear hpd hnext hgn
      go_wp2_with fail
      refine hfind.out.mono ?_
      rintro e w2 ⟨hfi,k2⟩
      have y2:=k2.cell x2 (by simp)
      have hm2:=hmem.keep k2
      clear hmem k2 x0 x2 hel
      rcases hfi with⟨i,r,_,_,rfl⟩ | ⟨_,rfl⟩
      all_goals
       go_wp2
       go_roundw
       case rel=>exact⟨k+1,st,by omega,by go_num,hnx,hgood,hm2⟩
       case measure=>simp [intOf];omega
     | true=>
      go_wp2_with fail
      refine hfind.out.mono ?_
      rintro e w2 ⟨hfi,k2⟩
      have y2:=k2.cell x2 (by simp)
      have hm2:=hmem.keep k2
      have acH:=hel.kept k2 (by simp)
      clear hmem k2 x0 x2 hel hfind
      rcases hfi with⟨i,r,hi,hrk,rfl⟩ | ⟨hno,rfl⟩
      ·have hf:aK st.now key=some r:=(wW hgood.sorted).2 ⟨List.mem_of_getElem? hi,hrk⟩
       have hpd:D8 st ⟨key,val,true⟩=⟨vN st.now key,st.used.set r.at_ false,st.texts.set r.at_ [],st.turned.set r.at_ true⟩:=by
        unfold D8
        simp only [if_true]
        rw [hf]
       rw [hpd] at hnext hgn
       have hdel:=JW hgood.sorted hi
       rw [hrk] at hdel
       obtain⟨hil,hie⟩:=List.getElem?_eq_some_iff.1 hi
       obtain⟨g3,o3,rfl,hg3,H9⟩:=acH.get hil
       obtain⟨_,_,z2⟩:=wo H9 hil
       rw [hie] at z2
       have haN:=hgood.jE r (List.mem_of_getElem? hi)
       obtain⟨u1,f1⟩:=hm2.atU (i:=r.at_) (by rw [hgood.Vj];exact haN)
       have hm3:=hm2.abN r.at_ false
       obtain⟨u2,f2⟩:=hm3.atT (i:=r.at_) (by rw [hgood.QF];exact haN)
       have hm4:uD w ((w2.setCell ⟨ub,r.at_,none⟩ (.bool false)).setCell ⟨tb,r.at_,none⟩ (.string ⟨#[]⟩)) ub tb vb (.slice (some ⟨g3,o3,none⟩) st.now.length c3) ⟨st.now,st.used.set r.at_ false,st.texts.set r.at_ [],st.turned⟩:=hm3.QD r.at_ []
       obtain⟨u3,f3⟩:=hm4.atV (i:=r.at_) (by rw [hgood.lenV];exact haN)
       have hm5:=hm4.Vg r.at_ true
       simp only at u1 u2 u3 hm5
       generalize st.used[r.at_]'(by rw [hgood.Vj];exact haN)=ob1 at *
       generalize strOf (st.texts[r.at_]'(by rw [hgood.QF];exact haN))=ob2 at *
       generalize st.turned[r.at_]'(by rw [hgood.lenV];exact haN)=ob3 at *
       have haI:(r.at_:Int)<(N:Int):=by omega
       have hiI:(i:Int)<(st.now.length:Int):=by omega
       have hi0:0≤(i:Int):=by omega
       have hnI:(st.now.length:Int)≤1024:=by omega
       have hcI:(st.now.length:Int)≤(c3:Int):=by omega
       have afA:(i:Int)≤(c3:Int):=by omega
       have afB:(i:Int)+1≤(st.now.length:Int):=by omega
       have htake:(st.now.take i).length=i:=by simp;omega
       have hdrop:(st.now.drop (i+1)).length=st.now.length-(i+1):=by simp
       have hnx:Hid ((⟨vN st.now key,st.used.set r.at_ false,st.texts.set r.at_ [],st.turned.set r.at_ true⟩:mO)=(l.take (k+1)).foldl D8 (qX N M)):=hnext.symm
       replace hdel:=Lib.hid hdel
       replace htake:=Lib.hid htake
       replace hdrop:=Lib.hid hdrop
       replace hi:=Lib.hid hi
       replace hie:=Lib.hid hie
       replace hrk:=Lib.hid hrk
       replace hf:=Lib.hid hf
       have JH:=hm5.now.aa6 hil
       clear hpd hnext hm2 hm3 hm4 H9 acH
       by_cases hlast:i+1<st.now.length
       ·have hlI:(i:Int)+1<(st.now.length:Int):=by omega
        go_wp2_with (at_builtin;go_must (refine bZ bH (by decide) iP rfl (.tmp 82) (.tmp 85) 122 rfl 200 (.agg #[.string ⟨#[]⟩,.string ⟨#[]⟩,.int .i64 0]) 40 Tryz.underlying122 iV rfl (.slice none 0 0) 0 [] rfl (World.ownsRow_nil _ 0 _ 3) g3 o3 i _ (st.now.take i) htake.out.symm rfl (JH.take i) ?c1 ?c2 ?go))
        case c1=>unfold maxLen;omega
        case c2=>omega
        case go=>
        intro v6 w6 hown6 hg6 ha6
        have hm6:=(Mine.start rwE 3 200 (Only.refl [] _)).joined (by rw [htake.out];simpa using hown6) hg6 (by simpa using ha6)
        rw [List.nil_append] at hm6
        have aa0:=JH.kept hm6.only (by simp)
        clear hown6 hg6 ha6
        go_wp2_with (at_builtin;go_must (refine bZ bH (by decide) iP rfl (.tmp 87) (.tmp 91) 122 rfl 200 (.agg #[.string ⟨#[]⟩,.string ⟨#[]⟩,.int .i64 0]) 40 Tryz.underlying122 iV rfl v6 (st.now.take i).length (st.now.take i) rfl hm6.own g3 (o3+(i+1)*3) (st.now.length-(i+1)) _ (st.now.drop (i+1)) hdrop.out.symm rfl (aa0.drop (i+1)) ?d1 ?d2 ?go2))
        case d1=>have:=htake.out;unfold maxLen;omega
        case d2=>have:=htake.out;omega
        case go2=>
        intro v7 w7 Dw hg7 ha7
        have hm7:=hm6.joined (by rw [hdrop.out];simpa using Dw) hg7 ha7
        rw [hdel.out] at hm7
        have hm8:=hm5.lay hm7
        simp only at hm8
        clear Dw hg7 ha7 hm6 hm7 aa0 JH hm5 y2 u1 u2 u3 f1 f2 f3
        go_wp2
        go_roundw
        case rel=>exact⟨k+1,_,by omega,by go_num,hnx,hgn,hm8⟩
        case measure=>simp [intOf];omega
       ·have hdn:st.now.drop (i+1) = []:=List.drop_of_length_le (by omega)
        have hcl:(i:Int)+1≤(c3:Int):=by omega
        have hz0:st.now.length-(i+1)=0:=by omega
        replace hdel:=hdel.out
        rw [hdn,List.append_nil] at hdel
        replace hdel:=Lib.hid hdel
        go_wp2_with (at_builtin;go_must (refine bZ bH (by decide) iP rfl (.tmp 82) (.tmp 85) 122 rfl 200 (.agg #[.string ⟨#[]⟩,.string ⟨#[]⟩,.int .i64 0]) 40 Tryz.underlying122 iV rfl (.slice none 0 0) 0 [] rfl (World.ownsRow_nil _ 0 _ 3) g3 o3 i _ (st.now.take i) htake.out.symm rfl (JH.take i) ?c1 ?c2 ?go))
        case c1=>unfold maxLen;omega
        case c2=>omega
        case go=>
        intro v6 w6 hown6 hg6 ha6
        have hm6:=(Mine.start rwE 3 200 (Only.refl [] _)).joined (by rw [htake.out];simpa using hown6) hg6 (by simpa using ha6)
        rw [List.nil_append] at hm6
        clear hown6 hg6 ha6
        go_wp2_with (at_builtin;go_must (refine dI bH (by decide) iP rfl (.tmp 87) (.tmp 91) 122 rfl 200 (.agg #[.string ⟨#[]⟩,.string ⟨#[]⟩,.int .i64 0]) 40 Tryz.underlying122 iV rfl v6 (st.now.take i).length (st.now.take i) rfl hm6.own _ _ [] rfl (.inl rfl) ?d1 ?d2 ?go2))
        all_goals first
         | (have:=htake.out;unfold maxLen;simp only [List.length_nil];omega)
         | (have:=htake.out;simp only [List.length_nil];omega)
         | (
           intro v7 w7 Dw hg7 ha7
           have hm7:=hm6.joined (ys:=[]) (by simpa using Dw) hg7 ha7
           rw [List.append_nil,hdel.out] at hm7
           have hm8:=hm5.lay hm7
           simp only at hm8
           clear Dw hg7 ha7 hm6 hm7 JH hm5 y2 u1 u2 u3 f1 f2 f3
           go_wp2
           go_roundw
           case rel=>exact⟨k+1,_,by omega,by go_num,hnx,hgn,hm8⟩
           case measure=>simp [intOf];omega)
      ·have hpd:D8 st ⟨key,val,true⟩=st:=by
        unfold D8
        simp only [if_true]
        rw [dJ.2 hno]
       rw [hpd] at hnext
       have hnx:Hid (st=(l.take (k+1)).foldl D8 (qX N M)):=hnext.symm
       clear hpd hnext hgn acH hno
       go_wp2
       go_roundw
       case rel=>exact⟨k+1,st,by omega,by go_num,hnx,hgood,hm2⟩
       case measure=>simp [intOf];omega
    ·obtain rfl:k=l.length:=by omega
     rw [List.take_length] at hst
     have hge:¬(l.length:Int)<(l.length:Int):=by omega
     rename mO=>sD
     have hD:=hst
     clear hst
     have hg3:=Lib.hid hgood
     clear hgood hel hc3 hA3 hform hnl
     go_wp2
     go_loopw [9,18] (fun v i wr=>∃ (k:Nat) (st:mO),k≤l.length∧i = .int .i64 k∧Hid (lS sD (l.take k)=some st)∧Nq N (M.length+k) st∧uD w wr ub tb vb v st) (fun _ i _=>l.length-(intOf i).toNat)
     case atStart=>exact⟨0,sD,Nat.zero_le _,rfl,rfl,hg3.out,hmem⟩
     case round=>
      clear hmem hge
      obtain⟨k,st,hk,rfl,hst,hgood,hmem⟩:=hrel
      obtain⟨A3,c3,hv,hel,hc3,hA3,hform⟩:=hmem.now.shape bH
      have hnl:=hgood.len
      by_cases hlt:k<l.length
      ·obtain⟨g,o,rfl,hg,hat⟩:=hb.get hlt
       obtain⟨x0,x1,x2⟩:=kT (hat.kept hmem.only (by simp)) hlt
       have hnext:lS sD (l.take (k+1))=FV st l[k]:=by rw [D5 l sD k hlt,hst.out]
       have hsk:=hsm l[k] (List.getElem_mem hlt)
       have hgn:=fun st' h=>Sj hgood (st':=st') hsk.1 hsk.2 h
       have hfind:=wu wr A3 c3 st.now l[k].key hel (by omega)
       have hdata:=fun W=>IW W l[k].key l[k].val hsk.1 hsk.2
       rw [←hv] at hfind
       generalize l[k]=x at *
       obtain⟨key,val,gone⟩:=x
       simp only at x0 x1 x2 hfind hdata hsk
       generalize hks:strOf key=ks at *
       generalize hvs:strOf val=vs at *
       obtain⟨pds,aaH⟩:∃ pds,strOf (yV key val)=pds:=⟨_,rfl⟩
       rw [aaH] at hdata
       replace aaH:=Lib.hid aaH
       replace hks:=Lib.hid hks
       replace hvs:=Lib.hid hvs
       replace hfind:=Lib.hid hfind
       replace hdata:=Lib.hid hdata
       cases gone with
       | true=>
        have hpp:FV st ⟨key,val,true⟩=some st:=rfl
        have Zm:=hgn st hpp
        rw [hpp] at hnext
        have hnx:Hid (lS sD (l.take (k+1))=some st):=hnext
        clear hpp hnext hgn hfind hdata hform hv hel
        go_wp2
        go_roundw
        case rel=>exact⟨k+1,st,by omega,by go_num,hnx,Zm,hmem⟩
        case measure=>simp [intOf];omega
       | false=>
        have hvl:∀ r:Rw,((strOf r.val).toList==vs.toList)=(r.val==val):=fun r=>by rw [←hvs.out,Ak,Ak]
        replace hvl:=Lib.hid hvl
        replace hv:=Lib.hid hv
        go_wp2_with fail
        refine hfind.out.mono ?_
        rintro e w2 ⟨hfi,k2⟩
        have y0:=k2.cell x0 (by simp)
        have y1:=k2.cell x1 (by simp)
        have y2:=k2.cell x2 (by simp)
        have hm2:=hmem.keep k2
        clear hmem k2 x0 x1 x2 hel hfind
        rcases hfi with⟨i,r,hi,hrk,rfl⟩ | ⟨hno,rfl⟩
        ·have hf:aK st.now key=some r:=(wW hgood.sorted).2 ⟨List.mem_of_getElem? hi,hrk⟩
         obtain⟨hil,hie⟩:=List.getElem?_eq_some_iff.1 hi
         have hvv:=hv.out
         rcases hform with hform | ⟨g3,cc,hform⟩
         ·rw [hform] at hvv
          injection hvv with _ e1 _
          omega
         ·subst hform
          have H9:=hm2.now.aa6 hil
          obtain⟨_,z1,z2⟩:=wo H9 hil
          rw [hie] at z1 z2
          rw [Nat.zero_add] at z1 z2
          have haN:=hgood.jE r (List.mem_of_getElem? hi)
          have haI:(r.at_:Int)<(N:Int):=by omega
          have hiI:(i:Int)<(st.now.length:Int):=by omega
          have hi0:0≤(i:Int):=by omega
          have hfz:=nC hm2.now.own (i*3+1)
          have hb1:=hvl.out r
          by_cases he:r.val=val
          ·have hpp:FV st ⟨key,val,false⟩=some st:=by
            unfold FV
            simp only [Bool.false_eq_true,if_false]
            rw [hf]
            simp only
            rw [if_pos he]
           have Zm:=hgn st hpp
           rw [hpp] at hnext
           have hnx:Hid (lS sD (l.take (k+1))=some st):=hnext
           have hb2:((strOf r.val).toList==vs.toList)=true:=by rw [hb1,he];simp
           clear hpp hnext hgn hdata H9 hb1
           generalize strOf r.val=rvs at *
           replace he:=Lib.hid he
           replace hf:=Lib.hid hf
           replace hi:=Lib.hid hi
           replace hrk:=Lib.hid hrk
           replace hie:=Lib.hid hie
           replace hvv:=Lib.hid hvv
           go_wp2
           go_quiet (fail)
           have hm3:=hm2.keep ((Only.refl [] w2).drewN nq)
           clear hm2 y0 y1 y2 z1 z2 hfz
           go_wp2
           go_roundw
           case rel=>exact⟨k+1,st,by omega,by go_num,hnx,Zm,hm3⟩
           case measure=>simp [intOf];omega
          ·have hpp:FV st ⟨key,val,false⟩=some ⟨wG st.now ⟨key,val,r.at_⟩,st.used,st.texts.set r.at_ (yV key val),st.turned.set r.at_ true⟩:=by
            unfold FV
            simp only [Bool.false_eq_true,if_false]
            rw [hf]
            simp only
            rw [if_neg he]
           have Zm:=hgn _ hpp
           rw [hpp] at hnext
           have hnx:Hid (lS sD (l.take (k+1))=some ⟨wG st.now ⟨key,val,r.at_⟩,st.used,st.texts.set r.at_ (yV key val),st.turned.set r.at_ true⟩):=hnext
           have hb2:((strOf r.val).toList==vs.toList)=false:=by rw [hb1];simpa using he
           have hset:=aal hgood.sorted hi val
           rw [hrk] at hset
           clear hpp hnext hgn H9 hb1
           generalize strOf r.val=rvs at *
           replace he:=Lib.hid he
           replace hf:=Lib.hid hf
           replace hrk:=Lib.hid hrk
           replace hie:=Lib.hid hie
           replace hvv:=Lib.hid hvv
           replace hset:=Lib.hid hset
           have hi':=Lib.hid hi
           clear hi
           go_wp2
           go_quiet (fail)
           have kq:=(Only.refl [] w2).drewN nq
           have hm3:=hm2.keep kq
           have y0q:=kq.cell y0 (by simp)
           have y1q:=kq.cell y1 (by simp)
           have y2q:=kq.cell y2 (by simp)
           have z1q:=kq.cell z1 (by simp)
           have z2q:=kq.cell z2 (by simp)
           have hfq:=nC hm3.now.own (i*3+1)
           have hm4:=hm3.aan (by first | rfl | exact hvv.out ▸ rfl) i r hi'.out val
           rw [hrk.out,hset.out,hvs.out] at hm4
           clear hm2 y0 y1 y2 z1 z2 hfz hm3
           generalize w2.drewN nq=w3 at *
           have afE:w.heap.size≤g3:=hm4.now.new g3 rfl
           have ug:Only [g3] w3 (w3.setCell ⟨g3,i*3+1,none⟩ (.string vs)):=Only.set w3 [g3] (by simp) _
           have x0A:=ug.cell y0q (by simp;omega)
           have x1A:=ug.cell y1q (by simp;omega)
           have hmA:=hm4
           clear hm4 ug
           go_wp2_with fail
           generalize hwA:w3.setCell ⟨g3,i*3+1,none⟩ (.string vs)=wA at *
           replace hwA:=Lib.hid hwA
           clear y0q y1q y2q z1q z2q hfq
           have kd:Only [] wA wA.drew:=(Only.refl [] wA).drew
           have hS:wA.drew.cell? ⟨g,o+k*3,none⟩=some (.string ks)∧wA.drew.cell? ⟨g,o+k*3+1,none⟩=some (.string vs):=⟨kd.cell x0A (by simp),kd.cell x1A (by simp)⟩
           have hmd:=hmA.keep kd
           clear hmA x0A x1A
           go_wp2_with fail
           refine wp_region_held_drew (S:=fun w'=>w'.cell? ⟨g,o+k*3,none⟩=some (.string ks)∧w'.cell? ⟨g,o+k*3+1,none⟩=some (.string vs)) (by kernel_rfl) hS (fun hHeld=> ?_)
           refine rwT 0 (.slice (some ⟨tb,0,none⟩) N N) hHeld ?_;simp only [rwA]
           refine rwT 1 (.int .i64 (r.at_:Int)) hHeld ?_;simp only [rwA]
           refine rwT 2 (.slice (some ⟨g,o,none⟩) l.length d) hHeld ?_;simp only [rwA]
           refine rwT 3 (.int .i64 (k:Int)) hHeld ?_;simp only [rwA]
           refine rwT 4 (.pointer (some ⟨g,o+k*3,none⟩)) hHeld ?_;simp only [rwA]
           refine rwT 5 (.pointer (some ⟨g,o+k*3,none⟩)) hHeld ?_;simp only [rwA]
           refine rwT 6 (.string ks) hHeld ?_;simp only [rwA]
           refine rwT 7 (.slice (some ⟨g,o,none⟩) l.length d) hHeld ?_;simp only [rwA]
           refine rwT 8 (.int .i64 (k:Int)) hHeld ?_;simp only [rwA]
           refine rwT 9 (.pointer (some ⟨g,o+k*3,none⟩)) hHeld ?_;simp only [rwA]
           refine rwT 10 (.pointer (some ⟨g,o+k*3+1,none⟩)) hHeld ?_;simp only [rwA]
           refine rwT 11 (.string vs) hHeld ?_;simp only [rwA]
           refine ah 12 rfl (by kernel_rfl) (fun K hK=> ?_)
           go_simp
           go_at_call 150
           refine (hdata.out _).mono ?_
           rintro e w7 ⟨rfl,k7⟩
           have hS7:w7.cell? ⟨g,o+k*3,none⟩=some (.string ks)∧w7.cell? ⟨g,o+k*3+1,none⟩=some (.string vs):=⟨k7.cell hS.1 (by simp),k7.cell hS.2 (by simp)⟩
           have hm7:=hmd.keep k7
           clear hmd k7 kd hS
           go_wp2_with fail
           refine hK.out _ _ hS7 (fun hHeld=> ?_)
           clear hK K
           refine rwT 13 (.pointer (some ⟨tb,r.at_,none⟩)) hHeld ?_;simp only [rwA]
           obtain⟨u2,f2⟩:=hm7.atT (i:=r.at_) (by rw [hgood.QF];exact haN)
           have hm8:=hm7.QD r.at_ (yV key val)
           rw [aaH.out] at hm8
           have hS8:(w7.setCell ⟨tb,r.at_,none⟩ (.string pds)).cell? ⟨g,o+k*3,none⟩=some (.string ks)∧(w7.setCell ⟨tb,r.at_,none⟩ (.string pds)).cell? ⟨g,o+k*3+1,none⟩=some (.string vs):=by
            have ks8:Only [tb] w7 (w7.setCell ⟨tb,r.at_,none⟩ (.string pds)):=Only.set w7 [tb] (by simp) _
            have hgt:g∉[tb]:=by have:=hm7.Wj;simp;omega
            exact⟨ks8.cell hS7.1 hgt,ks8.cell hS7.2 hgt⟩
           obtain⟨u3,f3⟩:=hm8.atV (i:=r.at_) (by simp only;rw [hgood.lenV];exact haN)
           have hm9:=hm8.Vg r.at_ true
           simp only at u2 u3 hm9
           generalize strOf (st.texts[r.at_]'(by rw [hgood.QF];exact haN))=ob2 at *
           generalize st.turned[r.at_]'(by rw [hgood.lenV];exact haN)=ob3 at *
           replace hm9:=Lib.hid hm9
           clear hm8 hm7
           refine ah 14 rfl (by kernel_rfl) (fun K hK=> ?_)
           go_simp
           refine hK.out _ _ hS8 (fun hHeld=> ?_)
           clear hK K
           refine wpAnyH_done (by kernel_rfl) ?_ _
           clear hHeld
           clear hS7 hS8 u2 f2
           go_wp2
           go_roundw
           case rel=>exact⟨k+1,_,by omega,by go_num,hnx,Zm,hm9.out⟩
           case measure=>simp [intOf];omega
        ·have hfn:aK st.now key=none:=dJ.2 hno
         have ZY:FV st ⟨key,val,false⟩=if jG st.used=st.used.length then none else
           some ⟨xI ⟨key,val,jG st.used⟩ st.now,st.used.set (jG st.used) true,st.texts.set (jG st.used) (yV key val),st.turned.set (jG st.used) true⟩:=by
          unfold FV
          simp only [Bool.false_eq_true,if_false]
          rw [hfn]
         have hput:=fun W' V (a:Nat) (kk:uD w W' ub tb vb V ⟨st.now,st.used.set a true,st.texts,st.turned⟩)=>RG kk.now ⟨key,val,a⟩ (by simp only;omega) hno
         simp only at hput
         rw [hks.out,hvs.out] at hput
         replace hput:=Lib.hid hput
         replace hfn:=Lib.hid hfn
         replace ZY:=Lib.hid ZY
         have hvv:=hv.out
         clear hno hvl hform hv
         subst hvv
         go_wp2
         go_quiet (fail)
         have kq:=(Only.refl [] w2).drewN nq
         have hm3:=hm2.keep kq
         have y0q:=kq.cell y0 (by simp)
         have y1q:=kq.cell y1 (by simp)
         clear hm2 y0 y1 y2 kq
         generalize w2.drewN nq=w3 at *
         go_wp2
         go_loopw [20] (fun a wr'=>∃ j:Nat,j≤N∧a = .int .i64 j∧Hid (∀ q,q<j→st.used[q]?=some true)∧wr'=w3) (fun a _=>N-(intOf a).toNat)
         case atStart=>exact⟨0,Nat.zero_le _,rfl,fun q hq=>by omega,rfl⟩
         case round=>
          obtain⟨j,hj,rfl,hbe,hwe⟩:=hrel
          subst hwe
          by_cases hjN:j<N
          ·have hju:j<st.used.length:=by rw [hgood.Vj];exact hjN
           obtain⟨u1,f1⟩:=hm3.atU hju
           have hug:st.used[j]?=some st.used[j]:=List.getElem?_eq_getElem hju
           have hjI:(j:Int)<(N:Int):=by omega
           cases hu:st.used[j] with
           | true=>
            rw [hu] at u1
            have aeV:Hid (∀ q,q<j+1→st.used[q]?=some true):=fun q hq=>by
             by_cases hqj:q=j
             ·rw [hqj,hug,hu]
             ·exact hbe.out q (by omega)
            replace hug:=Lib.hid hug
            replace hu:=Lib.hid hu
            clear hbe
            go_wp2
            go_roundw
            case rel=>exact⟨j+1,by omega,by go_num,aeV,by trivial⟩
            case measure=>simp [intOf];omega
           | false=>
            rw [hu] at u1
            have hff:jG st.used=j:=rU _ _ hbe.out (.inl (by rw [hug,hu]))
            have hpp:=ZY.out
            rw [hff,if_neg (by omega)] at hpp
            have Zm:=hgn _ hpp
            rw [hpp] at hnext
            have hnx:Hid (lS sD (l.take (k+1))=some ⟨xI ⟨key,val,j⟩ st.now,st.used.set j true,st.texts.set j (yV key val),st.turned.set j true⟩):=hnext
            have haN:=hjN
            have afz:¬(j:Int)=(N:Int):=by omega
            replace hug:=Lib.hid hug
            replace hu:=Lib.hid hu
            replace hff:=Lib.hid hff
            have hm4:=hm3.abN j true
            have ug:Only [ub] wr (wr.setCell ⟨ub,j,none⟩ (.bool true)):=Only.set wr [ub] (by simp) _
            have hub:=hm3.Yg
            have x0A:=ug.cell y0q (by simp;omega)
            have x1A:=ug.cell y1q (by simp;omega)
            clear hpp hnext hgn ZY hfn hbe hm3 ug
            go_wp2_with fail
            generalize hwB:wr.setCell ⟨ub,j,none⟩ (.bool true)=wB at *
            replace hwB:=Lib.hid hwB
            have kd:Only [] wB wB.drew:=(Only.refl [] wB).drew
            have hm5:=hm4.keep kd
            have hS:wB.drew.cell? ⟨g,o+k*3,none⟩=some (.string ks)∧wB.drew.cell? ⟨g,o+k*3+1,none⟩=some (.string vs):=⟨kd.cell x0A (by simp),kd.cell x1A (by simp)⟩
            clear x0A x1A hm4 kd y0q y1q u1 f1
            refine wp_region_held_drew (S:=fun w'=>w'.cell? ⟨g,o+k*3,none⟩=some (.string ks)∧w'.cell? ⟨g,o+k*3+1,none⟩=some (.string vs)) (by kernel_rfl) hS (fun hHeld=> ?_)
            refine rwT 0 (.slice A3 st.now.length c3) hHeld ?_;simp only [rwA]
            refine rwT 1 (.slice (some ⟨g,o,none⟩) l.length d) hHeld ?_;simp only [rwA]
            refine rwT 2 (.int .i64 (k:Int)) hHeld ?_;simp only [rwA]
            refine rwT 3 (.pointer (some ⟨g,o+k*3,none⟩)) hHeld ?_;simp only [rwA]
            refine rwT 4 (.pointer (some ⟨g,o+k*3,none⟩)) hHeld ?_;simp only [rwA]
            refine rwT 5 (.string ks) hHeld ?_;simp only [rwA]
            refine rwT 6 (.slice (some ⟨g,o,none⟩) l.length d) hHeld ?_;simp only [rwA]
            refine rwT 7 (.int .i64 (k:Int)) hHeld ?_;simp only [rwA]
            refine rwT 8 (.pointer (some ⟨g,o+k*3,none⟩)) hHeld ?_;simp only [rwA]
            refine rwT 9 (.pointer (some ⟨g,o+k*3+1,none⟩)) hHeld ?_;simp only [rwA]
            refine rwT 10 (.string vs) hHeld ?_;simp only [rwA]
            refine rwT 11 (.int .i64 (j:Int)) hHeld ?_;simp only [rwA]
            refine rwT 12 (.agg #[.string ks,.string vs,.int .i64 (j:Int)]) hHeld ?_;simp only [rwA]
            refine ah 13 rfl (by kernel_rfl) (fun K hK=> ?_)
            go_simp
            go_at_call 103
            refine (hput.out _ _ j hm5).mono ?_
            rintro e wA ⟨v5,rfl,hm6⟩
            have x0A:=hm6.only.cell hS.1 (by simp)
            have x1A:=hm6.only.cell hS.2 (by simp)
            have hmA:=hm5.lay hm6
            simp only at hmA
            clear hm5 hm6 hput
            go_wp2_with fail
            refine hK.out _ _ ⟨x0A,x1A⟩ (fun hHeld=> ?_)
            clear hK K
            refine rwT 14 (v5) hHeld ?_;simp only [rwA]
            refine wpAnyH_done (by kernel_rfl) ?_ _
            clear hHeld
            clear hS
            have kd:Only [] wA wA.drew:=(Only.refl [] wA).drew
            have hS:wA.drew.cell? ⟨g,o+k*3,none⟩=some (.string ks)∧wA.drew.cell? ⟨g,o+k*3+1,none⟩=some (.string vs):=⟨kd.cell x0A (by simp),kd.cell x1A (by simp)⟩
            have hmd:=hmA.keep kd
            clear hmA x0A x1A
            go_wp2_with fail
            refine wp_region_held_drew (S:=fun w'=>w'.cell? ⟨g,o+k*3,none⟩=some (.string ks)∧w'.cell? ⟨g,o+k*3+1,none⟩=some (.string vs)) (by kernel_rfl) hS (fun hHeld=> ?_)
            refine rwT 0 (.slice (some ⟨tb,0,none⟩) N N) hHeld ?_;simp only [rwA]
            refine rwT 1 (.int .i64 (j:Int)) hHeld ?_;simp only [rwA]
            refine rwT 2 (.slice (some ⟨g,o,none⟩) l.length d) hHeld ?_;simp only [rwA]
            refine rwT 3 (.int .i64 (k:Int)) hHeld ?_;simp only [rwA]
            refine rwT 4 (.pointer (some ⟨g,o+k*3,none⟩)) hHeld ?_;simp only [rwA]
            refine rwT 5 (.pointer (some ⟨g,o+k*3,none⟩)) hHeld ?_;simp only [rwA]
            refine rwT 6 (.string ks) hHeld ?_;simp only [rwA]
            refine rwT 7 (.slice (some ⟨g,o,none⟩) l.length d) hHeld ?_;simp only [rwA]
            refine rwT 8 (.int .i64 (k:Int)) hHeld ?_;simp only [rwA]
            refine rwT 9 (.pointer (some ⟨g,o+k*3,none⟩)) hHeld ?_;simp only [rwA]
            refine rwT 10 (.pointer (some ⟨g,o+k*3+1,none⟩)) hHeld ?_;simp only [rwA]
            refine rwT 11 (.string vs) hHeld ?_;simp only [rwA]
            refine ah 12 rfl (by kernel_rfl) (fun K hK=> ?_)
            go_simp
            go_at_call 150
            refine (hdata.out _).mono ?_
            rintro e w7 ⟨rfl,k7⟩
            have hS7:w7.cell? ⟨g,o+k*3,none⟩=some (.string ks)∧w7.cell? ⟨g,o+k*3+1,none⟩=some (.string vs):=⟨k7.cell hS.1 (by simp),k7.cell hS.2 (by simp)⟩
            have hm7:=hmd.keep k7
            clear hmd k7 kd hS
            go_wp2_with fail
            refine hK.out _ _ hS7 (fun hHeld=> ?_)
            clear hK K
            refine rwT 13 (.pointer (some ⟨tb,j,none⟩)) hHeld ?_;simp only [rwA]
            obtain⟨u2,f2⟩:=hm7.atT (i:=j) (by rw [hgood.QF];exact haN)
            have hm8:=hm7.QD j (yV key val)
            rw [aaH.out] at hm8
            have hS8:(w7.setCell ⟨tb,j,none⟩ (.string pds)).cell? ⟨g,o+k*3,none⟩=some (.string ks)∧(w7.setCell ⟨tb,j,none⟩ (.string pds)).cell? ⟨g,o+k*3+1,none⟩=some (.string vs):=by
             have ks8:Only [tb] w7 (w7.setCell ⟨tb,j,none⟩ (.string pds)):=Only.set w7 [tb] (by simp) _
             have hgt:g∉[tb]:=by have:=hm7.Wj;simp;omega
             exact⟨ks8.cell hS7.1 hgt,ks8.cell hS7.2 hgt⟩
            obtain⟨u3,f3⟩:=hm8.atV (i:=j) (by simp only;rw [hgood.lenV];exact haN)
            have hm9:=hm8.Vg j true
            simp only at u2 u3 hm9
            generalize strOf (st.texts[j]'(by rw [hgood.QF];exact haN))=ob2 at *
            generalize st.turned[j]'(by rw [hgood.lenV];exact haN)=ob3 at *
            replace hm9:=Lib.hid hm9
            clear hm8 hm7
            refine ah 14 rfl (by kernel_rfl) (fun K hK=> ?_)
            go_simp
            refine hK.out _ _ hS8 (fun hHeld=> ?_)
            clear hK K
            refine wpAnyH_done (by kernel_rfl) ?_ _
            clear hHeld
            clear hS7 hS8 u2 f2
            go_wp2
            go_roundw
            case rel=>exact⟨k+1,_,by omega,by go_num,hnx,Zm,hm9.out⟩
            case measure=>simp [intOf];omega
          ·obtain rfl:j=N:=by omega
           have hff:jG st.used=j:=rU _ _ hbe.out (.inr hgood.Vj.symm)
           have hpp:=ZY.out
           rw [hff,if_pos hgood.Vj.symm] at hpp
           rw [hpp] at hnext
           have hno:Hid (tZ j M l=none):=Sm (k:=k+1) (by rw [←hD.out];exact hnext)
           have dw:=hm3.only
           have hge:¬(j:Int)<(j:Int):=by omega
           replace hff:=Lib.hid hff
           clear hpp hnext hgn ZY hfn hbe hm3
           go_wp2
           go_ret3
           exact CZ.no hno.out dw
      ·obtain rfl:k=l.length:=by omega
       rw [List.take_length] at hst
       have hge:¬(l.length:Int)<(l.length:Int):=by omega
       have hsome:=Lib.hid (Sl (N:=N) (M:=M) (l:=l) (st:=st) (by rw [←hD.out];exact hst.out))
       have hg5:=Lib.hid hgood
       obtain⟨wB,hwB⟩:∃ wB:World,wB=wr:=⟨_,rfl⟩
       rw [←hwB] at hmem
       rw [←hwB]
       replace hwB:=Lib.hid hwB
       subst hv
       clear hform hel hc3 hA3
       go_wp2
       go_loopw [21,22] (fun u i wr'=>∃ j:Nat,j≤N∧i = .int .i64 j∧Mine bkE 2 184 wB wr' u (vF st j)) (fun _ i _=>N-(intOf i).toNat)
       case atStart=>exact⟨0,Nat.zero_le _,rfl,Mine.start _ _ _ (Only.refl _ _)⟩
       case round=>
        obtain⟨j,hj,rfl,aG⟩:=hrel
        have hup:=Qw st j
        have hUl:(vF st j).length≤j:=by
         unfold vF
         rw [List.length_map]
         exact Nat.le_trans (List.length_filter_le _ _) (by simp)
        generalize hU:vF st j=U at *
        generalize hU2:vF st (j+1)=U2 at *
        replace hU:=Lib.hid hU
        replace hU2:=Lib.hid hU2
        have hmk:=hmem.keep aG.only
        by_cases hlt:j<N
        ·have hjI:(j:Int)<(N:Int):=by omega
         have hjV:j<st.turned.length:=by rw [hgood.lenV];exact hlt
         have hjT:j<st.texts.length:=by rw [hgood.QF];exact hlt
         obtain⟨v1,_⟩:=hmk.atV hjV
         obtain⟨t1,_⟩:=hmk.atT hjT
         have e1:st.turned.getD j false=st.turned[j]:=by rw [List.getD_eq_getElem?_getD,List.getElem?_eq_getElem hjV];rfl
         have e2:st.texts.getD j []=st.texts[j]:=by rw [List.getD_eq_getElem?_getD,List.getElem?_eq_getElem hjT];rfl
         rw [e1,e2] at hup
         clear e1 e2
         generalize st.turned[j]=b at *
         generalize st.texts[j]=tx at *
         cases b with
         | false=>
          have hup':U2=U:=by rw [hup];rfl
          rw [←hup'] at aG
          replace hup':=Lib.hid hup'
          clear hup hmk
          go_wp2
          go_roundw
          case rel=>exact⟨j+1,by omega,by go_num,by rw [hU2.out];exact aG⟩
          case measure=>simp [intOf];omega
         | true=>
          have hup':U2=U++[⟨(j:Int),tx⟩]:=by rw [hup];rfl
          have henc:bkE ⟨(j:Int),tx⟩ = [.int .i64 (j:Int),.string (strOf tx)]:=rfl
          generalize htx:strOf tx=ts at *
          replace htx:=Lib.hid htx
          have b6:Blk (wr.alloc (.cells #[.int .i64 (j:Int),.string ts] 184)) wr.heap.size 184 (bkE ⟨(j:Int),tx⟩).toArray:=by
           rw [henc]
           exact Blk.new _ _ _
          have hm6:=aG.keep ((Only.refl [] wr).alloc (.cells #[.int .i64 (j:Int),.string ts] 184))
          replace hup':=Lib.hid hup'
          replace henc:=Lib.hid henc
          clear hup aG hmk
          go_wp2_with (at_builtin;go_must (refine dH rfl _ _ 99 rfl 184 _ 24 tV (by decide) U3 Tryz.underlying99 TP rfl _ U.length U rfl hm6.own wr.heap.size ⟨(j:Int),tx⟩ _ rfl b6 (by unfold maxLen;omega) (by omega) ?_);intro vv' w8 h8 g8 a8)
          have hm8:=hm6.pushed h8 g8 a8
          rw [←hup'.out] at hm8
          clear h8 g8 a8 hm6 b6 v1 t1
          go_wp2
          go_roundw
          case rel=>exact⟨j+1,by omega,by go_num,by rw [hU2.out];exact hm8⟩
          case measure=>simp [intOf];omega
        ·obtain rfl:j=N:=by omega
         have hge:¬(j:Int)<(j:Int):=by omega
         have hs2:=hsome.out
         rw [hU.out] at hs2
         have hn1:=hmk.now
         have hn2:=fV.from hmem.only (aG.els tV)
         have hfin:=Lib.hid (CZ.yes hs2 hn1 hn2)
         clear hs2 hn1 hn2 hmk aG hup
         go_wp2
         go_ret3
         exact hfin.out
end Go.Proofs.YtmelaiefbpdifaaGreatDoor
namespace Go.Proofs.YtmelaiefbpdifaaGreatDoor
open Go.RowKit
theorem Like.au:∀ (l:List Bk) {s t:St},Like s t→(au s l).1=(au t l).1∧Like (au s l).2 (au t l).2
 | [],_,_,h=>⟨h.dW,h.bD⟩
 | x :: r,s,t,h=>by
  have e:=h.aI x.at_ x.data
  have hw:=h.written x.at_ x.data
  rw [Go.Proofs.YtmelaiefbpdifaaGreatDoor.au,Go.Proofs.YtmelaiefbpdifaaGreatDoor.au,←e]
  split
  ·exact Like.au r hw
  ·exact⟨rfl,hw⟩
theorem Like.aH{s t:St}(h:Like s t)(n:Nat)(l:List Bk):(aH s n l).1=(aH t n l).1∧Like (aH s n l).2 (aH t n l).2:=by
 have h1:=Like.au (aB (homesOf (n+1) l)) h
 have h2:=Like.au [⟨0,dY (n+1) l.length⟩] h1.2
 have h3:=Like.au (homesOf (n+1) l) h2.2
 unfold Go.Proofs.YtmelaiefbpdifaaGreatDoor.aH
 rw [←h1.1,←h2.1]
 split
 ·exact h1
 ·split
  ·exact h2
  ·exact h3
theorem Like.commits{s t s' t':St}(h:Like s t){n n1 n2:Nat}{f f1 f2:Bool}{l:List Bk}{x y:Int}(hs:bV s n f l x s' n1 f1)(ht:bV t n f l y t' n2 f2):x=y∧Like s' t'∧n1=n2∧f1=f2:=by
 have hN:((s.aA.length:Int)-41)=((t.aA.length:Int)-41):=by rw [h.1]
 have hc:=h.aH n l
 have uniq:∀ {a b:Int},gX ((t.aA.length:Int)-41) f n l a→gX ((t.aA.length:Int)-41) f n l b→a=b:=by
  intro a b ha hb
  rcases ha with⟨a1,a2⟩ | ⟨a1,a2,a3⟩ | ⟨a1,a2,a3,a4⟩ | ⟨a1,a2,a3,a4⟩<;>rcases hb with⟨b1,b2⟩ | ⟨b1,b2,b3⟩ | ⟨b1,b2,b3,b4⟩ | ⟨b1,b2,b3,b4⟩<;>first
   | (exact absurd a1 b1) | (exact absurd b1 a1) | omega | (rw [a2] at b2;exact absurd b2 (by decide)) | (exact absurd a3 b3) | (exact absurd b3 a3)
 unfold bV at hs ht
 rw [hN] at hs
 rcases hs with⟨a1,a2,rfl,rfl,rfl⟩ | ⟨a1,a2,rfl,a4⟩
 ·rcases ht with⟨b1,b2,rfl,rfl,rfl⟩ | ⟨b1,b2,rfl,b4⟩
  ·exact⟨uniq a2 b2,h,rfl,rfl⟩
  ·exact absurd (uniq a2 b1) a1
 ·rcases ht with⟨b1,b2,rfl,rfl,rfl⟩ | ⟨b1,b2,rfl,b4⟩
  ·exact absurd (uniq b2 a1) b1
  ·have hxy:x=y:=by rw [a2,b2];exact hc.1
   refine⟨hxy,hc.2,?_⟩
   rcases a4 with⟨c1,rfl,rfl⟩ | ⟨c1,rfl,rfl⟩<;>rcases b4 with⟨d1,rfl,rfl⟩ | ⟨d1,rfl,rfl⟩
   ·exact⟨rfl,rfl⟩
   ·omega
   ·omega
   ·exact⟨rfl,rfl⟩
theorem Like.gK{s t:St}(h:Like s t)(n k:Nat):gK s n k=gK t n k:=by
 obtain⟨f1,l1,u1,d1⟩:=s
 obtain⟨f2,l2,u2,d2⟩:=t
 obtain⟨h1,h2,_⟩:=h
 simp only at h1 h2
 subst h1;subst h2
 rfl
theorem Like.bI{s t:St}(h:Like s t)(k:Nat):bI s k=bI t k:=by
 unfold Go.Proofs.YtmelaiefbpdifaaGreatDoor.bI
 rw [h.1,h.2.1]
theorem Like.opens{s t:St}(h:Like s t):aY s=aY t∧Like (aJ s) (aJ t)∧fF s=fF t:=by
 have hl:fA s=fA t:=by unfold fA;rw [h.gK,h.bI]
 have hn:fF s=fF t:=by unfold fF;rw [h.bI]
 have hw:=Like.au (fA t) h
 unfold aY aJ
 rw [hl,h.1,h.2.2.1,hn]
 split
 ·exact⟨rfl,h,rfl⟩
 ·split
  ·exact⟨rfl,h,rfl⟩
  ·split
   ·exact⟨rfl,h,rfl⟩
   ·exact⟨hw.1,hw.2,rfl⟩
theorem DC{s s':St}{n n':Nat}{f f':Bool}{l:List Bk}{x:Int}(h:bV s n f l x s' n' f'):s'.late.length≤s.late.length+100∧s'.aA.length=s.aA.length∧(n<4294967296→n'<4294967296):=by
 rcases h with⟨_,_,rfl,rfl,_⟩ | ⟨hr,_,rfl,h4⟩
 ·exact⟨by omega,rfl,id⟩
 ·have hrl:l.length≤40∧n≠4294967295:=by
   rcases hr with⟨_,h⟩ | ⟨_,_,h⟩ | ⟨_,_,_,h⟩ | ⟨h,_,h2,_⟩
   ·cases h
   ·cases h
   ·cases h
   ·exact⟨h.2.1,h2⟩
  have g1:=gJ (aB (homesOf (n+1) l)) s
  have g2:=gJ [⟨0,dY (n+1) l.length⟩] (au s (aB (homesOf (n+1) l))).2
  have g3:=gJ (homesOf (n+1) l) (au (au s (aB (homesOf (n+1) l))).2 [⟨0,dY (n+1) l.length⟩]).2
  have k1:=aQ (aB (homesOf (n+1) l)) s
  have k2:=aQ [⟨0,dY (n+1) l.length⟩] (au s (aB (homesOf (n+1) l))).2
  have k3:=aQ (homesOf (n+1) l) (au (au s (aB (homesOf (n+1) l))).2 [⟨0,dY (n+1) l.length⟩]).2
  rw [gW,dM] at g1
  rw [dM] at g3
  simp only [List.length_singleton] at g2
  refine⟨?_,?_,fun hn=> ?_⟩
  ·unfold Go.Proofs.YtmelaiefbpdifaaGreatDoor.aH
   split
   ·omega
   ·split
    ·omega
    ·omega
  ·unfold Go.Proofs.YtmelaiefbpdifaaGreatDoor.aH
   split
   ·exact k1
   ·split
    ·omega
    ·omega
  ·rcases h4 with⟨_,rfl,_⟩ | ⟨_,rfl,_⟩<;>omega
theorem Lp(s:St):(aJ s).late.length≤s.late.length+40∧(aJ s).aA.length=s.aA.length:=by
 have h1:=gJ (fA s) s
 have h2:=aQ (fA s) s
 have h3:=Jb s
 unfold aJ
 split
 ·exact⟨by omega,rfl⟩
 ·split
  ·exact⟨by omega,rfl⟩
  ·split
   ·exact⟨by omega,rfl⟩
   ·exact⟨by omega,h2⟩
theorem Did.only{w w':World}{p:Nat}{F:List Nat}{s:St}(h:Did w w' p F s):Only F w w':=by
 obtain⟨_,_,h,_⟩:=h
 exact h
theorem eF.only{w w':World}{p:Nat}{F:List Nat}{s:St}(h:eF w w' p F s):Only F w w':=by
 obtain⟨_,_,h,_⟩:=h
 exact h
theorem Like.dP{s t:St}(h:Like s t):dP s=dP t:=by
 unfold Go.Proofs.YtmelaiefbpdifaaGreatDoor.dP
 rw [h.1]
 refine List.map_congr_left fun j _=> ?_
 rw [h.bI]
end Go.Proofs.YtmelaiefbpdifaaGreatDoor
namespace Go.Proofs.YtmelaiefbpdifaaGreatDoor
open Go.RowKit Go.Maps
theorem zn{L:List (List UInt8)}:∀ (k:Nat) (M:List Rw),k≤L.length→dR [] (L.take k) 0=some M→Good k M
 | 0,M,_,h=>by
  simp only [List.take_zero,dR,Option.some.injEq] at h
  subst h
  exact Good.nil 0
 | k+1,M,hk,h=>by
  have hlt:k<L.length:=by omega
  rw [nI hlt] at h
  cases hl:dR [] (L.take k) 0 with
  | none=>rw [hl] at h;cases h
  | some M0=>
   rw [hl] at h
   have ih:=zn k M0 (by omega) hl
   unfold mQ at h
   simp only at h
   split at h
   ·injection h with h
    subst h
    exact⟨ih.sorted,fun r hr=>by have:=ih.jE r hr;omega,ih.small,ih.inj⟩
   ·split at h
    ·cases h
    ·rename_i x hx
     split at h
     ·cases h
     ·rename_i hf
      have hf':aK M0 x.1=none:=by simpa using hf
      rw [FT hf'] at h
      injection h with h
      subst h
      have hsm:=yR (k:=x.1) (v:=x.2) hx
      refine⟨pJ ih.sorted (dJ.1 hf'),fun r hr=> ?_,fun r hr=> ?_,fun r hr r' hr' e=> ?_⟩
      ·rcases nG.1 hr with rfl | hr
       ·exact Nat.lt_succ_self k
       ·have:=ih.jE r hr;omega
      ·rcases nG.1 hr with rfl | hr
       ·exact hsm
       ·exact ih.small r hr
      ·rcases nG.1 hr with rfl | hr<;>rcases nG.1 hr' with rfl | hr'
       ·rfl
       ·have:=ih.jE r' hr'
        simp only at e
        omega
       ·have:=ih.jE r hr
        simp only at e
        omega
       ·exact ih.inj r hr r' hr' e
theorem PD{L:List (List UInt8)}{M:List Rw}(h:eY L=some M):Good L.length M:=by
 refine zn L.length M (Nat.le_refl _) ?_
 rw [List.take_length]
 exact h
end Go.Proofs.YtmelaiefbpdifaaGreatDoor
