/- Joined: Ex13, Ey13, Ez13 -/
import Derived.Test.YtmelaiefbpdifaaGreatDoorHTk13
import Derived.Test.YtmelaiefbpdifaaGreatDoorHK8
namespace Go.Proofs.YtmelaiefbpdifaaGreatDoor.Srv
open Go.RowKit Go.Maps
open Pgs (Pg)
theorem J6{N:Nat}{M M':List Rw}{s s':St}{n n':Nat}{f':Bool}{l:List Ch}{x:Int}(h:dN N M s n false l x M' s' n' f'):0≤x∧x≤25:=by
 rcases h with⟨_,rfl,_⟩ | ⟨_,_,rfl,_⟩ | ⟨_,_,_,rfl,_⟩ | ⟨_,_,_,ss,_,_,hc,_⟩
 ·decide
 ·decide
 ·decide
 ·rcases hc with⟨_,hR,_⟩ | ⟨_,_,_,hx⟩
  ·rcases hR with⟨_,rfl⟩ | ⟨_,_,rfl⟩ | ⟨_,_,_,rfl⟩ | ⟨_,_,_,rfl⟩<;>decide
  ·rcases hx with⟨rfl,_⟩ | ⟨rfl,_⟩<;>decide
theorem KU{N:Nat}{s s':St}{n n':Nat}{f':Bool}{σ σ':Sv}{x:Nat}{o:List Pg}{ch:List Ch}{e:Int}(h:iH (C5 N s n s' n' f') σ x o ch e σ'):0≤e∧e≤25:=by
 obtain⟨M',hc,_⟩:=h
 exact J6 hc
theorem UF{C:Com}{σ σ':Sv}{p:Pk}{d:List UInt8}{e:Int}(hC:∀ x o ch σ',iH C σ x o ch e σ'→0≤e∧e≤25)(h:Did C σ p d e σ'):0≤e∧e≤25:=by
 unfold Did at h
 split at h
 ·obtain⟨_,rfl,_⟩:=h
  unfold wrE
  split
  ·decide
  ·split
   ·decide
   ·split<;>decide
 ·split at h
  ·obtain⟨_,rfl,_⟩:=h
   unfold rdE
   split
   ·decide
   ·split<;>decide
  ·split at h
   ·obtain⟨_,h⟩:=h
    split at h
    ·obtain⟨rfl,_⟩:=h;decide
    ·exact hC _ _ _ _ h
   ·split at h
    ·obtain⟨_,h⟩:=h
     split at h
     ·obtain⟨rfl,_⟩:=h;decide
     ·split at h
      ·obtain⟨rfl,_⟩:=h;decide
      ·split at h
       ·obtain⟨rfl,_⟩:=h;decide
       ·exact hC _ _ _ _ h
    ·obtain⟨_,h⟩:=h
     split at h
     ·obtain⟨rfl,_⟩:=h;decide
     ·exact hC _ _ _ _ h
theorem XO{σ σ':Sv}{s s':St}{n n':Nat}{f':Bool}{p:Pk}{d:List UInt8}{e:Int}(h:ac1 σ s n p d e σ' s' n' f'):0≤e∧e≤25:=by
 rcases h with⟨h,_⟩ | ⟨h,_⟩
 ·exact UF (fun x o ch σ' hs=>by obtain⟨_,hc,_⟩:=hs;exact hc.elim) h
 ·exact UF (fun x o ch σ' hs=>KU hs) h
theorem Oo{C:Com}{σ σ':Sv}{p:Pk}{d:List UInt8}{e:Int}(h:Did C σ p d e σ'):σ'.N=σ.N∧σ'.me=σ.me∧σ'.jC=σ.jC∧σ'.up=σ.up∧σ'.seat=σ.seat:=by
 have hs:∀ x o ch,iH C σ x o ch e σ'→σ'.N=σ.N∧σ'.me=σ.me∧σ'.jC=σ.jC∧σ'.up=σ.up∧σ'.seat=σ.seat:=fun x o ch h=>by
  obtain⟨M',_,rfl⟩:=h
  exact⟨rfl,rfl,rfl,rfl,rfl⟩
 have hi:σ'=σ→σ'.N=σ.N∧σ'.me=σ.me∧σ'.jC=σ.jC∧σ'.up=σ.up∧σ'.seat=σ.seat:=fun h=>by subst h;exact⟨rfl,rfl,rfl,rfl,rfl⟩
 unfold Did at h
 split at h
 ·obtain⟨_,_,rfl⟩:=h
  unfold wrS
  split<;>exact⟨rfl,rfl,rfl,rfl,rfl⟩
 ·split at h
  ·exact hi h.2.2
  ·split at h
   ·obtain⟨_,h⟩:=h
    split at h
    ·exact hi h.2
    ·exact hs _ _ _ h
   ·split at h
    ·obtain⟨_,h⟩:=h
     split at h
     ·exact hi h.2
     ·split at h
      ·exact hi h.2
      ·split at h
       ·exact hi h.2
       ·exact hs _ _ _ h
    ·obtain⟨_,h⟩:=h
     split at h
     ·exact hi h.2
     ·exact hs _ _ _ h
theorem UE{σ σ':Sv}{s s':St}{n n':Nat}{f':Bool}{p:Pk}{d:List UInt8}{e:Int}(h:ac1 σ s n p d e σ' s' n' f'):σ'.N=σ.N∧σ'.me=σ.me∧σ'.jC=σ.jC∧σ'.up=σ.up∧σ'.seat=σ.seat:=by
 rcases h with⟨h,_⟩ | ⟨h,_⟩<;>exact Oo h
theorem RV{σ:Sv}{p:Pk}{c:Nat}(hσ:σ.Ok c)(hp:p.Ok)(d:List UInt8)(er:Int)(h0:0≤er∧er≤25):(iD σ p d er).Ok:=by
 have hm:=hσ.me
 have hz:U 0:=by unfold U;decide
 have hf:I p.frm:=hp.frm
 refine⟨?_,?_,?_,?_,?_,?_,?_,?_,?_,?_,?_,?_,?_,?_,?_,?_,?_⟩
 ·show I 2;unfold I;decide
 ·show I σ.me;unfold I;omega
 ·exact hf
 ·exact hp.life
 ·exact hp.seq
 ·exact hp.asked
 ·exact hσ.jC
 ·exact hp.code
 ·show I er;unfold I;omega
 ·exact hp.file
 all_goals exact hz
theorem KF(r:Pk):(lM r).size≤400:=by
 unfold lM
 split
 ·rename_i h
  rw [aj]
  exact MZ r h
 ·decide
theorem YT(σ:Sv)(p:Pk):(rdD σ p).length≤128:=by
 unfold rdD
 split
 ·rename_i h
  unfold rdE at h
  split at h
  ·omega
  ·split at h
   ·omega
   ·rename_i h1
    unfold Pgs.oV
    split
    ·rw [List.length_take];omega
    ·simp
 ·simp
section
variable {w w1:World}{R:List Nat}{sb dp n c rp mb lp lb:Nat}{σ:Sv}{s:St}{F:List Nat}{vs:Nat→Value}{D:DataW Value}
theorem dA.acQ(h:dA w w1 R sb dp σ s n false c rp mb lp lb F vs D)(hcc:c<1000000)(hn:n<4294967296)(bY:s.late.length+200≤1048576)(p:Pk)(hp:p.Ok)(hsz:p.data.size≤128)(h1:1≤p.code)(h5:p.code≤5):
  ∃ fid:FuncId,(∀ W,(Instr.index 213 (.agg Uj) (.int .i64 p.code)).run Tryz.prog W = .ok (fnV fid) W)∧(∀ W a b,(callFunc fid #[a,b]).run Tryz.prog W = .ok (.enter fid #[a,b]) W) ∧
   ∀ W,Only [] w1 W→Calls Tryz.prog fid #[.pointer (some ⟨sb,0,none⟩),pkV p] W fun e w'=>YF w W w' R sb dp σ s n c p e:=by
 have hk:p.code=1∨p.code=2∨p.code=3∨p.code=4∨p.code=5:=by omega
 rcases hk with hk | hk | hk | hk | hk
 ·exact⟨158,fun W=>by rw [hk];kernel_rfl,fun W a b=>by kernel_rfl,fun W k=>(h.keep k).aaf hcc p hp hsz hk⟩
 ·refine⟨159,fun W=>by rw [hk];kernel_rfl,fun W a b=>by kernel_rfl,fun W k=>((h.keep k).read p hp).mono ?_⟩
  rintro e w' ⟨rfl,k2⟩
  refine rZ ⟨rp,mb,lp,lb,F,vs,D,h.keep k⟩ hcc k2 ?_ (YT σ p)
  unfold Did
  rw [if_neg (by omega),if_pos hk]
  exact⟨rfl,rfl,rfl⟩
 ·exact⟨160,fun W=>by rw [hk];kernel_rfl,fun W a b=>by kernel_rfl,fun W k=>(h.keep k).ZL hcc hn bY p hp hk⟩
 ·exact⟨161,fun W=>by rw [hk];kernel_rfl,fun W a b=>by kernel_rfl,fun W k=>(h.keep k).aa3 hcc hn bY p hp hk⟩
 ·exact⟨162,fun W=>by rw [hk];kernel_rfl,fun W a b=>by kernel_rfl,fun W k=>(h.keep k).acT hcc hn bY p hp hk⟩
end
end Go.Proofs.YtmelaiefbpdifaaGreatDoor.Srv
namespace Go.Proofs.YtmelaiefbpdifaaGreatDoor.Srv
open Go.RowKit Go.Maps
open Pgs (Pg)
def ExM(w w1 w':World)(R:List Nat)(sb dp:Nat)(σ:Sv)(s:St)(n c:Nat)(p:Pk)(e:Ending):Prop:=
 ∃ r ok σ' s' n' f' R',e = .returned (.tuple #[pkV r,.bool ok]) ∧
  ((lg NoC σ p r ok σ'∧s'=s∧n'=n∧f'=false)∨(lg (C5 σ.N s n s' n' f') σ p r ok σ'∧∃ l er,dN σ.N σ.M s n false l er σ'.M s' n' f'∧σ'.up=if er=5 then false else σ.up)) ∧
  vO w w' R' sb dp σ' s' n' f' (c+1)∧Only R w1 w'∧∀ j∈R',j∈R∨w1.heap.size≤j
theorem FM(f:Nat→Sat):(DW f).length=768:=by
 unfold DW
 rw [List.length_flatten,List.map_map]
 have:(List.map (List.length ∘ fun k=>seatE (f k)) (List.range 256))=List.map (fun _=>3) (List.range 256):=rfl
 rw [this]
 decide +kernel
theorem ER(f:Nat→List Value)(hf:∀ k,(f k).length=3):∀ (m k j:Nat),k<m→j<3→((List.range m).map f).flatten[k*3+j]?=(f k)[j]?
 | 0,_,_,h,_=>absurd h (Nat.not_lt_zero _)
 | m+1,k,j,h,hj=>by
  have hl:((List.range m).map f).flatten.length=m*3:=by
   have:∀ m,((List.range m).map f).flatten.length=m*3:=fun m=>by
    induction m with
    | zero=>rfl
    | succ m ih=>rw [List.range_succ,List.map_append,List.flatten_append,List.length_append,ih];simp [hf];omega
   exact this m
  rw [List.range_succ,List.map_append,List.flatten_append]
  by_cases hk:k<m
  ·rw [List.getElem?_append_left (by rw [hl];omega)]
   exact ER f hf m k j hk hj
  ·have:k=m:=by omega
   subst this
   rw [List.getElem?_append_right (by rw [hl];omega),hl]
   have e:k*3+j-k*3=j:=by omega
   rw [e]
   simp
theorem VG(f:Nat→Sat)(k j:Nat)(hk:k<256)(hj:j<3):(DW f)[k*3+j]?=(seatE (f k))[j]?:=ER _ (fun _=>rfl) 256 k j hk hj
theorem uJ(σ:Sv)(rp lb k j:Nat)(hk:k<256)(hj:j<3):(jK σ rp lb).toArray[5+k*3+j]?=(seatE (σ.seat k))[j]?:=by
 rw [List.getElem?_toArray,show 5+k*3+j=(k*3+j)+5 by omega]
 unfold jK
 simp only [List.getElem?_cons_succ]
 exact VG _ k j hk hj
theorem oG{w:World}{sb rp lb:Nat}{σ:Sv}(h:Blk w sb 116 (jK σ rp lb).toArray)(k:Nat)(hk:k<256):
  w.cell? ⟨sb,5+k*3,none⟩=some (.int .u32 (σ.seat k).life)∧w.cell? ⟨sb,5+k*3+1,none⟩=some (.int .u32 (σ.seat k).seq)∧w.cell? ⟨sb,5+k*3+2,none⟩=some (.string (σ.seat k).reply):=
 ⟨(h.cell _).trans (uJ σ rp lb k 0 hk (by decide)),(h.cell _).trans (uJ σ rp lb k 1 hk (by decide)),(h.cell _).trans (uJ σ rp lb k 2 hk (by decide))⟩
def Rx(C:Array Value)(o:Nat):List Value→Array Value
 | []=>C
 | v :: r=>Rx (C.setIfInBounds o v) (o+1) r
theorem Blk.setCells{t:TypeId}{g:Nat}:∀ (vs:List Value) (o:Nat) {w:World} {C:Array Value},Blk w g t C→Blk (w.setCells g o vs) g t (Rx C o vs)
 | [],_,_,_,h=>h
 | v :: r,o,_,_,h=>Blk.setCells r (o+1) (Blk.set h o v)
theorem Only.setCells{S:List Nat}{a:World}{g:Nat}(hg:g∈S∨a.heap.size≤g):∀ (vs:List Value) (o:Nat) {w:World},Only S a w→Only S a (w.setCells g o vs)
 | [],_,_,h=>h
 | v :: r,o,_,h=>Only.setCells hg r (o+1) (_root_.Go.Proofs.YtmelaiefbpdifaaGreatDoor.Only.setCell h hg v)
theorem NC:∀ (vs:List Value) (C:Array Value) (o i:Nat),o+vs.length≤C.size→(Rx C o vs)[i]?=if o≤i∧i<o+vs.length then vs[i-o]? else C[i]?
 | [],C,o,i,_=>by
  rw [if_neg (by simp)]
  rfl
 | v :: r,C,o,i,h=>by
  rw [List.length_cons] at h
  show (Rx (C.setIfInBounds o v) (o+1) r)[i]?=_
  rw [NC r (C.setIfInBounds o v) (o+1) i (by rw [Array.size_setIfInBounds];omega),List.length_cons]
  by_cases h1:o=i
  ·subst h1
   rw [if_neg (by omega),if_pos (by omega),Array.getElem?_setIfInBounds,if_pos rfl,Nat.sub_self]
   simp
   omega
  ·by_cases h2:o+1≤i∧i<o+1+r.length
   ·rw [if_pos h2,if_pos (by omega),show i-o=(i-(o+1))+1 by omega,List.getElem?_cons_succ]
   ·rw [if_neg h2,if_neg (by omega),Array.getElem?_setIfInBounds,if_neg h1]
theorem FH(σ:Sv)(rp lb:Nat):(jK σ rp lb).toArray.size=773:=by
 rw [List.size_toArray]
 unfold jK
 simp only [List.length_cons,FM]
theorem YM(σ:Sv)(rp lb k:Nat)(hk:k<256)(x:Sat):Rx (jK σ rp lb).toArray (5+k*3) (seatE x)=(jK (kJ σ k x) rp lb).toArray:=by
 have hl:(seatE x).length=3:=rfl
 apply Array.ext_getElem?
 intro i
 rw [NC _ _ _ _ (by rw [FH,hl];omega),hl]
 by_cases hi:5+k*3≤i∧i<5+k*3+3
 ·rw [if_pos hi]
  obtain⟨j,hj⟩:∃ j,i=5+k*3+j:=⟨i-(5+k*3),by omega⟩
  subst hj
  rw [uJ (kJ σ k x) rp lb k j hk (by omega),Nat.add_sub_cancel_left]
  show _=(seatE (if k=k then x else σ.seat k))[j]?
  rw [if_pos rfl]
 ·rw [if_neg hi]
  by_cases h5:i<5
  ·have e:∀ τ:Sv,(jK τ rp lb).toArray[i]?=([Value.int .i64 τ.me,.int .u32 τ.jC,.bool τ.up,.pointer (some ⟨rp,0,none⟩),.map (some lb)]:List Value)[i]?:=fun τ=>by
    rw [List.getElem?_toArray]
    unfold jK
    match i,h5 with
    | 0,_=>rfl
    | 1,_=>rfl
    | 2,_=>rfl
    | 3,_=>rfl
    | 4,_=>rfl
   rw [e,e]
   rfl
  ·by_cases h3:i<773
   ·obtain⟨m,j,hm,hj,e⟩:∃ m j,m<256∧j<3∧i=5+m*3+j:=⟨(i-5) / 3,(i-5) % 3,by omega,by omega,by omega⟩
    subst e
    have hne:m≠k:=fun h=>hi (by subst h;omega)
    rw [uJ σ rp lb m j hm hj,uJ (kJ σ k x) rp lb m j hm hj]
    show _=(seatE (if m=k then x else σ.seat m))[j]?
    rw [if_neg hne]
   ·rw [Array.getElem?_eq_none (by rw [FH];omega),Array.getElem?_eq_none (by rw [FH];omega)]
theorem Rk{w:World}{sb rp lb:Nat}{σ:Sv}(h:Blk w sb 116 (jK σ rp lb).toArray)(k:Nat)(hk:k<256):w.there sb (5+k*3) 3:=fun j hj=>by
 refine⟨?_,h.free _⟩
 rw [h.cell,uJ σ rp lb k j hk hj]
 match j,hj with
 | 0,_=>rfl
 | 1,_=>rfl
 | 2,_=>rfl
theorem qR:(Tryz.prog.info? 113).map (·.size)=some 3:=by kernel_rfl
section
variable {w w1 w2:World}{R:List Nat}{sb dp n c rp mb lp lb:Nat}{σ τ:Sv}{s:St}{f:Bool}{F:List Nat}{vs:Nat→Value}{D:DataW Value}
theorem dA.headed(h:dA w w1 R sb dp σ s n f c rp mb lp lb F vs D)(k:Only [sb] w1 w2)(hb:Blk w2 sb 116 (jK τ rp lb).toArray)(hM:τ.M=σ.M)(hL:τ.L=σ.L)(hN:τ.N=σ.N)(hok:τ.Ok c):dA w w2 R sb dp τ s n f c rp mb lp lb F vs D:=by
 have hsb:=h.new sb (h.inR sb (by simp))
 have a2:=h.ap2
 simp only [List.mem_cons,not_or] at a2
 refine⟨?_,hb,?_,?_,h.ap1,h.ap2,h.ap3,h.inR,fun i hi=>⟨(h.new i hi).1,Nat.lt_of_lt_of_le (h.new i hi).2 k.size⟩,by rw [hN];exact h.len,hok,h.few⟩
 ·rw [hM]
  refine⟨h.own.own.beside k (h.only.then k (fun i hi=>.inr (by simp at hi;rw [hi];exact hsb.1))) (fun i hi hm=> ?_),h.own.rows.kept k (by simp;exact fun e=>a2.1 e.symm) (by simp;exact fun e=>a2.2.1 e.symm),h.own.ne1,h.own.ne2,h.own.ne3,h.own.out1,h.own.Ye,h.own.Vh,h.own.SI⟩
  simp at hi;rw [hi] at hm
  rcases List.mem_cons.1 hm with hm | hm
  ·exact a2.2.2.1 hm
  ·exact a2.2.2.2 hm
 ·rw [hL]
  exact h.loose.kept k (by simp;exact fun e=>h.ap1 e.symm)
 ·rw [hL]
  intro x o hx
  obtain⟨A,j,e1,e2,e3,e4⟩:=h.lists x o hx
  refine⟨A,j,e1,e2,e3.kept k (fun a ha hm=> ?_),e4⟩
  simp at hm
  have:=(e4 a ha).2
  rw [hm] at this
  simp at this
end
theorem OZ{σ:Sv}{c k:Nat}{x:Sat}(h:σ.Ok c)(hx:x.Ok∧x.reply.size≤400):(kJ σ k x).Ok c:=
 ⟨h.good,h.few,h.uniq,h.loose,h.len,fun j=>by
  show (if j=k then x else σ.seat j).Ok∧(if j=k then x else σ.seat j).reply.size≤400
  split
  ·exact hx
  ·exact h.seat j,h.me,h.jC⟩
theorem XM{x:Sat}{li sq:Int}{r:ByteArray}(hx:x.Ok∧x.reply.size≤400)(h1:U li)(h2:U sq)(hr:r.size≤400):(rY x li sq r).Ok∧(rY x li sq r).reply.size≤400:=by
 unfold rY
 split
 ·exact⟨⟨h1,h2⟩,hr⟩
 ·exact hx
end Go.Proofs.YtmelaiefbpdifaaGreatDoor.Srv
namespace Go.Proofs.YtmelaiefbpdifaaGreatDoor.Srv
open Go.RowKit Go.Maps
open Pgs (Pg)
theorem Dh{P:Program}{ops:Array Oper}{o:Oper}{a:Act}{w:World}{K:Act→World→Prop}{Q:Exit→Act→World→Prop}{E:Prop}(hw:Region.wanted o (yielded ops a.tmps)=true)(ty:TypeId)(x y:Operand)(ho:o.op = .store ty x y)
  (b off:Nat) (cells:Array Value) (hx:a.eval x = .pointer (some ⟨b,off,none⟩)) (hy:a.eval y = .agg cells)
  (ht:w.there b off cells.size) (hi:(P.info? ty).map (·.size)=some cells.size) (h1:cells.all (·.oneCell')=true)
  (h:K (a.put o.dst undef) (w.setCells b off cells.toList)):if Region.wanted o (yielded ops a.tmps)=true then Oper.wp P o a w K Q else E:=by
 rw [if_pos hw]
 exact wp_store_mid ty x y ho b off cells hx hy ht hi h1 h
section
variable {w w1:World}{R:List Nat}{sb dp n c rp mb lp lb:Nat}{σ:Sv}{s:St}{F:List Nat}{vs:Nat→Value}{D:DataW Value}
set_option maxRecDepth 100000 in
set_option maxHeartbeats 8000000 in
theorem dA.acU(h:dA w w1 R sb dp σ s n false c rp mb lp lb F vs D)(hcc:c<1000000)(hn:n<4294967296)(bY:s.late.length+200≤1048576)(p:Pk)(hp:p.Ok)(hR:p.Right)(h1:1≤p.code)(h5:p.code≤5):
  Calls Tryz.prog 63 #[.pointer (some ⟨sb,0,none⟩),pkV p] w1 fun e w'=>ExM w w1 w' R sb dp σ s n c p e:=by
 have hsz:p.data.size≤128:=hR.1.2
 obtain⟨fid,hidx,hcf,hand⟩:=h.acQ hcc hn bY p hp hsz h1 h5
 have hok:=h.ok
 have MF:∀ i∈R,i<w1.heap.size:=fun i hi=>(h.new i hi).2
 have hq1:w1.heap.size∉R:=fun hm=>Nat.lt_irrefl _ (MF _ hm)
 have hq2:w1.heap.size+1∉R:=fun hm=>by have:=MF _ hm;omega
 have ZX:=h.inR sb (by simp)
 have hww:=h.only.size
 have adg:=MF sb ZX
 have hfr:∃ k:Nat,p.frm=k∧k<256∧p.frm.toNat=k:=⟨p.frm.toNat,by have:=hR.2.2.1;omega,by have:=hR.2.2.1;omega,rfl⟩
 obtain⟨k,hk1,hk2,hk3⟩:=hfr
 have b0:Blk ((w1.alloc (.cells (pkA p) 53)).alloc (.cells pz 53)) w1.heap.size 53 (pkA p):=(Blk.new w1 _ _).alloc _
 have z1:Blk ((w1.alloc (.cells (pkA p) 53)).alloc (.cells pz 53)) (w1.heap.size+1) 53 pz:=by
  have:=Blk.new (w1.alloc (.cells (pkA p) 53)) 53 pz
  rwa [show (w1.alloc (.cells (pkA p) 53)).heap.size=w1.heap.size+1 by simp] at this
 have k1:Only [] w1 ((w1.alloc (.cells (pkA p) 53)).alloc (.cells pz 53)):=((Only.refl [] w1).alloc _).alloc _
 have kd:=k1.drew
 replace b0:=b0.kept ((Only.refl [] _).drew) (by simp)
 replace z1:=z1.kept ((Only.refl [] _).drew) (by simp)
 have aaO:=hp.life
 have hseq:=hp.seq
 have afF:=hp.frm
 clear h k1
 replace hand:=Lib.hid hand
 replace MF:=Lib.hid MF
 go_enter Tryz.func63,Tryz.ntmps63
 go_wp2_with fail
 generalize ((w1.alloc (.cells (pkA p) 53)).alloc (.cells pz 53))=W at *
 obtain⟨q,hq⟩:∃ q,q=w1.heap.size:=⟨_,rfl⟩
 rw [←hq] at b0 z1 hq1 hq2
 simp only [←hq]
 have r0:=Blk.IX (cs:=(pkA p).toList) b0
 have a7:=b0.cell 7
 simp only [List.getElem?_toArray,List.getElem?_cons_zero,List.getElem?_cons_succ] at a7
 replace hq:=Lib.hid hq
 refine wp_region_held_drew (S:=fun w'=>w'.rangeAt q 0 (pkA p).toList∧w'.cell? ⟨q,7,none⟩=some (.int .i64 p.code)) (by kernel_rfl) ⟨r0,a7⟩ (fun hHeld=> ?_)
 generalize W.drew=wd at *
 refine rwT 1 (.pointer (some ⟨q,7,none⟩)) hHeld ?_;simp only [rwA]
 refine rwT 2 (.pointer (some ⟨q,7,none⟩)) hHeld ?_;simp only [rwA]
 refine rwY 3 (.int .i64 p.code) hHeld ?_ (hy:=Or.inl ⟨by rfl,fun w' hSw=>by obtain⟨_,hc⟩:=hSw;go_simp⟩);simp only [rwA]
 refine rwT 5 (.pointer (some ⟨sb,0,none⟩)) hHeld ?_;simp only [rwA]
 refine rwY 6 (pkV p) hHeld ?_ (hy:=yieldsIf_load_mid (by rfl) 53 (.tmp 3) rfl q 0 rfl (pkA p).toList _ (fun w' hSw=>hSw.1) Tryz.underlying53 rfl kH);simp only [rwA]
 refine ah 0 rfl (by kernel_rfl) (fun K hK=> ?_)
 go_simp
 refine (JI _).mono ?_;rintro e w2 ⟨rfl,k2⟩
 have b2:=b0.kept k2 (by simp)
 have x7:=k2.cell a7 (by simp)
 have k12:=kd.trans k2
 have z2:=z1.kept k2 (by simp)
 go_wp2_with fail
 refine hK.out _ _ ⟨fun j v hj=>k2.cell (r0 j v hj) (by simp),x7⟩ (fun hHeld=> ?_)
 clear hK K
 refine rwY 4 (fnV fid) hHeld ?_ (hy:=Or.inl ⟨by rfl,fun w' hSw=>by have i0:=hidx;go_simp⟩);simp only [rwA]
 refine ah 7 rfl (by kernel_rfl) (fun K hK=> ?_)
 go_simp
 refine (hand.out _ k12).mono ?_
 rintro e w3 ⟨d,er,σ1,s1,n1,f1',R1,rfl,hds,hm1,kR,hR1,hdl⟩
 have r2:w2.rangeAt q 0 (pkA p).toList:=fun j v hj=>k2.cell (r0 j v hj) (by simp)
 have b3:=b2.kept kR hq1
 have z3:=z2.kept kR hq2
 go_wp2_with fail
 refine hK.out _ _ ⟨fun j v hj=>kR.cell (r2 j v hj) hq1,kR.cell x7 hq1⟩ (fun hHeld=> ?_)
 clear hK K
 refine rwT 8 (.tuple #[.string (strOf d),.int .i64 er]) hHeld ?_;simp only [rwA]
 refine rwT 9 (.string (strOf d)) hHeld ?_;simp only [rwA]
 refine rwT 10 (.int .i64 er) hHeld ?_;simp only [rwA]
 refine rwT 11 (.string (strOf d)) hHeld ?_;simp only [rwA]
 refine rwT 12 (.int .i64 er) hHeld ?_;simp only [rwA]
 refine wpAnyH_done (by kernel_rfl) ?_ _
 clear hHeld
 have herr:=XO hds
 have hsame:=UE hds
 have afj:q∉R1:=fun hm=>by
  rcases hR1 _ hm with h | h
  ·exact hq1 h
  ·have:=b2.lt;omega
 have abu:q+1∉R1:=fun hm=>by
  rcases hR1 _ hm with h | h
  ·exact hq2 h
  ·have:=z2.lt;omega
 have k13:Only R w1 w3:=(k12.more (by simp)).then kR (fun i hi=>.inl hi)
 have abH:∀ j∈R1,j∈R∨w1.heap.size≤j:=fun j hj=>(hR1 j hj).imp id (fun h=>Nat.le_trans k12.size h)
 clear r0 r2 a7 x7 b0 z1 b2 z2 k2 k12 kd kR hR1 hidx hcf hand
 have hds':(Did NoC σ p d er σ1∧s1=s∧n1=n∧f1'=false)∨(Did (C5 σ.N s n s1 n1 f1') σ p d er σ1∧∃ l,dN σ.N σ.M s n false l er σ1.M s1 n1 f1'):=by
  rcases hds with h | ⟨h,l,hl⟩
  ·exact .inl h
  ·exact .inr ⟨h,l,hl⟩
 obtain⟨rp1,mb1,lp1,lb1,F1,vs1,D1,h3⟩:=hm1
 replace hds':=Lib.hid hds'
 replace abH:=Lib.hid abH
 clear hds
 by_cases h5e:er=5
 ·subst h5e
  obtain⟨_,_,u2,_⟩:=h3.cells
  have uf:=h3.hdr.free 2
  have hup:Blk (w3.setCell ⟨sb,2,none⟩ (.bool false)) sb 116 (jK { σ1 with up:=false } rp1 lb1).toArray:=by
   have:=h3.hdr.set 2 (.bool false)
   rwa [show (jK σ1 rp1 lb1).toArray.setIfInBounds 2 (.bool false)=(jK { σ1 with up:=false } rp1 lb1).toArray by simp [jK]] at this
  have ku:Only [sb] w3 (w3.setCell ⟨sb,2,none⟩ (.bool false)):=(Only.refl [sb] w3).setCell (.inl (by simp)) _
  have hσ1:=h3.ok
  have hσ2:({ σ1 with up:=false }:Sv).Ok (c+1):=⟨hσ1.good,hσ1.few,hσ1.uniq,hσ1.loose,hσ1.len,hσ1.seat,hσ1.me,hσ1.jC⟩
  have h4:=h3.headed ku hup rfl rfl rfl hσ2
  have hqs:q+1∉[sb]:=fun hm=>by simp at hm;rw [hm] at hq2;exact hq2 ZX
  have z4:=z3.kept ku hqs
  have k14:Only R w1 (w3.setCell ⟨sb,2,none⟩ (.bool false)):=k13.then ku (fun i hi=>by simp at hi;rw [hi];exact .inl ZX)
  replace h4:=Lib.hid h4
  replace k14:=Lib.hid k14
  replace hup:=Lib.hid hup
  clear h3 ku hσ1 hσ2 b3 z3
  go_wp2_with (refine aN zPk zPk rfl (.tmp 4) (.tmp 27) rfl (q+1) rfl rfl z4 ?_;intro w5 z5 k5)
  refine bodyPost_ret (v:=.tuple #[pkV zPk,.bool false]) (eG rfl _ _ (q+1) rfl zPk z5 _ rfl) rfl ?_
  have hk5:∀ i∈[q+1],i∈R∨w1.heap.size≤i:=fun i hi=>by simp at hi;have:=hq.out;exact .inr (by omega)
  refine⟨zPk,false,{ σ1 with up:=false },s1,n1,f1',R1,rfl,?_,⟨rp1,mb1,lp1,lb1,F1,vs1,D1,h4.out.beside k5 (h4.out.only.then k5 ?_) ?_⟩,k14.out.then k5 hk5,abH.out⟩
  ·rcases hds'.out with⟨h,h'⟩ | ⟨h,l,h'⟩
   ·exact .inl ⟨⟨d,5,σ1,h,.inl ⟨rfl,rfl,rfl,rfl⟩⟩,h'⟩
   ·exact .inr ⟨⟨d,5,σ1,h,.inl ⟨rfl,rfl,rfl,rfl⟩⟩,l,5,h',rfl⟩
  ·intro i hi;simp at hi;have:=hq.out;exact .inr (by omega)
  ·intro i hi;simp at hi;rw [hi];exact abu
 ·have h5n:(er==5)=false:=by rw [beq_eq_false_iff_ne];exact h5e
  have hrp:iD σ1 p d er=iD σ p d er:=by unfold iD;rw [hsame.2.1,hsame.2.2.1]
  have aen:(iD σ p d er).Ok:=RV hok hp d er herr
  have ad9:=KF (iD σ p d er)
  have Xa:=h3.Yc p d er
  rw [hrp] at Xa
  have hex:∀ C:Com,Did C σ p d er σ1→lg C σ p (iD σ p d er) true (kJ σ1 k (rY (σ1.seat k) p.life p.seq (lM (iD σ p d er)))):=fun C hC=>
   ⟨d,er,σ1,hC,.inr ⟨h5e,rfl,rfl,by rw [hk3,hsame.2.2.2.2]⟩⟩
  have Vl:=h3.ok.seat k
  have ae9:=h3.hdr.lt
  generalize iD σ p d er=r at *
  replace hex:=Lib.hid hex
  replace Xa:=Lib.hid Xa
  replace hsame:=Lib.hid hsame
  replace herr:=Lib.hid herr
  clear hrp
  generalize strOf d=ds at *
  go_wp2_with (refine aV p rfl (.tmp 3) rfl q rfl b3 ?_)
  refine Xa.out.mono ?_;rintro e w4 ⟨rfl,k4⟩
  have z4:Blk (w4.alloc (.cells pz 53)) w4.heap.size 53 (pkA zPk):=Blk.new w4 _ _
  have ka:Only [] w3 (w4.alloc (.cells pz 53)):=k4.alloc _
  go_wp2_with (first
   | (refine aN r zPk rfl (.tmp 8) (.tmp 32) rfl w4.heap.size rfl rfl z4 ?_;intro w5 b5 k5)
   | (refine aV r rfl (.tmp 8) rfl w4.heap.size rfl b5 ?_))
  have k35:Only [] w3 w5:=ka.then k5 (fun i hi=>by simp at hi;have:=k4.size;exact .inr (by omega))
  refine (OE w5 r aen).mono ?_;rintro e w6 ⟨rfl,k6⟩
  have k36:=k35.trans k6
  have b6:=b5.kept k6 (by simp)
  have g4:w3.heap.size≤w4.heap.size:=k4.size
  obtain⟨g,hg⟩:∃ g,g=w4.heap.size:=⟨_,rfl⟩
  rw [←hg] at b6 g4
  simp only [←hg]
  replace hg:=Lib.hid hg
  have b36:=b3.kept k36 (by simp)
  have z36:=z3.kept k36 (by simp)
  have h6:=h3.keep k36
  have hgR:g∉R1:=fun hm=>by have:=(h3.new _ hm).2;omega
  have hq3:=b3.lt
  have hq4:=z3.lt
  clear z4 ka b5 k5 k35 k4 k6 b3 z3
  go_wp2_with fail
  have kd:Only [] w3 w6.drew:=k36.drew
  have h6d:=h6.keep ((Only.refl [] w6).drew)
  have bd:=b36.kept ((Only.refl [] w6).drew) (by simp)
  have zd:=z36.kept ((Only.refl [] w6).drew) (by simp)
  have gd:=b6.kept ((Only.refl [] w6).drew) (by simp)
  have e1:=bd.cell 1
  have e3:=bd.cell 3
  have e4:=bd.cell 4
  simp only [List.getElem?_toArray,List.getElem?_cons_zero,List.getElem?_cons_succ] at e1 e3 e4
  rw [hk1] at e1
  refine wp_region_held_drew (S:=fun w'=>w'.cell? ⟨q,1,none⟩=some (.int .i64 (k:Int))∧w'.cell? ⟨q,3,none⟩=some (.int .u32 p.life)∧w'.cell? ⟨q,4,none⟩=some (.int .u32 p.seq)) (by kernel_rfl) ⟨e1,e3,e4⟩ (fun hHeld=> ?_)
  generalize w6.drew=we at *
  obtain⟨t0,t1,t2⟩:=oG h6d.hdr k hk2
  generalize σ1.seat k=st at *
  refine rwT 0 (.pointer (some ⟨sb,0,none⟩)) hHeld ?_;simp only [rwA]
  refine rwT 1 (.pointer (some ⟨q,1,none⟩)) hHeld ?_;simp only [rwA]
  refine rwY 2 (.int .i64 (k:Int)) hHeld ?_ (hy:=Or.inl ⟨by rfl,fun w' hSw=>by obtain⟨hc,_⟩:=hSw;go_simp⟩);simp only [rwA]
  refine rwT 3 (.pointer (some ⟨sb,0,none⟩)) hHeld ?_;simp only [rwA]
  refine rwT 4 (.pointer (some ⟨q,1,none⟩)) hHeld ?_;simp only [rwA]
  refine rwY 5 (.int .i64 (k:Int)) hHeld ?_ (hy:=Or.inl ⟨by rfl,fun w' hSw=>by obtain⟨hc,_⟩:=hSw;go_simp⟩);simp only [rwA]
  refine rwT 6 (.pointer (some ⟨sb,0,none⟩)) hHeld ?_;simp only [rwA]
  refine rwT 7 (.pointer (some ⟨sb,5,none⟩)) hHeld ?_;simp only [rwA]
  refine rwY 8 (.pointer (some ⟨sb,5+k*3,none⟩)) hHeld ?_ (hy:=Or.inl ⟨by rfl,fun w' hSw=>by go_simp;intro hh;omega⟩);simp only [rwA]
  refine rwT 10 (.pointer (some ⟨q,3,none⟩)) hHeld ?_;simp only [rwA]
  refine rwY 11 (.int .u32 p.life) hHeld ?_ (hy:=Or.inl ⟨by rfl,fun w' hSw=>by obtain⟨_,hc,_⟩:=hSw;go_simp⟩);simp only [rwA]
  refine rwT 12 (.pointer (some ⟨q,4,none⟩)) hHeld ?_;simp only [rwA]
  refine rwY 13 (.int .u32 p.seq) hHeld ?_ (hy:=Or.inl ⟨by rfl,fun w' hSw=>by obtain⟨_,_,hc⟩:=hSw;go_simp⟩);simp only [rwA]
  refine rwT 14 (.string (lM r)) hHeld ?_;simp only [rwA]
  refine rwT 16 (.pointer (some ⟨sb,0,none⟩)) hHeld ?_;simp only [rwA]
  refine rwT 17 (.pointer (some ⟨sb,5,none⟩)) hHeld ?_;simp only [rwA]
  refine ah 9 rfl (by kernel_rfl) (fun K hK=> ?_)
  go_simp
  go_wp2_with fail
  refine hK.out _ _ ⟨e1,e3,e4⟩ (fun hHeld=> ?_)
  clear hK K
  refine ah 15 rfl (by kernel_rfl) (fun K hK=> ?_)
  go_simp
  refine (XL st p.life p.seq (lM r) we Vl.1 aaO hseq).mono ?_;rintro e w8 ⟨rfl,k8⟩
  have h8:=h6d.keep k8
  go_wp2_with fail
  refine hK.out _ _ ⟨k8.cell e1 (by simp),k8.cell e3 (by simp),k8.cell e4 (by simp)⟩ (fun hHeld=> ?_)
  clear hK K
  refine rwY 18 (.pointer (some ⟨sb,5+k*3,none⟩)) hHeld ?_ (hy:=Or.inl ⟨by rfl,fun w' hSw=>by go_simp;intro hh;omega⟩);simp only [rwA]
  have hdn:=XM (r:=lM r) Vl aaO hseq ad9
  generalize hst':rY st p.life p.seq (lM r)=st' at *
  have hth:=Rk h8.hdr k hk2
  have hkc:Only [sb] w8 (w8.setCells sb (5+k*3) (seatE st')):=Only.setCells (.inl (by simp)) _ _ (Only.refl [sb] w8)
  have hbc:Blk (w8.setCells sb (5+k*3) (seatE st')) sb 116 (jK (kJ σ1 k st') rp1 lb1).toArray:=by
   have:=Blk.setCells (seatE st') (5+k*3) h8.hdr
   rwa [YM σ1 rp1 lb1 k hk2 st'] at this
  have h9:=h8.headed hkc hbc rfl rfl rfl (OZ h8.ok hdn)
  have hqs:q∉[sb]:=fun hm=>by simp at hm;rw [hm] at hq1;exact hq1 ZX
  have aep:q+1∉[sb]:=fun hm=>by simp at hm;rw [hm] at hq2;exact hq2 ZX
  have hgs:g∉[sb]:=fun hm=>by simp at hm;omega
  have f1:=hkc.cell (k8.cell e1 (by simp)) hqs
  have f3:=hkc.cell (k8.cell e3 (by simp)) hqs
  have f4:=hkc.cell (k8.cell e4 (by simp)) hqs
  have g9:=(gd.kept k8 (by simp)).kept hkc hgs
  have z9:=(zd.kept k8 (by simp)).kept hkc aep
  have k19:Only R w1 (w8.setCells sb (5+k*3) (seatE st')):=(k13.then (kd.trans k8) (by simp)).then hkc (fun i hi=>by simp at hi;rw [hi];exact .inl ZX)
  replace h9:=Lib.hid h9
  replace k19:=Lib.hid k19
  replace hst':=Lib.hid hst'
  clear h8 hbc hkc h6d h6 h3 hdn kd k36 bd zd gd b36 z36 b6
  refine ah 19 rfl (by kernel_rfl) (fun K hK=> ?_)
  refine Dh rfl 113 _ _ rfl sb (5+k*3) (seatE st').toArray rfl rfl hth qR (by simp [seatE,Value.oneCell']) ?_
  change K _ (w8.setCells sb (5+k*3) (seatE st'))
  generalize w8.setCells sb (5+k*3) (seatE st')=w9 at *
  refine hK.out _ _ ⟨f1,f3,f4⟩ (fun hHeld=> ?_)
  clear hK K
  refine wpAnyH_done (by kernel_rfl) ?_ _
  clear hHeld
  clear f1 f3 f4 e1 e3 e4 t0 t1 t2 hth
  go_wp2_with (first
   | (refine aV r rfl (.tmp 8) rfl g rfl g9 ?_)
   | (refine aN r zPk rfl (.tmp 4) (.tmp 57) rfl (q+1) rfl rfl z9 ?_;intro w10 z10 k10))
  refine bodyPost_ret (v:=.tuple #[pkV r,.bool true]) (eG rfl _ _ (q+1) rfl r z10 _ rfl) rfl ?_
  have hk10:∀ i∈[q+1],i∈R∨w1.heap.size≤i:=fun i hi=>by simp at hi;have:=hq.out;exact .inr (by omega)
  refine⟨r,true,kJ σ1 k st',s1,n1,f1',R1,rfl,?_,⟨rp1,mb1,lp1,lb1,F1,vs1,D1,h9.out.beside k10 (h9.out.only.then k10 ?_) ?_⟩,k19.out.then k10 hk10,abH.out⟩
  ·rcases hds'.out with⟨h,h'⟩ | ⟨h,l,h'⟩
   ·exact .inl ⟨hex.out _ h,h'⟩
   ·exact .inr ⟨hex.out _ h,l,er,h',by rw [if_neg h5e];exact hsame.out.2.2.2.1⟩
  ·intro i hi;simp at hi;have:=hq.out;exact .inr (by omega)
  ·intro i hi;simp at hi;rw [hi];exact abu
end
end Go.Proofs.YtmelaiefbpdifaaGreatDoor.Srv
