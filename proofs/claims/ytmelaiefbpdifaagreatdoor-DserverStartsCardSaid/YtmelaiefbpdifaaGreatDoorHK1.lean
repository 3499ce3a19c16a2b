/- Joined: Put5, Row5, Right5, Und5, Rput5 -/
import Derived.Test.YtmelaiefbpdifaaGreatDoorHK0
import Derived.Laws.Cover1
namespace Go.Proofs.YtmelaiefbpdifaaGreatDoor
open Go.RowKit Go.Maps
theorem BA:∀ a b:List UInt8,Op.bytesLess a b=bytesBefore a b
 | [],[]=>by simp [Op.bytesLess,bytesBefore]
 | [],_ :: _=>by simp [Op.bytesLess,bytesBefore]
 | _ :: _,[]=>by simp [Op.bytesLess,bytesBefore]
 | a :: r,b :: s=>by
  rw [Op.bytesLess,bytesBefore,BA r s]
theorem DR(a:List UInt8):(strOf a).toList=a:=ByteArray.toList_mk _
end Go.Proofs.YtmelaiefbpdifaaGreatDoor
namespace Go.Proofs.YtmelaiefbpdifaaGreatDoor
open Go.RowKit Go.Maps
def rwE(r:Rw):List Value:=[.string (strOf r.key),.string (strOf r.val),.int .i64 (r.at_:Int)]
theorem bH(r:Rw):(rwE r).length=3:=rfl
theorem iP(r:Rw):∀ v∈rwE r,v.oneCell'=true:=by
 intro v hv
 simp [rwE] at hv
 rcases hv with rfl | rfl | rfl<;>rfl
theorem iV:(Tryz.prog.info? 200).map (fun i=>(i.zero,i.size,i.bytes))=some (some (.agg #[.string ⟨#[]⟩,.string ⟨#[]⟩,.int .i64 0]),3,40):=by kernel_rfl
theorem wo{w:World}{g o:Nat}{l:List Rw}(h:jq rwE 3 w g o l){i:Nat}(hi:i<l.length):w.cell? ⟨g,o+i*3,none⟩=some (.string (strOf l[i].key))∧w.cell? ⟨g,o+i*3+1,none⟩=some (.string (strOf l[i].val))∧w.cell? ⟨g,o+i*3+2,none⟩=some (.int .i64 (l[i].at_:Int)):=
 ⟨by simpa using h i hi 0 _ rfl,h i hi 1 _ rfl,h i hi 2 _ rfl⟩
def Finds(l:List Rw)(k:List UInt8)(e:Ending):Prop:=(∃ (i:Nat) (r:Rw),l[i]?=some r∧r.key=k∧e = .returned (.int .i64 (i:Int)))∨((∀ r∈l,r.key≠k)∧e = .returned (.int .i64 (-1)))
theorem Finds.yes{l:List Rw}{k:List UInt8}{i:Nat}{r:Rw}(h:l[i]?=some r)(hk:r.key=k):Finds l k (.returned (.int .i64 (i:Int))):=.inl ⟨i,r,h,hk,rfl⟩
theorem Finds.no{l:List Rw}{k:List UInt8}(h:∀ r∈l,r.key≠k):Finds l k (.returned (.int .i64 (-1))):=.inr ⟨h,rfl⟩
set_option maxRecDepth 100000 in
set_option maxHeartbeats 1000000 in
theorem wu(w:World)(A:Option Addr)(c:Nat)(l:List Rw)(k:List UInt8)(hb:Els rwE 3 w A l)(hl:l.length≤1048576):
  Calls Tryz.prog 102 #[.slice A l.length c,.string (strOf k)] w fun e w'=>Finds l k e∧Only [] w w':=by
 have hlI:(l.length:Int)≤1048576:=by omega
 have hbe:=fun x:List UInt8=>beq_toList x k
 generalize strOf k=kb at *
 replace hbe:=Lib.hid hbe
 go_enter Tryz.func102,Tryz.ntmps102
 go_wp2_with fail
 go_loopw [5] (fun i wr=>∃ n:Nat,n≤l.length∧i = .int .i64 n∧Hid (∀ (j:Nat) x,j<n→l[j]?=some x→x.key≠k)∧Only [] w wr) (fun i _=>l.length-(intOf i).toNat)
 case atStart=>exact⟨0,Nat.zero_le _,rfl,fun j x hj=>by omega,Only.refl _ _⟩
 case round=>
  obtain⟨n,hn,rfl,hgood,hk⟩:=hrel
  by_cases hlt:n<l.length
  ·obtain⟨g,o,rfl,hg,hat⟩:=hb.get hlt
   obtain⟨c0,_,_⟩:=wo (hat.kept hk (by simp)) hlt
   have hx:l[n]?=some l[n]:=List.getElem?_eq_getElem hlt
   have hbx:=hbe.out l[n].key
   generalize l[n]=x at *
   by_cases he:x.key=k
   ·have hb1:((strOf x.key).toList==kb.toList)=true:=by rw [hbx];simpa using he
    have hfin:=Finds.yes hx he
    generalize strOf x.key=ks at *
    replace hfin:=Lib.hid hfin
    replace hbx:=Lib.hid hbx
    replace hx:=Lib.hid hx
    replace he:=Lib.hid he
    clear hgood
    go_wp2
    go_ret
    exact⟨hfin.out,hk⟩
   ·have hb1:((strOf x.key).toList==kb.toList)=false:=by rw [hbx];simpa using he
    have hnext:Hid (∀ (j:Nat) x,j<n+1→l[j]?=some x→x.key≠k):=fun j y hj hy=>by
     by_cases hjn:j=n
     ·subst hjn
      rw [hx] at hy
      injection hy with hy
      subst hy
      exact he
     ·exact hgood.out j y (by omega) hy
    generalize strOf x.key=ks at *
    replace hbx:=Lib.hid hbx
    replace hx:=Lib.hid hx
    replace he:=Lib.hid he
    clear hgood
    go_wp2
    go_roundw
    case rel=>exact⟨n+1,by omega,by go_num,hnext,hk⟩
    case measure=>simp [intOf];omega
  ·have hge:(l.length:Int)≤n:=by omega
   have hfin:Finds l k (.returned (.int .i64 (-1))):=Finds.no fun r hr=>by
    obtain⟨i,hi,rfl⟩:=List.getElem_of_mem hr
    exact hgood.out i _ (by omega) (List.getElem?_eq_getElem hi)
   replace hfin:=Lib.hid hfin
   clear hgood
   go_wp2
   go_ret
   exact⟨hfin.out,hk⟩
end Go.Proofs.YtmelaiefbpdifaaGreatDoor
namespace Go.Proofs.YtmelaiefbpdifaaGreatDoor
open Go.RowKit Go.Maps
end Go.Proofs.YtmelaiefbpdifaaGreatDoor
namespace Go.Proofs.YtmelaiefbpdifaaGreatDoor
open Go.RowKit Go.Maps
theorem V6(p k:List UInt8):um p k=true↔p.length≤k.length∧k.take p.length=p:=by
 unfold um Lib.hasPrefix
 rw [List.isPrefixOf_iff_prefix,List.prefix_iff_eq_take]
 constructor
 ·intro h
  refine⟨?_,h.symm⟩
  have:=congrArg List.length h
  rw [List.length_take] at this
  omega
 ·exact fun h=>h.2.symm
theorem MH(p:Rw→Bool)(l:List Rw)(k:Nat)(h:k<l.length):(l.take (k+1)).filter p=if p l[k] then (l.take k).filter p++[l[k]] else (l.take k).filter p:=by
 rw [List.take_add_one,List.getElem?_eq_getElem h,List.filter_append]
 simp only [Option.toList_some,List.filter_cons,List.filter_nil]
 split<;>simp
set_option maxRecDepth 100000 in
set_option maxHeartbeats 2000000 in
theorem O4(w:World)(A:Option Addr)(c:Nat)(l:List Rw)(p:List UInt8)(hb:Els rwE 3 w A l)(hl:l.length≤1000000):
  Calls Tryz.prog 109 #[.slice A l.length c,.string (strOf p)] w fun e w'=>∃ v,e = .returned v∧fV rwE 3 w w' v (l.filter fun r=>um p r.key):=by
 have hlI:(l.length:Int)≤1000000:=by omega
 have hps:(strOf p).size=p.length:=aj _
 have hbe:=fun x:List UInt8=>beq_toList x p
 generalize strOf p=ps at *
 replace hbe:=Lib.hid hbe
 go_enter Tryz.func109,Tryz.ntmps109
 go_wp2_with fail
 go_loopw [5,6] (fun v i wr=>∃ n:Nat,n≤l.length∧i = .int .i64 n∧Mine rwE 3 200 w wr v ((l.take n).filter fun r=>um p r.key)) (fun _ i _=>l.length-(intOf i).toNat)
 case atStart=>exact⟨0,Nat.zero_le _,rfl,Mine.start _ _ _ (Only.refl _ _)⟩
 case round=>
  obtain⟨n,hn,rfl,aG⟩:=hrel
  by_cases hlt:n<l.length
  ·obtain⟨g,o,rfl,hg,hat⟩:=hb.get hlt
   obtain⟨c0,c1,c2⟩:=wo (hat.kept aG.only (by simp)) hlt
   have hst:=MH (fun r=>um p r.key) l n hlt
   have hLl:((l.take n).filter fun r=>um p r.key).length≤n:=Nat.le_trans (List.length_filter_le _ _) (by simp;omega)
   generalize hL:(l.take n).filter (fun r=>um p r.key)=L at *
   generalize hL2:(l.take (n+1)).filter (fun r=>um p r.key)=L2 at *
   generalize l[n]=x at *
   have hpk:=V6 p x.key
   have hks:(strOf x.key).size=x.key.length:=aj _
   have henc:rwE x = [.string (strOf x.key),.string (strOf x.val),.int .i64 (x.at_:Int)]:=rfl
   replace hL:=Lib.hid hL
   replace hL2:=Lib.hid hL2
   by_cases h1:p.length≤x.key.length
   ·have hcut:=gZ (P:=Tryz.prog) 9 Tryz.underlying9 x.key p.length (ps.size:Int) .i64 (by omega) h1
    have hbx:=hbe.out (x.key.take p.length)
    have hge:(ps.size:Int)≤((strOf x.key).size:Int):=by omega
    generalize strOf (x.key.take p.length)=cs at *
    by_cases h2:x.key.take p.length=p
    ·have hb1:(cs.toList==ps.toList)=true:=by rw [hbx];simpa using h2
     have hpre:um p x.key=true:=hpk.2 ⟨h1,h2⟩
     rw [if_pos hpre] at hst
     generalize strOf x.key=ks at *
     generalize strOf x.val=vs at *
     have b6:Blk (wr.alloc (.cells #[.string ks,.string vs,.int .i64 (x.at_:Int)] 200)) wr.heap.size 200 (rwE x).toArray:=by
      rw [henc]
      exact Blk.new _ _ _
     have hm6:=aG.keep ((Only.refl [] wr).alloc (.cells #[.string ks,.string vs,.int .i64 (x.at_:Int)] 200))
     replace hst:=Lib.hid hst
     replace hpk:=Lib.hid hpk
     replace hks:=Lib.hid hks
     replace hps:=Lib.hid hps
     replace henc:=Lib.hid henc
     replace hbx:=Lib.hid hbx
     replace h2:=Lib.hid h2
     replace hpre:=Lib.hid hpre
     clear hat aG
     go_wp2_with (at_builtin;go_must (refine dH rfl _ _ 122 rfl 200 _ 40 bH (by decide) iP Tryz.underlying122 iV rfl _ L.length L rfl hm6.own wr.heap.size x _ rfl b6 (by unfold maxLen;omega) (by omega) ?_);intro vv' w8 h8 g8 a8)
     have hm8:=hm6.pushed h8 g8 a8
     rw [←hst.out] at hm8
     clear h8 g8 a8 hm6 b6
     go_wp2
     go_roundw
     case rel=>exact⟨n+1,by omega,by go_num,by rw [hL2.out];exact hm8⟩
     case measure=>simp [intOf];omega
    ·have hb1:(cs.toList==ps.toList)=false:=by rw [hbx];simpa using h2
     have hpre:¬um p x.key=true:=fun h=>h2 (hpk.1 h).2
     rw [if_neg hpre] at hst
     rw [←hst] at aG
     generalize strOf x.key=ks at *
     generalize strOf x.val=vs at *
     replace hst:=Lib.hid hst
     replace hpk:=Lib.hid hpk
     replace hks:=Lib.hid hks
     replace hps:=Lib.hid hps
     replace henc:=Lib.hid henc
     replace hbx:=Lib.hid hbx
     replace h2:=Lib.hid h2
     replace hpre:=Lib.hid hpre
     clear hat
     go_wp2
     go_roundw
     case rel=>exact⟨n+1,by omega,by go_num,by rw [hL2.out];exact aG⟩
     case measure=>simp [intOf];omega
   ·have hlt2:¬(ps.size:Int)≤((strOf x.key).size:Int):=by omega
    have hpre:¬um p x.key=true:=fun h=>h1 (hpk.1 h).1
    rw [if_neg hpre] at hst
    rw [←hst] at aG
    generalize strOf x.key=ks at *
    generalize strOf x.val=vs at *
    replace hst:=Lib.hid hst
    replace hpk:=Lib.hid hpk
    replace hks:=Lib.hid hks
    replace hps:=Lib.hid hps
    replace henc:=Lib.hid henc
    replace hpre:=Lib.hid hpre
    clear hat
    go_wp2
    go_roundw
    case rel=>exact⟨n+1,by omega,by go_num,by rw [hL2.out];exact aG⟩
    case measure=>simp [intOf];omega
  ·have hge:(l.length:Int)≤n:=by omega
   have hln:l.take n=l:=List.take_of_length_le (by omega)
   rw [hln] at aG
   have hfin:=aG.els bH
   replace hfin:=Lib.hid hfin
   replace hps:=Lib.hid hps
   clear aG hln
   go_wp2
   go_ret
   exact⟨_,rfl,hfin.out⟩
end Go.Proofs.YtmelaiefbpdifaaGreatDoor
namespace Go.Proofs.YtmelaiefbpdifaaGreatDoor
open Go.RowKit Go.Maps
theorem LU(x:Rw):∀ (l:List Rw) (k:Nat),k≤l.length→(∀ (j:Nat) y,j<k→l[j]?=some y→bytesBefore y.key x.key=true)→(∀ y,l[k]?=some y→bytesBefore x.key y.key=true)→xI x l=l.take k++x :: l.drop k
 | [],k,hk,_,_=>by
  obtain rfl:k=0:=by simpa using hk
  rfl
 | y :: r,0,_,_,h2=>by
  rw [xI,if_pos (h2 y rfl)]
  rfl
 | y :: r,k+1,hk,h1,h2=>by
  have hy:=h1 0 y (by omega) rfl
  have ih:=LU x r k (by simpa using hk) (fun j z hj hz=>h1 (j+1) z (by omega) hz) (fun z hz=>h2 z hz)
  rw [xI,if_neg (by rw [Hu _ _ hy];decide),ih]
  rfl
theorem Mine.joined{α:Type}{enc:α→List Value}{k:Nat}{e:TypeId}{w w1 w2:World}{v v':Value}{l ys:List α}(h:Mine enc k e w w1 v l)(h1:w2.ownsRow 0 e k v' (l.length+ys.length) (encs enc (l++ys)))(h2:w1.grownBy w2 v.ownBlock)(h3:v'.ownBlock=v.ownBlock∨v'.ownBlock=some w1.heap.size):Mine enc k e w w2 v' (l++ys):=by
 refine⟨by rw [List.length_append];exact h1,fun g hg=> ?_,h.only.grown h2 (fun j hj=>.inr (h.new j hj))⟩
 rcases h3 with h3 | h3
 ·exact h.new g (by rw [←h3];exact hg)
 ·rw [h3] at hg
  injection hg with hg
  have:=h.only.size
  omega
set_option maxRecDepth 100000 in
set_option maxHeartbeats 2000000 in
theorem VL(w:World)(g o c:Nat)(l:List Rw)(x:Rw)(hat:jq rwE 3 w g o l)(hl:l.length≤100000)(hc:l.length≤c)(hne:∀ y∈l,y.key≠x.key):
  Calls Tryz.prog 103 #[.slice (some ⟨g,o,none⟩) l.length c,.agg (rwE x).toArray] w fun e w'=>∃ v,e = .returned v∧Mine rwE 3 200 w w' v (xI x l):=by
 have hlI:(l.length:Int)≤100000:=by omega
 have hcI:(l.length:Int)≤(c:Int):=by omega
 have hrise:∀ (k:Nat) y z,l[k]?=some y→bytesBefore y.key x.key=false→y=z→bytesBefore x.key z.key=true:=fun k y z hy hb e=>by
  subst e
  rcases xB y.key x.key (hne y (List.mem_of_getElem? hy)) with h | h
  ·rw [h] at hb;cases hb
  ·exact h
 have hins:=LU x l
 have hless:=fun a:List UInt8=>BA a x.key
 have k1:Only [] w (w.alloc (.cells (rwE x).toArray 200)):=(Only.refl [] w).alloc _
 have b1:Blk (w.alloc (.cells (rwE x).toArray 200)) w.heap.size 200 (rwE x).toArray:=Blk.new _ _ _
 have henc:(rwE x).toArray = #[.string (strOf x.key),.string (strOf x.val),.int .i64 (x.at_:Int)]:=rfl
 have q0:=b1.cell 0
 have q1:=b1.cell 1
 have q2:=b1.cell 2
 rw [henc] at q0 q1 q2 k1
 simp only [List.getElem?_toArray,List.getElem?_cons_zero,List.getElem?_cons_succ] at q0 q1 q2
 rw [henc]
 have hxk:(strOf x.key).toList=x.key:=DR _
 generalize hks:strOf x.key=ks at *
 generalize hvs:strOf x.val=vs at *
 replace hks:=Lib.hid hks
 replace hvs:=Lib.hid hvs
 replace hrise:=Lib.hid hrise
 replace hins:=Lib.hid hins
 replace hless:=Lib.hid hless
 replace hxk:=Lib.hid hxk
 replace henc:=Lib.hid henc
 clear b1 hne
 go_enter Tryz.func103,Tryz.ntmps103
 go_wp2_with fail
 obtain⟨bx,hbx⟩:∃ bx,bx=w.heap.size:=⟨_,rfl⟩
 rw [←hbx] at q0 q1 q2
 simp only [←hbx]
 generalize (w.alloc (.cells #[.string ks,.string vs,.int .i64 (x.at_:Int)] 200))=w1 at *
 replace hbx:=Lib.hid hbx
 go_loopw [5] (fun i wr=>∃ k:Nat,k≤l.length∧i = .int .i64 k∧Hid (∀ (j:Nat) y,j<k→l[j]?=some y→bytesBefore y.key x.key=true)∧Only [] w1 wr) (fun i _=>l.length-(intOf i).toNat)
 case atStart=>exact⟨0,Nat.zero_le _,rfl,fun j y hj=>by omega,Only.refl _ _⟩
 case round=>
  obtain⟨k,hk,rfl,hbef,aF⟩:=hrel
  have p0:=aF.cell q0 (by simp)
  have p1:=aF.cell q1 (by simp)
  have p2:=aF.cell q2 (by simp)
  have abE:=hat.kept (k1.trans aF) (by simp)
  by_cases hlt:k<l.length
  ·obtain⟨c0,_,_⟩:=wo abE hlt
   have hy:l[k]?=some l[k]:=List.getElem?_eq_getElem hlt
   have hle:=hless.out l[k].key
   have hyl:(strOf l[k].key).toList=l[k].key:=DR _
   generalize l[k]=y at *
   generalize strOf y.key=ys at *
   cases hb:bytesBefore y.key x.key with
   | true=>
    have hl1:Op.bytesLess ys.toList ks.toList=true:=by rw [hyl,hxk.out,hle,hb]
    have hnext:Hid (∀ (j:Nat) y,j<k+1→l[j]?=some y→bytesBefore y.key x.key=true):=fun j z hj hz=>by
     by_cases hjk:j=k
     ·subst hjk
      rw [hy] at hz
      injection hz with hz
      subst hz
      exact hb
     ·exact hbef.out j z (by omega) hz
    replace hyl:=Lib.hid hyl
    replace hle:=Lib.hid hle
    replace hy:=Lib.hid hy
    replace hb:=Lib.hid hb
    clear hbef abE
    go_wp2
    go_quiet (fail)
    go_wp2
    go_roundw
    case rel=>exact⟨k+1,by omega,by go_num,hnext,aF.drewN _⟩
    case measure=>simp [intOf];omega
   | false=>
    have hl1:Op.bytesLess ys.toList ks.toList=false:=by rw [hyl,hxk.out,hle,hb]
    have hgo:=hins.out k hk hbef.out (fun z hz=>hrise.out k y z hy hb (by rw [hy] at hz;injection hz))
    replace hyl:=Lib.hid hyl
    replace hle:=Lib.hid hle
    replace hy:=Lib.hid hy
    replace hb:=Lib.hid hb
    clear hbef
    have hdrop:(l.drop k).length=l.length-k:=by simp
    have htake:(l.take k).length=k:=by simp;omega
    have hkc:(k:Int)≤(c:Int):=by omega
    have hkI:(k:Int)≤(l.length:Int):=by omega
    replace hgo:=Lib.hid hgo
    replace hdrop:=Lib.hid hdrop
    replace htake:=Lib.hid htake
    go_wp2
    go_quiet (fail)
    have kQ:=aF.drewN nq
    have Zx:=hat.kept (k1.trans kQ) (by simp)
    clear abE p0 p1 p2 c0
    go_wp2_with (at_builtin;go_must (refine bZ bH (by decide) iP rfl (.tmp 23) (.tmp 26) 122 rfl 200 (.agg #[.string ⟨#[]⟩,.string ⟨#[]⟩,.int .i64 0]) 40 Tryz.underlying122 iV rfl (.slice none 0 0) 0 [] rfl (World.ownsRow_nil _ 0 _ 3) g o k _ (l.take k) htake.out.symm rfl (Zx.take k) ?c1 ?c2 ?go))
    case c1=>unfold maxLen;omega
    case c2=>omega
    case go=>
    intro v3 w3 hown3 hg3 H9
    have hm3:Mine rwE 3 200 w w3 v3 ([]++l.take k):=(Mine.start rwE 3 200 (k1.trans kQ)).joined (by rw [htake.out];simpa using hown3) hg3 H9
    rw [List.nil_append] at hm3
    have k03:=(Only.refl [] _).grown hg3 (fun j hj=>by simp [Value.ownBlock] at hj)
    have s0:=k03.cell (kQ.cell q0 (by simp)) (by simp)
    have s1:=k03.cell (kQ.cell q1 (by simp)) (by simp)
    have s2:=k03.cell (kQ.cell q2 (by simp)) (by simp)
    have htl:(l.take k).length≤100000:=by have:=htake.out;omega
    have b6:Blk (w3.alloc (.cells #[.string ks,.string vs,.int .i64 (x.at_:Int)] 200)) w3.heap.size 200 (rwE x).toArray:=by
     rw [henc.out]
     exact Blk.new _ _ _
    have hm6:=hm3.keep ((Only.refl [] w3).alloc (.cells #[.string ks,.string vs,.int .i64 (x.at_:Int)] 200))
    clear hown3 hg3 H9 hm3 k03
    go_wp2_with (first | (at_builtin;(refine dH rfl _ _ 122 rfl 200 _ 40 bH (by decide) iP Tryz.underlying122 iV rfl _ (l.take k).length (l.take k) rfl hm6.own w3.heap.size x _ rfl b6 (by unfold maxLen;omega) (by omega) ?_);intro vv' w8 h8 g8 a8;have hm8:=hm6.pushed h8 g8 a8;have abG:=hat.kept hm8.only (by simp);have hl8:(l.take k++[x]).length=k+1:=(by rw [List.length_append,htake.out];rfl);clear h8 g8 a8 hm6 b6 s0 s1 s2) | (at_builtin;(refine bZ bH (by decide) iP rfl (.tmp 32) (.tmp 35) 122 rfl 200 (.agg #[.string ⟨#[]⟩,.string ⟨#[]⟩,.int .i64 0]) 40 Tryz.underlying122 iV rfl vv' (l.take k++[x]).length (l.take k++[x]) rfl hm8.own g (o+k*3) (l.length-k) _ (l.drop k) hdrop.out.symm rfl (abG.drop k) ?d1 ?d2 ?go2)))
    case d1=>unfold maxLen;omega
    case d2=>omega
    case go2=>
    intro v9 w9 JA hg9 Yy
    have hm9:=hm8.joined (ys:=l.drop k) (by rw [hdrop.out,hl8,List.append_assoc,List.singleton_append];simpa using JA) hg9 Yy
    rw [List.append_assoc,List.singleton_append,←hgo.out] at hm9
    have hfin:=hm9
    replace hfin:=Lib.hid hfin
    clear JA hg9 Yy hm8 hm9 abG
    go_wp2
    go_ret
    exact⟨_,rfl,hfin.out⟩
  ·have hge:(l.length:Int)≤k:=by omega
   have hgo:=hins.out k hk hbef.out (fun z hz=>by rw [List.getElem?_eq_none (by omega)] at hz;cases hz)
   have hlk:l.length-k=0:=by omega
   rw [List.drop_of_length_le (by omega:l.length≤k)] at hgo
   clear hbef
   have htake:(l.take k).length=k:=by simp;omega
   have hkc:(k:Int)≤(c:Int):=by omega
   have hkI:(k:Int)≤(l.length:Int):=by omega
   replace hgo:=Lib.hid hgo
   replace htake:=Lib.hid htake
   go_wp2
   go_quiet (fail)
   have kQ:=aF.drewN nq
   have Zx:=hat.kept (k1.trans kQ) (by simp)
   clear abE p0 p1 p2
   go_wp2_with (at_builtin;go_must (refine bZ bH (by decide) iP rfl (.tmp 23) (.tmp 26) 122 rfl 200 (.agg #[.string ⟨#[]⟩,.string ⟨#[]⟩,.int .i64 0]) 40 Tryz.underlying122 iV rfl (.slice none 0 0) 0 [] rfl (World.ownsRow_nil _ 0 _ 3) g o k _ (l.take k) htake.out.symm rfl (Zx.take k) ?c1 ?c2 ?go))
   case c1=>unfold maxLen;omega
   case c2=>omega
   case go=>
   intro v3 w3 hown3 hg3 H9
   have hm3:Mine rwE 3 200 w w3 v3 ([]++l.take k):=(Mine.start rwE 3 200 (k1.trans kQ)).joined (by rw [htake.out];simpa using hown3) hg3 H9
   rw [List.nil_append] at hm3
   have k03:=(Only.refl [] _).grown hg3 (fun j hj=>by simp [Value.ownBlock] at hj)
   have s0:=k03.cell (kQ.cell q0 (by simp)) (by simp)
   have s1:=k03.cell (kQ.cell q1 (by simp)) (by simp)
   have s2:=k03.cell (kQ.cell q2 (by simp)) (by simp)
   have htl:(l.take k).length≤100000:=by have:=htake.out;omega
   have b6:Blk (w3.alloc (.cells #[.string ks,.string vs,.int .i64 (x.at_:Int)] 200)) w3.heap.size 200 (rwE x).toArray:=by
    rw [henc.out]
    exact Blk.new _ _ _
   have hm6:=hm3.keep ((Only.refl [] w3).alloc (.cells #[.string ks,.string vs,.int .i64 (x.at_:Int)] 200))
   clear hown3 hg3 H9 hm3 k03
   go_wp2_with (first | (at_builtin;(refine dH rfl _ _ 122 rfl 200 _ 40 bH (by decide) iP Tryz.underlying122 iV rfl _ (l.take k).length (l.take k) rfl hm6.own w3.heap.size x _ rfl b6 (by unfold maxLen;omega) (by omega) ?_);intro vv' w8 h8 g8 a8;have hm8:=hm6.pushed h8 g8 a8;have abG:=hat.kept hm8.only (by simp);have hl8:(l.take k++[x]).length=k+1:=(by rw [List.length_append,htake.out];rfl);clear h8 g8 a8 hm6 b6 s0 s1 s2) | (at_builtin;(refine dI bH (by decide) iP rfl (.tmp 32) (.tmp 35) 122 rfl 200 (.agg #[.string ⟨#[]⟩,.string ⟨#[]⟩,.int .i64 0]) 40 Tryz.underlying122 iV rfl vv' (l.take k++[x]).length (l.take k++[x]) rfl hm8.own _ _ [] rfl (.inl rfl) ?d1 ?d2 ?go2)))
   all_goals first
    | (unfold maxLen;simp only [List.length_nil];omega)
    | (simp only [List.length_nil];omega)
    | (intro v9 w9 JA hg9 Yy;have hm9:=hm8.joined (ys:=[]) (by rw [hl8];simpa using JA) hg9 Yy;rw [List.append_nil,←hgo.out] at hm9;have hfin:=hm9;replace hfin:=Lib.hid hfin;clear JA hg9 Yy hm8 hm9 abG;go_wp2;all_goals (go_ret;exact⟨_,rfl,hfin.out⟩))
end Go.Proofs.YtmelaiefbpdifaaGreatDoor
