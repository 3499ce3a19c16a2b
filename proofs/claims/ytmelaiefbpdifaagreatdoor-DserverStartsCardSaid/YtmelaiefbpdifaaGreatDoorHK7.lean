/- Joined: Fn3, Fr13, Rm13, St13, Op13 -/
import Derived.Test.YtmelaiefbpdifaaGreatDoorHK6
namespace Go.Proofs.YtmelaiefbpdifaaGreatDoor.Srv
open Go.RowKit Go.Maps
open Pgs (Pg pgE cO nS nX jm headB find ldL mV XE lG yg)
abbrev Ns(w w':World)(v:Value)(o:List Pg):Prop:=fV pgE 2 w w' v o
theorem uT{w w':World}{v:Value}{o:List Pg}(h:Mine pgE 2 138 w w' v o):Ns w w' v o:=by
 have hk:=h.only
 obtain⟨A,c,e,h1,h2,h3⟩:=lG h
 exact⟨A,c,e,h2,h1,hk,h3⟩
theorem Vy(w:World)(v:Value):Calls Tryz.prog 27 #[.pointer none,v] w fun e w'=>e = .returned (.slice none 0 0)∧w'=w:=by
 go_enter Tryz.func27,Tryz.ntmps27
 go_wp2
 go_ret
 exact⟨rfl,rfl⟩
theorem PI(w:World)(v:Value):Calls Tryz.prog 19 #[.pointer none,v] w fun e w'=>e = .returned (.slice none 0 0)∧w'=w:=by
 go_enter Tryz.func19,Tryz.ntmps19
 go_wp2
 go_ret
 exact⟨rfl,rfl⟩
set_option maxRecDepth 100000 in
theorem XU(w:World)(A:Option Addr)(c:Nat)(l:List Pg)(hb:Els pgE 2 w A l)(hl:l.length≤1000):
  Calls Tryz.prog 58 #[.slice A l.length c] w fun e w'=>∃ v,e = .returned v∧Ns w w' v l:=by
 have hnil:∀ W,(binOp .eql 57 (.slice A l.length c) (.slice none 0 0)).run Tryz.prog W = .ok (.bool A.isNone) W:=fun W=>Lib.run_eql_slice_nil W 57 138 _ _ _ _ _ Tryz.underlying57
 cases A with
 | none=>
  have h0:l = []:=by
   rcases hb with h | ⟨g,o,h,_⟩
   ·exact h
   ·cases h
  subst h0
  simp only [Option.isNone_none,List.length_nil] at hnil ⊢
  go_enter Tryz.func58,Tryz.ntmps58
  go_wp2
  go_ret
  exact⟨_,rfl,uT (Mine.start pgE 2 _ (Only.refl [] w))⟩
 | some ad=>
  simp only [Option.isNone_some] at hnil
  have hk0:Only [] w (w.alloc (.cells #[] 138)):=(Only.refl [] w).alloc _
  have hown:(w.alloc (.cells #[] 138)).ownsRow 0 138 2 (.slice (some ⟨w.heap.size,0,none⟩) 0 0) 0 (encs pgE []):=SE (Blk.new _ _ _)
  have hb2:Els pgE 2 (w.alloc (.cells #[] 138)) (some ad) l:=hb.kept hk0 (by simp)
  go_enter Tryz.func58,Tryz.ntmps58
  go_wp2_with (at_builtin;go_must (refine dI cO (by decide) nS rfl _ _ 57 rfl 138 _ 24 Tryz.underlying57 nX rfl _ 0 [] rfl hown (some ad) c l rfl hb2 (by unfold maxLen;omega) (by omega) ?_);intro vv w6 h6 g6 a6)
  have hm:Mine pgE 2 138 w w6 vv l:=by
   rw [Nat.zero_add,List.nil_append] at h6
   refine⟨h6,fun j hj=> ?_,hk0.grown g6 (fun j hj=> ?_)⟩
   ·rcases a6 with a6 | a6
    ·rw [a6] at hj;have hj:w.heap.size=j:=Option.some.inj hj;omega
    ·rw [a6] at hj;injection hj with hj;simp at hj;omega
   ·have hj:w.heap.size=j:=Option.some.inj hj;right;omega
  replace hm:=Lib.hid hm
  clear h6 g6 a6 hown hb2
  go_wp2
  go_ret
  exact⟨_,rfl,uT hm.out⟩
section
variable {w w1:World}{R:List Nat}{sb p n c rp mb lp lb:Nat}{σ:Sv}{s:St}{f:Bool}{F:List Nat}{vs:Nat→Value}{D:DataW Value}
set_option maxRecDepth 100000 in
theorem dA.sure(h:dA w w1 R sb p σ s n f c rp mb lp lb F vs D)(x:Int)(y:Nat)(hx:x=y)(hy:y<4294967296):
  Calls Tryz.prog 27 #[.pointer (some ⟨sb,0,none⟩),.int .u32 x] w1 fun e w'=>∃ v,e = .returned v∧Ns w1 w' v (dU σ.M y):=by
 obtain⟨_,_,_,c3,_⟩:=h.cells
 have hl:=yg w1 rp mb lp σ.M h.own.rows h.ok.good.sorted (by have:=h.RI;omega) y hy
 rw [←hx] at hl
 unfold dU
 clear h hx
 generalize XE (mV (aP σ.M (headB y)))=er at *
 go_enter Tryz.func27,Tryz.ntmps27
 go_wp2_with fail
 refine hl.mono ?_;rintro e w2 ⟨v,rfl,hm⟩
 replace hm:=Lib.hid (uT hm)
 go_wp2
 go_ret
 exact⟨_,rfl,hm.out⟩
set_option maxRecDepth 100000 in
theorem dA.object(h:dA w w1 R sb p σ s n f c rp mb lp lb F vs D)(x:Int)(y:Nat)(hx:x=y)(hy:y<4294967296):
  Calls Tryz.prog 19 #[.pointer (some ⟨sb,0,none⟩),.int .u32 x] w1 fun e w'=>∃ v,e = .returned v∧Ns w1 w' v (vM σ y):=by
 obtain⟨_,_,_,_,c4⟩:=h.cells
 have hlook:=h.loose.look_ok y hy
 rw [←hx] at hlook
 have uX:=h.sure x y hx hy
 have hlists:=h.lists y
 have oN:=h.ok.loose
 unfold vM
 unfold Tn at hlook
 clear h hx
 cases hl:iU σ.L y with
 | none=>
  rw [hl] at hlook
  simp only [Option.isSome_none,Bool.false_eq_true,if_false] at hlook
  simp only [Option.getD_none]
  generalize dU σ.M y=o at *
  clear hlists oN hl
  replace uX:=Lib.hid uX
  go_enter Tryz.func19,Tryz.ntmps19
  go_wp2_with fail
  refine uX.out.mono ?_;rintro e w2 ⟨v,rfl,hm⟩
  replace hm:=Lib.hid hm
  go_wp2
  go_ret
  exact⟨_,rfl,hm.out⟩
 | some o=>
  rw [hl] at hlook
  obtain⟨A,k,hv,hk,hE,_⟩:=hlists o hl
  have hlen:=Pgs.eU (oN _ (wO hl)).1
  simp only at hlen
  simp only [Option.isSome_some,if_true] at hlook
  simp only [Option.getD_some]
  rw [hv] at hlook
  have hcl:=XU w1 A k o hE (by omega)
  obtain⟨m,hm⟩:∃ m,m=o.length:=⟨_,rfl⟩
  rw [←hm] at hlook hcl
  replace hm:=Lib.hid hm
  replace hcl:=Lib.hid hcl
  clear uX hlists oN hl hv hk hE hlen
  go_enter Tryz.func19,Tryz.ntmps19
  go_wp2_with fail
  refine hcl.out.mono ?_;rintro e w2 ⟨v,rfl,hm2⟩
  replace hm2:=Lib.hid hm2
  go_wp2
  go_ret
  exact⟨_,rfl,hm2.out⟩
end
end Go.Proofs.YtmelaiefbpdifaaGreatDoor.Srv
namespace Go.Proofs.YtmelaiefbpdifaaGreatDoor.Srv
open Go.RowKit Go.Maps
open Pgs (Pg pgE cO nS nX jm headB find jQ qc)
theorem ZB(M:List Rw)(k:List UInt8):(aK M k).isSome=(jD M k).isSome:=(yx M k).2
theorem Qd{M:List Rw}{y:Nat}{o:List Pg}{k:Nat}(h:k<o.length):fC M y (o.take (k+1))=fC M y (o.take k)+if (aK M (jm y o[k].n.toNat)).isSome then 0 else 1:=by
 unfold fC
 rw [List.take_add_one,List.getElem?_eq_getElem h,List.filter_append,List.length_append,ZB]
 congr 1
 simp only [Option.toList_some,List.filter_cons,List.filter_nil]
 cases jD M (jm y o[k].n.toNat)<;>rfl
theorem tH(M:List Rw)(y:Nat)(o:List Pg):fC M y o≤o.length:=List.length_filter_le _ _
set_option maxRecDepth 100000 in
set_option maxHeartbeats 2000000 in
theorem GH(w1:World)(sb rp mb lp:Nat)(M:List Rw)(hsb:w1.cell? ⟨sb,3,none⟩=some (.pointer (some ⟨rp,0,none⟩)))(hR:gy w1 rp mb lp M)(x:Int)(y:Nat)(hx:x=y)(hy:y<4294967296)(A:Option Addr)(c m:Nat)(o:List Pg)(hm:m=o.length)(hA:Els pgE 2 w1 A o)(ho:Pgs.right o=true):
  Calls Tryz.prog 70 #[.pointer (some ⟨sb,0,none⟩),.int .u32 x,.slice A m c] w1 fun e w'=>e = .returned (.int .i64 (fC M y o:Int))∧Only [] w1 w':=by
 have hlen:=Pgs.eU ho
 have hmem:=qc o (-1) ho
 have hkey:=fun W (k:Nat) (hk:k<32)=>Pgs.TI W y k hy hk
 rw [←hx] at hkey
 have hget:=fun W (k:Only [] w1 W) (q:List UInt8) (hq:q.length≤1048576)=>get_any W rp mb lp M q hq (hR.kept k (by simp) (by simp))
 have hlen2:m≤32:=by omega
 replace hkey:=Lib.hid hkey
 replace hget:=Lib.hid hget
 replace hmem:=Lib.hid hmem
 replace hm:=Lib.hid hm
 have hfr:=Lib.hid (tH M y)
 clear hR hlen hx
 go_enter Tryz.func70,Tryz.ntmps70
 go_wp2_with fail
 go_loopw [7,14] (fun v i wr=>∃ k:Nat,k≤m∧i = .int .i64 k∧v = .int .i64 (fC M y (o.take k):Int)∧Only [] w1 wr) (fun _ i _=>m-(intOf i).toNat)
 case atStart=>exact⟨0,Nat.zero_le _,rfl,rfl,Only.refl [] _⟩
 case round=>
  obtain⟨k,hk,rfl,rfl,kr⟩:=hrel
  by_cases hlt:k<m
  ·have hk':k<o.length:=by have:=hm.out;omega
   obtain⟨g,off,rfl,_,hat⟩:=hA.get hk'
   obtain⟨c0,c1⟩:=Pgs.Ba (hat.kept kr (by simp)) hk'
   have hnext:=Qd (M:=M) (y:=y) hk'
   obtain⟨n1,n2,_,_⟩:=hmem.out o[k] (List.getElem_mem hk')
   have hT:fC M y (o.take k)≤32:=by
    have h1:=hfr.out (o.take k)
    rw [List.length_take] at h1
    omega
   have aeh:=kr.cell hsb (by simp)
   generalize o[k]=pg at *
   obtain⟨pn,pd⟩:=pg
   simp only at c0 c1 n1 n2 hnext
   obtain⟨z,hz⟩:∃ z:Nat,pn=z:=⟨pn.toNat,by omega⟩
   rw [hz,Int.toNat_natCast] at hnext
   rw [hz] at c0
   have hz32:z<32:=by omega
   have hkc:=hkey.out (k:=z) (hk:=hz32)
   have hgc:=fun W (k:Only [] w1 W)=>hget.out W k (jm y z) (by rw [jQ];decide)
   generalize strOf (jm y z)=ks at *
   generalize strOf (kF M (jm y z))=vv at *
   generalize (aK M (jm y z)).isSome=b at *
   generalize hT1:fC M y (o.take (k+1))=T1 at *
   generalize fC M y (o.take k)=T0 at *
   generalize strOf pd=ps at *
   clear n1 n2 hz hat
   replace hkc:=Lib.hid hkc
   replace hgc:=Lib.hid hgc
   replace hnext:=Lib.hid hnext
   replace hT1:=Lib.hid hT1
   go_wp2
   obtain⟨W1,hW1⟩:∃ W1,W1=wr.alloc (.cells #[.int .i64 (z:Int),.string ps] 138):=⟨_,rfl⟩
   rw [←hW1]
   have k1:Only [] wr W1:=by rw [hW1];exact (Only.refl [] wr).alloc _
   have p1:Blk W1 wr.heap.size 138 #[.int .i64 (z:Int),.string ps]:=by rw [hW1];exact Blk.new wr _ _
   have e1:=p1.cell 0
   simp only [List.getElem?_toArray,List.getElem?_cons_zero] at e1
   have f1:=k1.cell aeh (by simp)
   generalize wr.heap.size=q at *
   have e2:=(Only.refl [] W1).drew.cell e1 (by simp)
   have f2:=(Only.refl [] W1).drew.cell f1 (by simp)
   have kk:=(kr.trans k1).drew
   clear hW1 p1 k1 e1 f1 c0 c1
   refine wp_region_held_drew (S:=fun w'=>w'.cell? ⟨sb,3,none⟩=some (.pointer (some ⟨rp,0,none⟩))∧w'.cell? ⟨q,0,none⟩=some (.int .i64 (z:Int))) (by kernel_rfl) ⟨f2,e2⟩ (fun hHeld=> ?_)
   generalize W1.drew=wd at *
   refine rwT 0 (.pointer (some ⟨sb,0,none⟩)) hHeld ?_;simp only [rwA]
   refine rwT 1 (.pointer (some ⟨sb,0,none⟩)) hHeld ?_;simp only [rwA]
   refine rwT 2 (.pointer (some ⟨sb,3,none⟩)) hHeld ?_;simp only [rwA]
   refine rwY 3 (.pointer (some ⟨rp,0,none⟩)) hHeld ?_ (hy:=Or.inl ⟨by rfl,fun w' hSw=>by obtain⟨hc,_⟩:=hSw;go_simp⟩);simp only [rwA]
   refine rwT 4 (.int .u32 x) hHeld ?_;simp only [rwA]
   refine rwT 5 (.pointer (some ⟨q,0,none⟩)) hHeld ?_;simp only [rwA]
   refine rwY 6 (.int .i64 (z:Int)) hHeld ?_ (hy:=Or.inl ⟨by rfl,fun w' hSw=>by obtain⟨_,hc⟩:=hSw;go_simp⟩);simp only [rwA]
   refine ah 7 rfl (by kernel_rfl) (fun K hK=> ?_)
   go_simp
   refine (hkc.out _).mono ?_;rintro e w3 ⟨rfl,k3⟩
   have e3:=k3.cell e2 (by simp)
   have f3:=k3.cell f2 (by simp)
   have kk3:=kk.trans k3
   go_wp2_with fail
   refine hK.out _ _ ⟨f3,e3⟩ (fun hHeld=> ?_)
   clear hK K
   refine ah 8 rfl (by kernel_rfl) (fun K hK=> ?_)
   go_simp
   refine (hgc.out _ kk3).mono ?_;rintro e w4 ⟨rfl,k4⟩
   have e4:=k4.cell e3 (by simp)
   have f4:=k4.cell f3 (by simp)
   have kk4:=kk3.trans k4
   go_wp2_with fail
   refine hK.out _ _ ⟨f4,e4⟩ (fun hHeld=> ?_)
   clear hK K
   refine rwT 9 (.tuple #[.string vv,.bool b]) hHeld ?_;simp only [rwA]
   refine rwT 10 (.string vv) hHeld ?_;simp only [rwA]
   refine rwT 11 (.bool b) hHeld ?_;simp only [rwA]
   refine rwT 12 (.string vv) hHeld ?_;simp only [rwA]
   refine rwT 13 (.bool b) hHeld ?_;simp only [rwA]
   refine wpAnyH_done (by kernel_rfl) ?_ _
   clear hHeld
   replace kk4:=Lib.hid kk4
   clear kk3 kk k3 k4 e2 f2 e3 f3 e4 f4
   cases b with
   | true=>
    go_wp2
    go_roundw
    case rel=>exact⟨k+1,by omega,by go_num,by have:=hnext.out;simp at this;rw [hT1.out,this],kk4.out⟩
    case measure=>simp [intOf];omega
   | false=>
    go_wp2
    go_roundw
    case rel=>exact⟨k+1,by omega,by go_num,by have:=hnext.out;simp at this;rw [hT1.out,this];go_num,kk4.out⟩
    case measure=>simp [intOf];omega
  ·have hkn:o.take k=o:=List.take_of_length_le (by have:=hm.out;omega)
   rw [hkn]
   go_wp2
   go_ret
   exact⟨rfl,kr⟩
end Go.Proofs.YtmelaiefbpdifaaGreatDoor.Srv
namespace Go.Proofs.YtmelaiefbpdifaaGreatDoor.Srv
open Go.RowKit Go.Maps
open Pgs (Pg pgE cO nS nX jm headB find mW)
def sG(w:World)(rb lb n:Nat)(D:DataW Value)(left:Lit→Bool)(cnt:Nat):Prop:=w.ranges Tryz.prog 49 Dy lb rb n D left cnt
def Nu(L:List (Nat × List Pg))(left:Lit→Bool)(done:List (Nat × List Pg)):Prop:=done.Nodup∧∀ q,q∈done↔(q∈L∧left (.int .u32 (q.1:Int))=false)
theorem Uniq.nodup{L:List (Nat × List Pg)}(h:Uniq L):L.Nodup:=h.imp fun hne e=>hne (by rw [e])
theorem Nu.step{L:List (Nat × List Pg)}(hu:Uniq L){left:Lit→Bool}{done:List (Nat × List Pg)}(h:Nu L left done){q:Nat × List Pg}(hq:q∈L)(hl:left (.int .u32 (q.1:Int))=true):Nu L (fun z=>left z && !z.sameKey (.int .u32 (q.1:Int))) (done++[q]):=by
 have hn:q∉done:=fun hm=>by have:=((h.2 q).1 hm).2;rw [hl] at this;cases this
 refine⟨List.nodup_append.2 ⟨h.1,by simp,fun a ha b hb=>by simp at hb;subst hb;exact fun e=>hn (e ▸ ha)⟩,fun x=> ?_⟩
 rw [List.mem_append,h.2 x,List.mem_singleton]
 simp only [Bool.and_eq_false_iff,Bool.not_eq_false']
 constructor
 ·rintro (⟨h1,h2⟩ | rfl)
  ·exact⟨h1,.inl h2⟩
  ·exact⟨hq,.inr (by simp [Lit.sameKey])⟩
 ·rintro⟨h1,h2 | h2⟩
  ·exact .inl ⟨h1,h2⟩
  ·refine .inr ?_
   have e:x.1=q.1:=by
    have:=WideAt.sameKey_eq h2
    injection this with _ this
    omega
   have e1:=Gi hu (x:=x.1) (o:=x.2) h1
   have e2:=Gi hu (x:=q.1) (o:=q.2) hq
   rw [e,e2] at e1
   injection e1 with e1
   exact Prod.ext e e1.symm
theorem Nu.perm{L:List (Nat × List Pg)}(hu:Uniq L){left:Lit→Bool}{done:List (Nat × List Pg)}(h:Nu L left done)(hl:∀ kl,left kl=false):done.Perm L:=(List.perm_ext_iff_of_nodup h.1 hu.nodup).2 fun q=>by rw [h.2 q,hl];simp
theorem Vz{l m:List Nat}(h:l.Perm m):l.sum=m.sum:=by
 induction h with
 | nil=>rfl
 | cons x _ ih=>simp [ih]
 | swap x y l=>simp only [List.sum_cons];omega
 | trans _ _ h1 h2=>exact h1.trans h2
theorem Q7(M:List Rw){l m:List (Nat × List Pg)}(h:l.Perm m):sumF M l=sumF M m:=Vz (h.map _)
theorem Q5(M:List Rw)(l:List (Nat × List Pg))(q:Nat × List Pg):sumF M (l++[q])=sumF M l+fC M q.1 q.2:=by simp [sumF]
theorem Q8(M:List Rw):∀ (l:List (Nat × List Pg)),(∀ q∈l,Pgs.right q.2=true)→sumF M l≤32*l.length
 | [],_=>Nat.le_refl _
 | q :: r,h=>by
  have ih:=Q8 M r fun x hx=>h x (by simp [hx])
  have h1:=tH M q.1 q.2
  have h2:=Pgs.eU (h q (by simp))
  have e:sumF M (q :: r)=fC M q.1 q.2+sumF M r:=by simp [sumF]
  rw [e,List.length_cons]
  omega
section
variable {w:World}{rb lb n cnt:Nat}{L:List (Nat × List Pg)}{vs:Nat→Value}{D:DataW Value}{left:Lit→Bool}
theorem sG.kept{S:List Nat}{w':World}(h:sG w rb lb n D left cnt)(k:Only S w w')(h1:rb∉S)(h2:lb∉S):sG w' rb lb n D left cnt:=by
 have l1:rb<w.heap.size:=World.ranges.lt h
 have l2:lb<w.heap.size:=(World.ranges.owns h).lt
 obtain⟨es,clock,since,seen,c0,hb,F,hs,hD,hr,rest⟩:=h
 exact⟨es,clock,since,seen,c0,(k.block lb l2 h2).trans hb,F,hs,hD,(k.block rb l1 h1).trans hr,rest⟩
theorem sG.left_eq(h:sG w rb lb n D left cnt):w.rangeLeft lb rb=cnt:=World.ranges.left_eq h
theorem sG.lt(h:sG w rb lb n D left cnt):rb<w.heap.size:=World.ranges.lt h
theorem vS{ops:Array Oper}{rest:List Oper}{o:Oper}{a:Act}{Q:Exit→Act→World→Prop}(hg:o.guard=none)(m:Operand)(hop:o.op=Op.range 111 m)(hm:a.eval m = .map (some lb))(h:fD w lb n L vs D)
  (hK:∀ w',sG w' w.heap.size lb n D (has D) (Maps.size D)→Only [] w w'→w'.heap.size=w.heap.size+1→wpList Tryz.prog ops Q rest (a.put o.dst (.pointer (some ⟨w.heap.size,0,none⟩))) w'):
  wpList Tryz.prog ops Q (o :: rest) a w:=
 wpList_range_own w hg m _ hop _ _ aag Tryz.underlying111 Dy lb n D hm h.own (fun w' h1 h2 h3=>hK w' h1 ⟨h2.os,h2.tape,h2.output,h2.size,fun k hk _=>h2.block k hk (by simp)⟩ h3)
theorem xK{ops:Array Oper}{rest:List Oper}{o:Oper}{a:Act}{Q:Exit→Act→World→Prop}(hg:o.guard=none)(it:Operand)(hop:o.op=Op.next it false)(hit:a.eval it = .pointer (some ⟨rb,0,none⟩))(hl:fD w lb n L vs D)(h:sG w rb lb n D left cnt)
  (hDone:(∀ kl,left kl=false)→wpList Tryz.prog ops Q rest (a.put o.dst (.tuple #[.bool false])) w)
  (hMore:∀ (x:Nat) (q:List Pg) (w':World) (cnt':Nat),x<4294967296→iU L x=some q→left (.int .u32 (x:Int))=true→sG w' rb lb n D (fun z=>left z && !z.sameKey (.int .u32 (x:Int))) cnt'→cnt'<cnt→Only [rb] w w' →
   (Instr.entry (.pointer (some ⟨rb,0,none⟩))).run Tryz.prog w' = .ok (.tuple #[.int .u32 (x:Int),vs x]) w' →
   wpList Tryz.prog ops Q rest (a.put o.dst (.tuple #[.bool true,.int .u32 (x:Int),vs x])) w'):
  wpList Tryz.prog ops Q (o :: rest) a w:=
 wpList_next_ranges (α:=Value) (β:=Value) w hg it hop 49 aag Dy id id (fun key _ _=>⟨key,rfl⟩) (fun v _ _=>⟨v,rfl⟩) lb rb n D left cnt hit h (fun _ hl=>hDone hl)
  (fun x c kl y w' cnt' hkey hlk hv hat hrg hlt hgr _ hen=>by
   obtain⟨z,hx,rfl,hz⟩:=Maps.keyOf_int_inv Tryz.underlying49 hkey
   have hx':x = .int .u32 z:=hx
   have hz2:0≤z∧z<4294967296:=by
    simp [Lit.wf,IntKind.min,IntKind.max,IntKind.bits,IntKind.signed] at hz
    omega
   obtain⟨j,rfl⟩:∃ j:Nat,z=j:=⟨z.toNat,by omega⟩
   have hj:j<4294967296:=by omega
   have hhas:=has_true_of_atKey hat
   rw [hl.has j hj] at hhas
   obtain⟨q,hf⟩:=Option.isSome_iff_exists.1 hhas
   have h1:=hat .nil
   rw [hl.at_ j q hj hf] at h1
   have hv':Dy c=some y:=hv
   unfold Dy at hv'
   injection hv' with hv'
   rw [←hv'] at h1
   simp only [DataW.held.injEq] at h1
   simp only [id] at hen ⊢
   rw [hx',←h1] at hen ⊢
   exact hMore j q w' cnt' hj hf hlk hrg hlt ⟨hgr.os,hgr.tape,hgr.output,hgr.size,fun k hk hn=>hgr.block k hk (fun e=>hn (by injection e with e;simp [e]))⟩ hen)
end
section
variable {w w1:World}{R:List Nat}{sb p n c rp mb lp lb:Nat}{σ:Sv}{s:St}{f:Bool}{F:List Nat}{vs:Nat→Value}{D:DataW Value}
theorem VO(w:World):Calls Tryz.prog 28 #[.pointer none] w fun e w'=>e = .returned (.int .i64 0)∧w'=w:=by
 go_enter Tryz.func28,Tryz.ntmps28
 go_wp2
 go_ret
 exact⟨rfl,rfl⟩
set_option maxRecDepth 100000 in
set_option maxHeartbeats 4000000 in
theorem dA.room(h:dA w w1 R sb p σ s n f c rp mb lp lb F vs D):
  Calls Tryz.prog 28 #[.pointer (some ⟨sb,0,none⟩)] w1 fun e w'=>e = .returned (.int .i64 (FP σ))∧Only [] w1 w':=by
 obtain⟨_,_,_,c3,c4⟩:=h.cells
 have hfew:=h.RI
 have hN:=h.ok.few
 have hfree:=fun W (k:Only [] w1 W)=>GI W rp mb lp p n f F s σ.M (h.own.rows.kept k (by simp) (by simp)) (Blk.kept h.own.own.log k (by simp)) (h.own.own.dev.kept k (by simp)) (by omega)
 rw [show (s.aA.length:Int)-41-(σ.M.length:Int)=(σ.N:Int)-(σ.M.length:Int) by have:=h.len;omega] at hfree
 have zo:=fun W (k:Only [] w1 W)=>mW W rp mb lp σ.M (h.own.rows.kept k (by simp) (by simp)) h.ok.good.sorted (by omega) [69]
 have hu:(aP σ.M [69]).length≤983:=by
  have h1:(aP σ.M [69]).length≤σ.M.length:=by unfold aP;rw [List.length_map];exact List.length_filter_le _ _
  omega
 have hfr:=fun W (k:Only [] w1 W) (x:Nat) (hx:x<4294967296) (o:List Pg) (ho:iU σ.L x=some o)=>show Calls Tryz.prog 70 #[.pointer (some ⟨sb,0,none⟩),.int .u32 (x:Int),vs x] W fun e w'=>e = .returned (.int .i64 (fC σ.M x o:Int))∧Only [] W w' from by
  obtain⟨A,j,hv,_,hE,_⟩:=h.lists x o ho
  rw [hv]
  exact GH W sb rp mb lp σ.M (k.cell c3 (by simp)) (h.own.rows.kept k (by simp) (by simp)) x x rfl hx A j o.length o rfl (hE.kept k (by simp)) (h.ok.loose _ (wO ho)).1
 have oN:=h.loose
 have TT:=h.ok.uniq
 have hrt:=h.ok.loose
 have hlen:=h.ok.len
 have hc:=h.few
 have kY:Nu σ.L (has D) []:=by
  refine⟨List.nodup_nil,fun q=>⟨fun hq=>(by cases hq),?_⟩⟩
  rintro⟨h1,h2⟩
  rw [oN.has q.1 (hrt q h1).2,Gi TT (o:=q.2) h1] at h2
  cases h2
 have hsum:=fun (done:List (Nat × List Pg)) (hd:∀ q∈done,q∈σ.L)=>Q8 σ.M done fun q hq=>(hrt q (hd q hq)).1
 unfold FP
 have hMl:0≤(σ.N:Int)-(σ.M.length:Int)∧(σ.N:Int)-(σ.M.length:Int)≤1024:=by
  have:=h.ok.good.length
  omega
 have hlb:lb<w1.heap.size:=oN.lt
 clear h hfew hN
 generalize (σ.N:Int)-(σ.M.length:Int)=X at *
 have hUl:((aP σ.M [69]).length:Int)≤983:=by omega
 have adW:0≤((aP σ.M [69]).length:Int):=by omega
 replace hrt:=Lib.hid hrt
 replace TT:=Lib.hid TT
 replace hfree:=Lib.hid hfree
 replace zo:=Lib.hid zo
 replace hfr:=Lib.hid hfr
 replace hsum:=Lib.hid hsum
 replace hlen:=Lib.hid hlen
 replace hc:=Lib.hid hc
 clear hu
 obtain⟨u,hU⟩:∃ u,u=(aP σ.M [69]).length:=⟨_,rfl⟩
 rw [←hU] at hUl adW
 have hw1:IntKind.i64.wrap (X-40)=X-40:=by rw [IntKind.wrap_i64];omega
 obtain⟨Y,hY⟩:∃ Y,Y=X-40+(u:Int):=⟨_,rfl⟩
 have hw2:IntKind.i64.wrap (X-40+(u:Int))=Y:=by rw [IntKind.wrap_i64];omega
 rw [←hU,←hY]
 replace hU:=Lib.hid hU
 have hR0 : -40≤Y∧Y≤3000:=by omega
 replace hY:=Lib.hid hY
 go_enter Tryz.func28,Tryz.ntmps28
 go_wp2_with fail
 have kd:Only [] w1 w1.drew:=(Only.refl [] w1).drew
 have cd:=kd.cell c3 (by simp)
 refine wp_region_held_drew (S:=fun w'=>w'.cell? ⟨sb,3,none⟩=some (.pointer (some ⟨rp,0,none⟩))) (by kernel_rfl) cd (fun hHeld=> ?_)
 generalize w1.drew=wd at *
 refine rwT 0 (.pointer (some ⟨sb,0,none⟩)) hHeld ?_;simp only [rwA]
 refine rwT 1 (.pointer (some ⟨sb,0,none⟩)) hHeld ?_;simp only [rwA]
 refine rwT 2 (.pointer (some ⟨sb,3,none⟩)) hHeld ?_;simp only [rwA]
 refine rwT 3 (.pointer (some ⟨rp,0,none⟩)) hHeld ?_;simp only [rwA]
 refine rwT 6 (.pointer (some ⟨sb,0,none⟩)) hHeld ?_;simp only [rwA]
 refine rwT 7 (.pointer (some ⟨sb,0,none⟩)) hHeld ?_;simp only [rwA]
 refine rwT 8 (.pointer (some ⟨sb,3,none⟩)) hHeld ?_;simp only [rwA]
 refine rwT 9 (.pointer (some ⟨rp,0,none⟩)) hHeld ?_;simp only [rwA]
 refine ah 4 rfl (by kernel_rfl) (fun K hK=> ?_)
 go_simp
 refine (hfree.out _ kd).mono ?_;rintro e w2 ⟨rfl,k2⟩
 have c2:=k2.cell cd (by simp)
 have k02:=kd.trans k2
 go_wp2_with fail
 refine hK.out _ _ c2 (fun hHeld=> ?_)
 clear hK K
 refine rwT 5 (.int .i64 (X-40)) hHeld ?_;simp only [rwA]
 refine ah 10 rfl (by kernel_rfl) (fun K hK=> ?_)
 go_simp
 refine (zo.out _ k02).mono ?_;rintro e w3 ⟨v,rfl,hne⟩
 obtain⟨B,cb,rfl,_,_,k3,_⟩:=hne
 have e3:=k3.cell c2 (by simp)
 have k03:=k02.trans k3
 rw [←hU.out]
 go_wp2_with fail
 refine hK.out _ _ e3 (fun hHeld=> ?_)
 clear hK K
 refine rwT 11 (.int .i64 (u:Int)) hHeld ?_;simp only [rwA]
 refine rwT 12 (.int .i64 Y) hHeld ?_;simp only [rwA]
 refine rwT 13 (.int .i64 Y) hHeld ?_;simp only [rwA]
 refine wpAnyH_done (by kernel_rfl) ?_ _
 clear hHeld
 have c43:=k03.cell c4 (by simp)
 have hl3:=oN.kept k03 (by simp)
 have hs3:=k03.size
 replace hs3:=Lib.hid hs3
 clear hw1 hw2 cd c2 e3 kd k2 k3 k02 hMl hUl adW c3 c4
 go_wp2_with (at_range;refine vS rfl _ rfl rfl hl3 ?_;intro w4 hrg4 k4 hs4)
 go_frame
 obtain⟨rb,hrb⟩:∃ rb,rb=w3.heap.size:=⟨_,rfl⟩
 rw [←hrb] at hrg4
 simp only [←hrb]
 have afh:¬lb=rb:=by have:=hl3.lt;omega
 have aaF:w1.heap.size≤rb:=by have:=hs3.out;omega
 replace hrb:=Lib.hid hrb
 replace aaF:=Lib.hid aaF
 clear hs4 c43 hl3
 go_loopw [3] (fun v wr=>∃ left cnt done,sG wr rb lb c D left cnt∧Hid (Nu σ.L left done)∧v = .int .i64 (Y-(sumF σ.M done:Int))∧Only [] w1 wr) (fun _ w'=>w'.rangeLeft lb rb)
 case atStart=>exact⟨_,_,[],hrg4,Lib.hid kY,by simp [sumF],k03.trans k4⟩
 case round=>
  clear hrg4 kY k4
  obtain⟨left,cnt,done,hrg,kY,rfl,kr⟩:=hrel
  have hlr:=oN.kept kr (by simp)
  go_wp2_with (at_next;refine xK rfl _ rfl rfl hlr hrg ?_ ?_)
  ·intro hleft
   have hperm:=kY.out.perm TT.out hleft
   rw [Q7 σ.M hperm]
   clear hrg hlr hleft
   go_wp2
   go_ret
   exact⟨rfl,kr⟩
  ·intro x q w5 ZM hx hq hlx Yn Kz k5 hent
   have hin:=wO hq
   have uw:=kY.out.step TT.out hin hlx
   have QH:=hrg.left_eq
   have k15:Only [] w1 w5:=kr.then k5 (fun i hi=>.inr (by simp at hi;rw [hi];exact aaF.out))
   have hf:=hfr.out w5 k15 x hx q hq
   have hsn:=Q5 σ.M done (x,q)
   simp only at hsn
   have hbd:sumF σ.M done≤32000000∧fC σ.M x q≤32:=by
    have hmem:∀ z∈done,z∈σ.L:=fun z hz=>((kY.out.2 z).1 hz).1
    have h1:=hsum.out done hmem
    have h2:done.length≤σ.L.length:=by classical exact kU done σ.L kY.out.1 hmem
    have h3:=hlen.out
    have h4:=hc.out
    have h5:=tH σ.M x q
    have h6:=Pgs.eU (hrt.out _ hin).1
    simp only at h6
    omega
   have hw:IntKind.i64.wrap (Y-(sumF σ.M done:Int)-(fC σ.M x q:Int))=Y-(sumF σ.M done:Int)-(fC σ.M x q:Int):=by rw [IntKind.wrap_i64];omega
   generalize vs x=vx at *
   generalize hT:sumF σ.M (done++[(x,q)])=T1 at *
   generalize sumF σ.M done=T0 at *
   generalize fC σ.M x q=fr at *
   replace uw:=Lib.hid uw
   replace hT:=Lib.hid hT
   replace QH:=Lib.hid QH
   replace hf:=Lib.hid hf
   replace hsn:=Lib.hid hsn
   replace hbd:=Lib.hid hbd
   clear hrg kY hlx k5 hin hq hlr kr
   go_wp2_with fail
   refine hf.out.mono ?_;rintro e w6 ⟨rfl,k6⟩
   have Vm:=Yn.kept k6 (by simp) (by simp)
   have k16:=k15.trans k6
   have Zh:=Vm.left_eq
   replace Zh:=Lib.hid Zh
   clear Yn k6 k15 hf
   go_wp2
   go_roundw
   case rel=>exact⟨_,ZM,done++[(x,q)],Vm,uw,by have:=hsn.out;rw [hT.out,this];congr 1;omega,k16⟩
   case measure=>rw [Zh.out,QH.out];exact Kz
end
end Go.Proofs.YtmelaiefbpdifaaGreatDoor.Srv
namespace Go.Proofs.YtmelaiefbpdifaaGreatDoor.Srv
open Go.RowKit Go.Maps
open Pgs (Pg pgE cO nS nX jm headB find yE E5 qx J8)
section
variable {α:Type}{enc:α→List Value}{k:Nat}{w:World}{P:Program}
theorem Am(hk:∀ x,(enc x).length=k)(h0:0<k)(h1:∀ x,∀ v∈enc x,v.oneCell'=true){ops:Array Oper}{o:Oper}{a:Act}{K:Act→World→Prop}{Q:Exit→Act→World→Prop}{E:Prop}(hgd:o.guard=none)(s y:Operand)(t:TypeId)
  (ho:o.op = .call { callee:=.builtin .append,args:=#[s,y],argTypes:=#[t,t] })
  (e:TypeId) (z:Value) (bytes:Nat) (ht:P.underlying t=some (.slice e)) (hinfo:(P.info? e).map (fun i=>(i.zero,i.size,i.bytes))=some (some z,k,bytes)) (hzs:z.cells.size=k)
  (v:Value) (n:Nat) (xs:List α) (hs:a.eval s=v) (hown:w.ownsRow 0 e k v n (encs enc xs))
  (A:Option Addr) (c m:Nat) (ys:List α) (hm:m=ys.length) (hx:a.eval y = .slice A m c) (hsrc:Els enc k w A ys)
  (h63:n+ys.length≤maxLen) (hbytes:(n+ys.length)*bytes≤140737488355328)
  (h:∀ v' w',w'.ownsRow 0 e k v' (n+ys.length) (encs enc (xs++ys))→w.grownBy w' v.ownBlock→(v'.ownBlock=v.ownBlock∨v'.ownBlock=some w.heap.size)→K (a.put o.dst v') w'):
  if Region.wanted o (yielded ops a.tmps)=true then Oper.wp P o a w K Q else E:=by
 subst hm
 have hw:Region.wanted o (yielded ops a.tmps)=true:=by simp [Region.wanted,hgd]
 rw [if_pos hw]
 obtain⟨i,hi,hz0,hz1,hz2⟩:=info_parts hinfo
 rcases hsrc with hnil | ⟨g,p,rfl,hg,hat⟩
 ·subst hnil
  have hsrc:Src P i.size t (.slice A 0 c) 0 [] w:=by
   cases A with
   | none=>exact Src.ofNil w ht c
   | some a=>exact Src.ofSlice w ht a 0 c [] (by simp) (fun j u hj=>by simp at hj) (fun _ h=>by cases h)
  have hrun:(Builtin.append_ #[t,t] o.type #[v,.slice A 0 c]).run P w = .ok v w:=by
   rcases id hown.2 with⟨rfl,rfl⟩ | ⟨g,cap,cur,rfl,_,_,hnc,_⟩
   ·exact run_append_nothing w t t o.type e i ht hi none 0 0 (Nat.le_refl _) _ hsrc
   ·exact run_append_nothing w t t o.type e i ht hi _ n cap hnc _ hsrc
  simp only [List.length_nil] at hx
  unfold Oper.wp execOp
  simp only [ho,resolve,invoke,builtin,Sem.run_bind,Sem.run_pure,Result.andThen_ok,List.map_toArray,List.map_cons,List.map_nil,hs,hx,hrun]
  exact h v w (by simpa using hown) (World.grownBy.refl _ _) (.inl rfl)
 ·obtain⟨v',w',hrun,h2,h3,_,h4⟩:=run_append_own_at (P:=P) w 0 t o.type e i z k bytes ht hi hz0 hz1 hz2 hzs h0 v n (encs enc xs) hown ⟨g,p,none⟩ ys.length c (encs enc ys) (mg hk ys) (zY hk h0 hat) (GZ h1 ys) h63 hbytes (Nat.zero_le _)
  rw [←qw] at h2
  unfold Oper.wp execOp
  simp only [ho,resolve,invoke,builtin,Sem.run_bind,Sem.run_pure,Result.andThen_ok,List.map_toArray,List.map_cons,List.map_nil,hs,hx,hrun]
  exact h v' w' h2 h3 h4
end
theorem Mine.appended{α:Type}{enc:α→List Value}{k:Nat}{e:TypeId}{w w1 w2:World}{v v':Value}{l ys:List α}(h:Mine enc k e w w1 v l)(h1:w2.ownsRow 0 e k v' (l.length+ys.length) (encs enc (l++ys)))(h2:w1.grownBy w2 v.ownBlock)(h3:v'.ownBlock=v.ownBlock∨v'.ownBlock=some w1.heap.size):Mine enc k e w w2 v' (l++ys):=by
 refine⟨by rw [List.length_append];exact h1,fun g hg=> ?_,h.only.grown h2 (fun j hj=>.inr (h.new j hj))⟩
 rcases h3 with h3 | h3
 ·exact h.new g (by rw [←h3];exact hg)
 ·rw [h3] at hg
  injection hg with hg
  have:=h.only.size
  omega
theorem ou(M:List Rw)(x:Nat):Pgs.right (dU M x)=true:=by
 unfold dU Pgs.ldL
 split
 ·rename_i h
  unfold Pgs.mV at h
  rw [Bool.and_eq_true] at h
  exact h.2
 ·rfl
theorem oJ{σ:Sv}{c:Nat}(h:σ.Ok c)(x:Nat):Pgs.right (vM σ x)=true:=by
 unfold vM
 cases hl:iU σ.L x with
 | none=>exact ou _ _
 | some o=>exact (h.loose _ (wO hl)).1
theorem zA{N:Nat}{M M':List Rw}{s s':St}{n n':Nat}{f':Bool}{l:List Ch}{x:Int}(h:dN N M s n false l x M' s' n' f'):s'.aA.length=s.aA.length:=by
 rcases h with⟨_,_,_,hs,_⟩ | ⟨_,_,_,_,hs,_⟩ | ⟨_,_,_,_,_,hs,_⟩ | ⟨_,_,_,ss,_,_,hc,_⟩
 ·rw [hs]
 ·rw [hs]
 ·rw [hs]
 ·rcases Qp hc with hs | ⟨_,hs⟩
  ·rw [hs]
  ·rw [hs,MQ]
theorem xk{N:Nat}{M M':List Rw}{s s':St}{n n':Nat}{f':Bool}{l:List Ch}{x:Int}(hM:Good N M)(h:dN N M s n false l x M' s' n' f'):Good N M':=by
 rcases h with⟨_,_,rfl,_⟩ | ⟨_,_,_,rfl,_⟩ | ⟨_,_,_,_,rfl,_⟩ | ⟨h1,_,_,ss,hd,_,_,rfl⟩
 ·exact hM
 ·exact hM
 ·exact hM
 ·split
  ·exact EK hM (nZ h1).news ru hd
  ·exact hM
def turned(σ:Sv)(x:Nat)(e:Int)(M':List Rw):Sv:={ σ with M:=M',L:=if e=0 then yC σ.L x else σ.L }
theorem QO{σ:Sv}{c x:Nat}{e:Int}{M':List Rw}(h:σ.Ok c)(hM:Good σ.N M'):(turned σ x e M').Ok c:=by
 unfold turned
 refine⟨hM,h.few,?_,?_,?_,h.seat,h.me,h.jC⟩
 ·simp only
  split
  ·exact h.uniq.del x
  ·exact h.uniq
 ·intro q hq
  simp only at hq
  split at hq
  ·exact h.loose q (Td hq)
  ·exact h.loose q hq
 ·simp only
  split
  ·exact Nat.le_trans (Tt _ _) h.len
  ·exact h.len
def Ox(w w1 w':World)(R:List Nat)(sb p:Nat)(σ:Sv)(s:St)(n c x:Nat)(o:List Pg)(ch:List Ch)(e:Ending):Prop:=
 ∃ er M' s' n' f' R',e = .returned (.int .i64 er)∧dN σ.N σ.M s n false (qV σ.M x o ch) er M' s' n' f'∧vO w w' R' sb p (turned σ x er M') s' n' f' c∧Only R w1 w'∧∀ j∈R',j∈R∨w1.heap.size≤j
section
variable {w w1 w8 w9:World}{R:List Nat}{sb p n c rp mb lp lb:Nat}{σ:Sv}{s:St}{F:List Nat}{vs:Nat→Value}{D:DataW Value}
theorem dA.committed(h:dA w w1 R sb p σ s n false c rp mb lp lb F vs D)(k18:Only [] w1 w8){M':List Rw}{s':St}{n':Nat}{f':Bool}{F':List Nat}{l:List Ch}{er:Int}(hc:dN σ.N σ.M s n false l er M' s' n' f')
  (h5:Own5 w w9 F' rp mb lp p s' n' f' M') (k9:Only (mb :: lp :: F) w8 w9) (hF:∀ j∈F',j∈F∨w8.heap.size≤j):
  dA w w9 (R++F') sb p { σ with M:=M' } s' n' f' c rp mb lp lb F' vs D∧Only (lb :: mb :: lp :: F) w1 w9∧∀ j∈R++F',j∈R∨w1.heap.size≤j:=by
 have h8:=h.keep k18
 have afa:=k18.size
 have hlt:∀ i∈sb :: lb :: rp :: mb :: lp :: F,i<w1.heap.size:=fun i hi=>(h.new i (h.inR i hi)).2
 have hnF:∀ i,i<w1.heap.size→i∉F→i∉F':=fun i hi hn hm=>by
  rcases hF i hm with h' | h'
  ·exact hn h'
  ·omega
 have a2:=h.ap2
 have a3:=h.ap3
 simp only [List.mem_cons,not_or] at a2 a3
 have aej:sb∉mb :: lp :: F:=by simp only [List.mem_cons,not_or];exact⟨a2.2.1,a2.2.2.1,a2.2.2.2⟩
 have aeF:lb∉mb :: lp :: F:=by simp only [List.mem_cons,not_or];exact⟨a3.2.1,a3.2.2.1,a3.2.2.2⟩
 refine⟨⟨h5,h8.hdr.kept k9 aej,h8.loose.kept k9 aeF,fun x o hx=> ?_,h.ap1,?_,?_,fun i hi=> ?_,fun i hi=> ?_,?_,?_,h.few⟩,?_,?_⟩
 ·obtain⟨A,j,e1,e2,e3,e4⟩:=h8.lists x o hx
  refine⟨A,j,e1,e2,e3.kept k9 (fun a ha hm=>(e4 a ha).2 ?_),fun a ha=>⟨List.mem_append.2 (.inl (e4 a ha).1),?_⟩⟩
  ·exact List.mem_cons_of_mem _ (List.mem_cons_of_mem _ hm)
  ·have h1:=(e4 a ha).2
   have h2:=(h.new _ (e4 a ha).1).2
   simp only [List.mem_cons,not_or] at h1 ⊢
   exact⟨h1.1,h1.2.1,h1.2.2.1,h1.2.2.2.1,hnF _ h2 h1.2.2.2.2⟩
 ·simp only [List.mem_cons,not_or]
  exact⟨a2.1,a2.2.1,a2.2.2.1,hnF _ (hlt sb (by simp)) a2.2.2.2⟩
 ·simp only [List.mem_cons,not_or]
  exact⟨a3.1,a3.2.1,a3.2.2.1,hnF _ (hlt lb (by simp)) a3.2.2.2⟩
 ·simp only [List.mem_cons] at hi
  rcases hi with rfl | rfl | rfl | rfl | rfl | hi
  ·exact List.mem_append.2 (.inl (h.inR _ (by simp)))
  ·exact List.mem_append.2 (.inl (h.inR _ (by simp)))
  ·exact List.mem_append.2 (.inl (h.inR _ (by simp)))
  ·exact List.mem_append.2 (.inl (h.inR _ (by simp)))
  ·exact List.mem_append.2 (.inl (h.inR _ (by simp)))
  ·exact List.mem_append.2 (.inr hi)
 ·rcases List.mem_append.1 hi with hi | hi
  ·have:=h.new i hi
   have:=k9.size
   exact⟨by omega,by omega⟩
  ·exact h5.own.new i hi
 ·rw [zA hc];exact h.len
 ·have hg:=xk h.ok.good hc
  have ho:=h.ok
  exact⟨hg,ho.few,ho.uniq,ho.loose,ho.len,ho.seat,ho.me,ho.jC⟩
 ·exact (k18.more (T:=lb :: mb :: lp :: F) (by simp)).then k9 (fun i hi=>.inl (List.mem_cons_of_mem _ hi))
 ·intro j hj
  rcases List.mem_append.1 hj with hj | hj
  ·exact .inl hj
  ·rcases hF j hj with h' | h'
   ·exact .inl (h.inR j (by simp [h']))
   ·exact .inr (by omega)
set_option maxRecDepth 100000 in
set_option maxHeartbeats 4000000 in
theorem dA.settle(h:dA w w1 R sb p σ s n false c rp mb lp lb F vs D)(hn:n<4294967296)(bY:s.late.length+200≤1048576)(x:Int)(y:Nat)(hx:x=y)(hy:y<4294967296)
  (A:Option Addr) (ca m:Nat) (o:List Pg) (hm:m=o.length) (hA:Els pgE 2 w1 A o) (ho:Pgs.right o=true) (B:Option Addr) (cb m2:Nat) (ch:List Ch) (hm2:m2=ch.length) (hB:Els chE 3 w1 B ch) (hch:ch.length≤1) (hok:wJ ch):
  Calls Tryz.prog 204 #[.pointer (some ⟨sb,0,none⟩),.int .u32 x,.slice A m ca,.slice B m2 cb] w1 fun e w'=>Ox w w1 w' R sb p σ s n c y o ch e:=by
 obtain⟨_,_,_,c3,c4⟩:=h.cells
 have uX:=h.sure x y hx hy
 have P9:=fun W (A0:Option Addr) (k0:Nat) (hS:Els pgE 2 W A0 (dU σ.M y)) (hA':Els pgE 2 W A o)=>
  show Calls Tryz.prog 230 #[.int .u32 x,.slice A0 (dU σ.M y).length k0,.slice A m ca] W fun e w'=>∃ v,e = .returned (.tuple #[v,.int .i64 0])∧Mine chE 3 133 W w' v (yE y (dU σ.M y) o) from by
   rw [hx];exact E5 W A0 A k0 ca _ m y hy _ _ rfl hS (ou _ _) hm hA' ho
 have hcm:=fun W (k:Only [] w1 W) (A1:Option Addr) (k1:Nat) (hE:Els chE 3 W A1 (yE y (dU σ.M y) o++ch)) (hk1:(yE y (dU σ.M y) o++ch).length≤k1)=>
  (h.keep k).own.commit A1 k1 (yE y (dU σ.M y) o++ch) h.len h.ok.good hn hE (fun z hz=>by
   rcases List.mem_append.1 hz with hz | hz
   ·exact J8 ho z hz
   ·exact hok z hz) (by have:=qx y (dU σ.M y) o;rw [List.length_append];omega) hk1 bY
 have hlen:(yE y (dU σ.M y) o).length≤32:=qx _ _ _
 have hset:qV σ.M y o ch=yE y (dU σ.M y) o++ch:=rfl
 have adg:=(h.new sb (h.inR sb (by simp))).2
 have aby:sb∉mb :: lp :: F:=by
  have a2:=h.ap2
  simp only [List.mem_cons,not_or] at a2 ⊢
  exact⟨a2.2.1,a2.2.2.1,a2.2.2.2⟩
 have h0:=Lib.hid h
 clear h ho bY hn
 generalize dU σ.M y=so at *
 generalize yE y so o=cl at *
 replace hset:=Lib.hid hset
 replace P9:=Lib.hid P9
 replace hcm:=Lib.hid hcm
 replace uX:=Lib.hid uX
 replace hm:=Lib.hid hm
 replace hch:=Lib.hid hch
 replace hx:=Lib.hid hx
 go_enter Tryz.func204,Tryz.ntmps204
 go_wp2_with fail
 refine uX.out.mono ?_;rintro e w2 ⟨v,rfl,hne⟩
 obtain⟨A0,k0,rfl,_,hS,k2,_⟩:=hne
 go_wp2_with fail
 refine (P9.out _ A0 k0 hS (hA.kept k2 (by simp))).mono ?_;rintro e w3 ⟨v3,rfl,aG⟩
 have k3:=aG.only
 have k13:=k2.trans k3
 have hlow:=Pgs.nD aG
 have hnew:=aG.new
 have hs2:=k2.size
 replace hlow:=Lib.hid hlow
 replace hnew:=Lib.hid hnew
 go_wp2_with fail
 have kd:Only [] w1 w3.drew:=k13.drew
 have hmd:Mine chE 3 133 w2 w3.drew v3 cl:=aG.keep (Only.refl [] w3).drew
 have cd:=kd.cell c3 (by simp)
 refine wp_region_held_drew (S:=fun w'=>w'.cell? ⟨sb,3,none⟩=some (.pointer (some ⟨rp,0,none⟩))) (by kernel_rfl) cd (fun hHeld=> ?_)
 generalize w3.drew=wd at *
 refine rwT 0 (.pointer (some ⟨sb,0,none⟩)) hHeld ?_;simp only [rwA]
 refine rwT 1 (.pointer (some ⟨sb,0,none⟩)) hHeld ?_;simp only [rwA]
 refine rwT 2 (.pointer (some ⟨sb,3,none⟩)) hHeld ?_;simp only [rwA]
 refine rwT 3 (.pointer (some ⟨rp,0,none⟩)) hHeld ?_;simp only [rwA]
 refine rwT 4 (v3) hHeld ?_;simp only [rwA]
 refine rwT 5 (.slice B m2 cb) hHeld ?_;simp only [rwA]
 refine ah 6 rfl (by kernel_rfl) (fun K hK=> ?_)
 refine Am eH (by decide) vw rfl _ _ 22 rfl 133 _ 40 Tryz.underlying22 yh rfl v3 cl.length cl rfl hmd.own B cb m2 ch hm2 rfl (hB.kept kd (by simp)) (by have:=hch.out;unfold maxLen;omega) (by have:=hch.out;omega) ?_
 intro vv w8 h8 g8 a8
 have hm8:=Mine.appended hmd h8 g8 a8
 have k28:=hm8.only
 have k18:=k2.trans k28
 obtain⟨A1,k1,rfl,hE,hk1,hn1,_⟩:=hm8.shape eH
 have r8:=k18.cell c3 (by simp)
 obtain⟨q,hq⟩:∃ q,q=(cl++ch).length:=⟨_,rfl⟩
 rw [←hq]
 replace hq:=Lib.hid hq
 go_wp2_with fail
 refine hK.out _ _ r8 (fun hHeld=> ?_)
 clear hK K
 refine ah 7 rfl (by kernel_rfl) (fun K hK=> ?_)
 go_simp
 go_at_call 13
 rw [hq.out]
 refine (hcm.out _ k18 A1 k1 hE hk1).mono ?_
 rintro e w9 ⟨er,M',s',n',f',F',rfl,hcom,h5,k9,hF'⟩
 have r9:=k9.cell r8 aby
 obtain⟨P6,k19,hR9⟩:=h0.out.committed k18 hcom h5 k9 hF'
 go_wp2_with fail
 refine hK.out _ _ r9 (fun hHeld=> ?_)
 clear hK K
 refine rwT 8 (.int .i64 er) hHeld ?_;simp only [rwA]
 refine wpAnyH_done (by kernel_rfl) ?_ _
 clear hHeld
 have EH:=P6.cells.2.2.2.2
 have L8:=P6.loose
 have hRm:∀ i∈lb :: mb :: lp :: F,i∈R:=fun i hi=>h0.out.inR i (by
  simp only [List.mem_cons] at hi ⊢
  rcases hi with h | h | h | h
  ·exact .inr (.inl h)
  ·exact .inr (.inr (.inr (.inl h)))
  ·exact .inr (.inr (.inr (.inr (.inl h))))
  ·exact .inr (.inr (.inr (.inr (.inr h)))))
 have kR:=k19.more (T:=R) (fun i hi=>.inl (hRm i hi))
 replace hcom:=Lib.hid hcom
 replace P6:=Lib.hid P6
 replace hRm:=Lib.hid hRm
 replace kR:=Lib.hid kR
 replace hR9:=Lib.hid hR9
 clear hE hk1 hn1 hm8 h8 g8 a8 k28 k18 r8 r9 k9 k19 hF' h5 hmd cd kd k13 k3 k2 aG hS hA hB hlow hnew c3 c4 hs2 hcm P9 uX
 by_cases he:er=0
 ·subst he
  obtain⟨w10,hrun,r1,r2⟩:=World.ownsMap.drop L8.own aag Tryz.underlying111 (Y3 y hy) 0
  have h10:=L8.XQ y r1
  have k10:=lT r2
  rw [←hx.out] at hrun
  obtain⟨D10,ad2⟩:∃ D10,D10=D.del (.int .u32 (y:Int)):=⟨_,rfl⟩
  rw [←ad2] at h10
  clear r1 r2 ad2
  have hfin:dA w w10 (R++F') sb p (turned σ y 0 M') s' n' f' c rp mb lp lb F' vs D10:=by
   have h9:=P6.out
   have a3:=h9.ap3
   simp only [List.mem_cons,not_or] at a3
   have hkk:=h9.only
   refine⟨⟨h9.own.own.beside k10 (hkk.then k10 (fun i hi=>.inr ?_)) (fun i hi hm=> ?_),h9.own.rows.kept k10 (by simp;exact fun e=>a3.1 e.symm) (by simp;exact fun e=>a3.2.1 e.symm),h9.own.ne1,h9.own.ne2,h9.own.ne3,h9.own.out1,h9.own.Ye,h9.own.Vh,h9.own.SI⟩,
    h9.hdr.kept k10 (by simp;exact h9.ap1),?_,fun z q hz=> ?_,h9.ap1,h9.ap2,h9.ap3,h9.inR,fun i hi=> ?_,h9.len,QO h0.out.ok h9.ok.good,h9.few⟩
   ·simp at hi;rw [hi];exact (h9.new lb (h9.inR lb (by simp))).1
   ·simp at hi;rw [hi] at hm
    rcases List.mem_cons.1 hm with h | h
    ·exact a3.2.2.1 h
    ·exact a3.2.2.2 h
   ·show fD w10 lb c (if (0:Int)=0 then yC σ.L y else σ.L) vs D10
    rw [if_pos rfl]
    exact h10
   ·have hz':iU (yC σ.L y) z=some q:=by
     have hz2:iU (if (0:Int)=0 then yC σ.L y else σ.L) z=some q:=hz
     rwa [if_pos rfl] at hz2
    by_cases hzy:z=y
    ·rw [hzy,ql] at hz';cases hz'
    ·rw [iK hzy] at hz'
     obtain⟨A2,j,e1,e2,e3,e4⟩:=h9.lists z q hz'
     exact⟨A2,j,e1,e2,e3.kept k10 (fun a ha hm=>by
      simp at hm
      have:=(e4 a ha).2
      rw [hm] at this
      simp at this),e4⟩
   ·have:=h9.new i hi
    have:=k10.size
    exact⟨by omega,by omega⟩
  have kR2:Only R w1 w10:=kR.out.then k10 (fun i hi=>by simp at hi;rw [hi];exact .inl (hRm.out lb (by simp)))
  replace hfin:=Lib.hid hfin
  replace kR2:=Lib.hid kR2
  clear h10 k10
  go_wp2
  go_ret
  exact⟨0,M',s',n',f',R++F',rfl,by rw [hset.out];exact hcom.out,⟨rp,mb,lp,lb,F',vs,D10,hfin.out⟩,kR2.out,hR9.out⟩
 ·have he2:(er==0)=false:=by rw [beq_eq_false_iff_ne];exact he
  have hfin:dA w w9 (R++F') sb p (turned σ y er M') s' n' f' c rp mb lp lb F' vs D:=by
   unfold turned
   rw [if_neg he]
   exact P6.out
  replace hfin:=Lib.hid hfin
  clear L8 EH
  go_wp2
  go_ret
  exact⟨er,M',s',n',f',R++F',rfl,by rw [hset.out];exact hcom.out,⟨rp,mb,lp,lb,F',vs,D,hfin.out⟩,kR.out,hR9.out⟩
end
end Go.Proofs.YtmelaiefbpdifaaGreatDoor.Srv
namespace Go.Proofs.YtmelaiefbpdifaaGreatDoor.Srv
open Go.RowKit Go.Maps
open Pgs (Pg pgE jm headB find)
abbrev opL(p:Pk):List Value:=[.int .i64 p.code,.int .i64 p.err,.int .u32 p.file,.int .u32 p.epoch,.int .u32 p.off,.int .u32 p.len,.int .u32 p.size,.int .u32 p.mode,.int .u32 p.deny,.int .u32 p.handle,.string p.path,.string p.other,.string p.data]
abbrev opV(p:Pk):Value:=.agg (opL p).toArray
abbrev dS:Array Value:=#[.int .i64 0,.int .i64 0,.int .u32 0,.int .u32 0,.int .u32 0,.int .u32 0,.int .u32 0,.int .u32 0,.int .u32 0,.int .u32 0,.string ⟨#[]⟩,.string ⟨#[]⟩,.string ⟨#[]⟩]
theorem KT:(Tryz.prog.info? 51).map (·.size)=some 13:=by kernel_rfl
theorem Ld{w:World}{q:Nat}{p:Pk}(h:Blk w q 53 (pkA p)):w.rangeAt q 7 (opL p):=fun j v hj=>by
 rw [h.cell]
 have:j<13:=by
  have:=(List.getElem?_eq_some_iff.1 hj).1
  simpa using this
 match j,this,hj with
 | 0,_,hj=>exact hj
 | 1,_,hj=>exact hj
 | 2,_,hj=>exact hj
 | 3,_,hj=>exact hj
 | 4,_,hj=>exact hj
 | 5,_,hj=>exact hj
 | 6,_,hj=>exact hj
 | 7,_,hj=>exact hj
 | 8,_,hj=>exact hj
 | 9,_,hj=>exact hj
 | 10,_,hj=>exact hj
 | 11,_,hj=>exact hj
 | 12,_,hj=>exact hj
section
variable {ops:Array Oper}{rest:List Oper}{o:Oper}{a:Act}{w:World}{Q:Exit→Act→World→Prop}
theorem bG(p:Pk)(hw:Region.wanted o (yielded ops a.tmps)=true)(x:Operand)(ho:o.op = .load 51 x)(q:Nat)(hx:a.eval x = .pointer (some ⟨q,7,none⟩))(hb:Blk w q 53 (pkA p))
  (h:wpList Tryz.prog ops Q rest (a.put o.dst (opV p)) w):wpList Tryz.prog ops Q (o :: rest) a w:=
 wpList_want hw fun _ hK=>wp_load_mid 51 x ho q 7 hx (opL p) _ (Ld hb) Tryz.underlying51 rfl KT (hK _ _ h)
theorem aW(p:Pk)(c:Array Value)(hs:c.size=13)(hw:Region.wanted o (yielded ops a.tmps)=true)(x y:Operand)(ho:o.op = .store 51 x y)(g:Nat)(hx:a.eval x = .pointer (some ⟨g,0,none⟩))(hy:a.eval y=opV p)(hb:Blk w g 51 c)
  (h:∀ w',Blk w' g 51 (opL p).toArray→Only [g] w w'→wpList Tryz.prog ops Q rest (a.put o.dst undef) w'):wpList Tryz.prog ops Q (o :: rest) a w:=
 iL hw 51 x y ho g _ _ hx hy hb KT (by rw [hs];rfl) (by simp [Value.oneCell']) h
theorem bJ(p:Pk)(hw:Region.wanted o (yielded ops a.tmps)=true)(x:Operand)(ho:o.op = .load 51 x)(g:Nat)(hx:a.eval x = .pointer (some ⟨g,0,none⟩))(hb:Blk w g 51 (opL p).toArray)
  (h:wpList Tryz.prog ops Q rest (a.put o.dst (opV p)) w):wpList Tryz.prog ops Q (o :: rest) a w:=
 qN hw 51 x ho g hx (opL p) _ hb Tryz.underlying51 rfl KT h
end
structure OpB(w:World)(g:Nat)(p:Pk):Prop where
 blk:Blk w g 51 (opL p).toArray
theorem OpB.cells{w:World}{g:Nat}{p:Pk}(h:OpB w g p):w.cell? ⟨g,2,none⟩=some (.int .u32 p.file)∧w.cell? ⟨g,3,none⟩=some (.int .u32 p.epoch)∧w.cell? ⟨g,4,none⟩=some (.int .u32 p.off)∧w.cell? ⟨g,5,none⟩=some (.int .u32 p.len)∧w.cell? ⟨g,6,none⟩=some (.int .u32 p.size)∧w.cell? ⟨g,12,none⟩=some (.string p.data):=
 ⟨(h.blk.cell 2).trans rfl,(h.blk.cell 3).trans rfl,(h.blk.cell 4).trans rfl,(h.blk.cell 5).trans rfl,(h.blk.cell 6).trans rfl,(h.blk.cell 12).trans rfl⟩
theorem OpB.kept{S:List Nat}{w w':World}{g:Nat}{p:Pk}(h:OpB w g p)(k:Only S w w')(hg:g∉S):OpB w' g p:=⟨h.blk.kept k hg⟩
theorem abd(M:List Rw)(x:Nat)(e:Int):cur M x e=((aK M (eK x)).isSome && ((numOf (kF M (eK x)):Int)==e)):=by
 unfold cur epB epN
 rw [(yx M (eK x)).2,(yx M (eK x)).1]
theorem aa5(M:List Rw)(x:Nat):epN M x=numOf (kF M (eK x)):=by
 unfold epN
 rw [(yx M (eK x)).1]
theorem Yj{x:Int}(h:U x):∃ y:Nat,x=y∧y<4294967296∧x.toNat=y:=by
 obtain⟨h1,h2⟩:=h
 exact⟨x.toNat,by omega,by omega,rfl⟩
section
variable {w w1:World}{R:List Nat}{sb p n c rp mb lp lb:Nat}{σ:Sv}{s:St}{f:Bool}{F:List Nat}{vs:Nat→Value}{D:DataW Value}
theorem dA.known(h:dA w w1 R sb p σ s n f c rp mb lp lb F vs D)(x:Int)(hx:U x):
  Calls Tryz.prog 57 #[.pointer (some ⟨sb,0,none⟩),.int .u32 x] w1 fun e w'=>e = .returned (.tuple #[.int .u32 (numOf (kF σ.M (eK x.toNat)):Int),.bool (aK σ.M (eK x.toNat)).isSome])∧Only [] w1 w':=by
 obtain⟨y,h1,h2,h3⟩:=Yj hx
 rw [h3]
 exact NU w1 sb rp mb lp σ.M x y h1 h2 h.cells.2.2.2.1 h.own.rows (by have:=h.val (eK y);omega)
theorem dA.epoch(h:dA w w1 R sb p σ s n f c rp mb lp lb F vs D)(x:Int)(hx:U x):
  Calls Tryz.prog 18 #[.pointer (some ⟨sb,0,none⟩),.int .u32 x] w1 fun e w'=>e = .returned (.int .u32 (epN σ.M x.toNat:Int))∧Only [] w1 w':=by
 obtain⟨y,h1,h2,h3⟩:=Yj hx
 rw [h3,aa5]
 exact XF w1 sb rp mb lp σ.M x y h1 h2 h.cells.2.2.2.1 h.own.rows (by have:=h.val (eK y);omega)
set_option maxRecDepth 100000 in
set_option maxHeartbeats 2000000 in
theorem dA.current(h:dA w w1 R sb p σ s n f c rp mb lp lb F vs D)(q:Pk)(hq:U q.file):
  Calls Tryz.prog 201 #[.pointer (some ⟨sb,0,none⟩),opV q] w1 fun e w'=>e = .returned (.bool (cur σ.M q.file.toNat q.epoch))∧Only [] w1 w':=by
 have hk:=fun W (k:Only [] w1 W)=>(h.keep k).known q.file hq
 rw [abd]
 clear h
 generalize (aK σ.M (eK q.file.toNat)).isSome=b at *
 generalize (numOf (kF σ.M (eK q.file.toNat)):Int)=y at *
 have k0:Only [] w1 (w1.alloc (.cells (opL q).toArray 51)):=(Only.refl [] w1).alloc _
 have b0:OpB (w1.alloc (.cells (opL q).toArray 51)) w1.heap.size q:=⟨Blk.new w1 _ _⟩
 have hc:=hk _ k0
 replace hc:=Lib.hid hc
 replace k0:=Lib.hid k0
 clear hk
 obtain⟨c2,c3,_⟩:=b0.cells
 go_enter Tryz.func201,Tryz.ntmps201
 go_wp2_with fail
 refine hc.out.mono ?_;rintro e w2 ⟨rfl,k2⟩
 have c32:=k2.cell c3 (by simp)
 have dw:=k0.out.trans k2
 replace dw:=Lib.hid dw
 clear b0 c2 c3 k2
 cases b with
 | false=>
  go_wp2
  go_ret
  exact⟨rfl,dw.out⟩
 | true=>
  go_wp2
  go_ret
  exact⟨by simp,dw.out⟩
end
end Go.Proofs.YtmelaiefbpdifaaGreatDoor.Srv
