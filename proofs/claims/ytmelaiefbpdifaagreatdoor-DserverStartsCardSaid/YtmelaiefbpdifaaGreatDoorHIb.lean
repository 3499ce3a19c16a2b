/- Joined: Whole9, Fun9, Fun9b, Right9, Write9. -/
import Derived.Test.YtmelaiefbpdifaaGreatDoorHIa
import Derived.Test.YtmelaiefbpdifaaGreatDoorChecked
import Derived.Tactics
import Derived.Tactics2
import Derived.StillTactics
import Derived.StillTailTactics
import Derived.RegionTactic
import Derived.WalkKit
import Derived.Deep.MidRow
import Derived.Deep.WholeRow
import Derived.WalkLawsBesides
import Derived.WalkSpells
import Derived.Outline
import Derived.Laws.Pointers
import Derived.Laws.Small
import Derived.Laws.Build
import Derived.Laws.Cover3
import Derived.Laws.StructEq
import Derived.KernelRfl
import Derived.Lib.Hide
import Derived.BigQuiet
import Derived.BigRegion
import Derived.OwnWalk
import Derived.LoopTactic
import Derived.Laws.ResultCell
/- A packet loaded, stored, compared whole. -/
namespace Go.Proofs.YtmelaiefbpdifaaGreatDoor
set_option maxRecDepth 100000
open Go.RowKit
theorem Blk.IX{w:World}{g:Nat}{t:TypeId}{cs:List Value}(h:Blk w g t cs.toArray):w.rangeAt g 0 cs:=fun j v hj=>by
 rw [Nat.zero_add,h.cell]
 simpa using hj
section
variable {P:Program}{ops:Array Oper}{rest:List Oper}{o:Oper}{a:Act}{w:World}{Q:Exit→Act→World→Prop}
theorem wpList_want(hw:Region.wanted o (yielded ops a.tmps)=true)(h:∀ K:Act→World→Prop,(∀ a w,wpList P ops Q rest a w→K a w)→o.wp P a w K Q):wpList P ops Q (o :: rest) a w:=
 wpList_step fun _ hK=>by rw [if_pos hw];exact h _ hK
theorem qN(hw:Region.wanted o (yielded ops a.tmps)=true)(ty:TypeId)(x:Operand)(ho:o.op = .load ty x)(g:Nat)(hx:a.eval x = .pointer (some ⟨g,0,none⟩))(cs:List Value)(d:TypeDesc)(hb:Blk w g ty cs.toArray)
  (hu:P.underlying ty=some d) (hd:d.isRow=true) (hi:(P.info? ty).map (·.size)=some cs.length) (h:wpList P ops Q rest (a.put o.dst (.agg cs.toArray)) w):wpList P ops Q (o :: rest) a w:=
 wpList_want hw fun _ hK=>wp_load_mid ty x ho g 0 hx cs d (Blk.IX hb) hu hd hi (hK _ _ h)
theorem iL(hw:Region.wanted o (yielded ops a.tmps)=true)(ty:TypeId)(x y:Operand)(ho:o.op = .store ty x y)
  (g:Nat) (c c':Array Value) (hx:a.eval x = .pointer (some ⟨g,0,none⟩)) (hy:a.eval y = .agg c') (hb:Blk w g ty c) (hi:(P.info? ty).map (·.size)=some c'.size) (hs:c.size=c'.size) (h1:c'.all (·.oneCell')=true)
  (h:∀ w',Blk w' g ty c'→Only [g] w w'→wpList P ops Q rest (a.put o.dst undef) w'):wpList P ops Q (o :: rest) a w:=by
 refine wpList_want hw fun _ hK=> ?_
 have hrun:=run_storeVar_row (P:=P) w g ty ty c c' hb hi hs h1
 unfold Oper.wp execOp
 simp only [ho,hx,hy,Instr.storeAt,Instr.sureAddr,Sem.run_bind,Sem.run_pure,Result.andThen_ok,hrun]
 exact hK _ _ (h _ (setRow_heap w g c c' ty _ hb) ((Only.refl [g] w).setRow (.inl (by simp)) _))
end
theorem kH:(Tryz.prog.info? 53).map (·.size)=some 20:=by kernel_rfl
section
variable {ops:Array Oper}{rest:List Oper}{o:Oper}{a:Act}{w:World}{Q:Exit→Act→World→Prop}
theorem aV(p:Pk)(hw:Region.wanted o (yielded ops a.tmps)=true)(x:Operand)(ho:o.op = .load 53 x)(g:Nat)(hx:a.eval x = .pointer (some ⟨g,0,none⟩))(hb:Blk w g 53 (pkA p))
  (h:wpList Tryz.prog ops Q rest (a.put o.dst (pkV p)) w):wpList Tryz.prog ops Q (o :: rest) a w:=
 qN hw 53 x ho g hx (pkA p).toList _ hb Tryz.underlying53 rfl kH h
theorem aN(p q:Pk)(hw:Region.wanted o (yielded ops a.tmps)=true)(x y:Operand)(ho:o.op = .store 53 x y)(g:Nat)(hx:a.eval x = .pointer (some ⟨g,0,none⟩))(hy:a.eval y=pkV p)(hb:Blk w g 53 (pkA q))
  (h:∀ w',Blk w' g 53 (pkA p)→Only [g] w w'→wpList Tryz.prog ops Q rest (a.put o.dst undef) w'):wpList Tryz.prog ops Q (o :: rest) a w:=
 iL hw 53 x y ho g _ _ hx hy hb kH rfl (by simp [Value.oneCell']) h
end
theorem eG{fn:Func}{p u:Tmp}(h:fn.results = #[.cell p 53,.tmp u])(tmps:Array Value)(w:World)(g:Nat)(hp:tmps.getD p undef = .pointer (some ⟨g,0,none⟩))(q:Pk)(hb:Blk w g 53 (pkA q))(v:Value)(hv:tmps.getD u undef=v):
  (results fn tmps).run Tryz.prog w = .ok (.tuple #[pkV q,v]) w:=by
 subst hv
 have hl:=run_loadVar_mid (P:=Tryz.prog) w g 0 53 (pkA q).toList _ (Blk.IX hb) Tryz.underlying53 rfl kH
 rw [results_cell_tmp h,hp]
 simp only [asAddr,Sem.run_pure,Result.andThen_ok,hl]
theorem aat(p q:Pk):p=q↔(p.kind=q.kind∧p.frm=q.frm∧p.dst=q.dst∧p.life=q.life∧p.seq=q.seq∧p.asked=q.asked∧p.jC=q.jC∧p.code=q.code∧p.err=q.err∧p.file=q.file∧p.epoch=q.epoch∧p.off=q.off∧p.len=q.len∧p.size=q.size∧p.mode=q.mode∧p.deny=q.deny∧p.handle=q.handle∧p.path=q.path∧p.other=q.other∧p.data=q.data):=by
 obtain⟨x0,x1,x2,x3,x4,x5,x6,x7,x8,x9,x10,x11,x12,x13,x14,x15,x16,x17,x18,x19⟩:=p
 obtain⟨y0,y1,y2,y3,y4,y5,y6,y7,y8,y9,y10,y11,y12,y13,y14,y15,y16,y17,y18,y19⟩:=q
 simp only [Pk.mk.injEq]
instance : DecidableEq Pk := fun p q => decidable_of_iff _ (aat p q).symm
end Go.Proofs.YtmelaiefbpdifaaGreatDoor
/- The small functions of package proto. -/
namespace Go.Proofs.YtmelaiefbpdifaaGreatDoor
set_option maxRecDepth 100000
open Go.RowKit
theorem bT(w:World)(n:Int):Calls Tryz.prog 156 #[.int .i64 n] w fun e w'=>e = .returned (.bool (decide (0≤n∧n≤255)))∧w=w':=by
 by_cases h0:0≤n
 ·by_cases h1:n≤255
  ·rw [show decide (0≤n∧n≤255)=true by simp;omega]
   have f0:decide (0≤n)=true:=by simp;omega
   have f1:decide (n≤255)=true:=by simp;omega
   go_enter Tryz.func156,Tryz.ntmps156
   go_wp2
   go_ret
   exact⟨rfl,rfl⟩
  ·rw [show decide (0≤n∧n≤255)=false by simp;omega]
   have f0:decide (0≤n)=true:=by simp;omega
   have f1:decide (n≤255)=false:=by simp;omega
   go_enter Tryz.func156,Tryz.ntmps156
   go_wp2
   go_ret
   exact⟨rfl,rfl⟩
 ·rw [show decide (0≤n∧n≤255)=false by simp;omega]
  have f0:decide (0≤n)=false:=by simp;omega
  go_enter Tryz.func156,Tryz.ntmps156
  go_wp2
  go_ret
  exact⟨rfl,rfl⟩
theorem WO(c:Int)(h:¬kP c):¬c=1∧¬c=2∧¬c=3∧¬c=4∧¬c=5∧¬c=11∧¬c=12∧¬c=13∧¬c=14∧¬c=15∧¬c=16∧¬c=17∧¬c=18∧¬c=19∧¬c=20∧¬c=21∧¬c=22∧¬c=23∧¬c=24∧¬c=30:=by
 unfold kP at h
 omega
theorem TD(c:Int)(h:kP c):c=1∨c=2∨c=3∨c=4∨c=5∨c=11∨c=12∨c=13∨c=14∨c=15∨c=16∨c=17∨c=18∨c=19∨c=20∨c=21∨c=22∨c=23∨c=24∨c=30:=by
 unfold kP at h
 omega
theorem fB(w:World)(c:Int):Calls Tryz.prog 157 #[.int .i64 c] w fun e w'=>e = .returned (.bool (decide (kP c)))∧w=w':=by
 by_cases h:kP c
 ·rw [show decide (kP c)=true by simpa using h]
  have hy:=TD c h
  clear h
  rcases hy with h | h | h | h | h | h | h | h | h | h | h | h | h | h | h | h | h | h | h | h
  all_goals
   subst h
   go_enter Tryz.func157,Tryz.ntmps157
   go_wp2
   go_ret
   exact⟨rfl,rfl⟩
 ·rw [show decide (kP c)=false by simpa using h]
  obtain⟨h1,h2,h3,h4,h5,h11,h12,h13,h14,h15,h16,h17,h18,h19,h20,h21,h22,h23,h24,h30⟩:=WO c h
  clear h
  have f1:(c==1)=false:=by simpa using h1
  have f2:(c==2)=false:=by simpa using h2
  have f3:(c==3)=false:=by simpa using h3
  have f4:(c==4)=false:=by simpa using h4
  have f5:(c==5)=false:=by simpa using h5
  have f11:(c==11)=false:=by simpa using h11
  have f12:(c==12)=false:=by simpa using h12
  have f13:(c==13)=false:=by simpa using h13
  have f14:(c==14)=false:=by simpa using h14
  have f15:(c==15)=false:=by simpa using h15
  have f16:(c==16)=false:=by simpa using h16
  have f17:(c==17)=false:=by simpa using h17
  have f18:(c==18)=false:=by simpa using h18
  have f19:(c==19)=false:=by simpa using h19
  have f20:(c==20)=false:=by simpa using h20
  have f21:(c==21)=false:=by simpa using h21
  have f22:(c==22)=false:=by simpa using h22
  have f23:(c==23)=false:=by simpa using h23
  have f24:(c==24)=false:=by simpa using h24
  have f30:(c==30)=false:=by simpa using h30
  go_enter Tryz.func157,Tryz.ntmps157
  go_wp2
  go_ret
  exact⟨rfl,rfl⟩
theorem Ic{x:Int}(h:U x):IntKind.u32.wrap x=x:=by
 obtain⟨a,b⟩:=h
 rw [IntKind.wrap_u32]
 omega
theorem Ie{x:Int}(h:U x):IntKind.i64.wrap x=x:=by
 obtain⟨a,b⟩:=h
 rw [IntKind.wrap_i64]
 omega
theorem MK(w:World)(p:Pk)(h0:U p.kind)(h1:U p.frm)(h2:U p.dst)(h3:U p.code)(h4:U p.err):
  Calls Tryz.prog 163 #[pkV p] w fun e w'=>e = .returned (cV p)∧Only [] w w':=by
 replace h0:=Ic h0
 replace h1:=Ic h1
 replace h2:=Ic h2
 replace h3:=Ic h3
 replace h4:=Ic h4
 obtain⟨x0,x1,x2,x3,x4,x5,x6,x7,x8,x9,x10,x11,x12,x13,x14,x15,x16,x17,x18,x19⟩:=p
 simp only at h0 h1 h2 h3 h4
 go_enter Tryz.func163,Tryz.ntmps163
 go_wp2
 refine bodyPost_ret (v:=.agg #[.int .u32 x0,.int .u32 x1,.int .u32 x2,.int .u32 x7,.int .u32 x8]) (by rw [fJ rfl];go_simp) rfl ?_
 refine⟨rfl,?_⟩
 have gw:w.heap.size≤w.heap.size+1:=Nat.le_add_right _ _
 repeat (first | exact Only.refl _ _ | refine Only.alloc ?_ _ | refine Only.setCell ?_ (.inr (by first | exact Nat.le_refl _ | exact Nat.le_add_right _ _ | exact gw)) _)
end Go.Proofs.YtmelaiefbpdifaaGreatDoor
/- numbers, texts: where a packet's fields lie. -/
namespace Go.Proofs.YtmelaiefbpdifaaGreatDoor
set_option maxRecDepth 100000
open Go.RowKit
set_option maxHeartbeats 1000000 in
theorem Ai(w:World)(g:Nat):Calls Tryz.prog 119 #[.pointer (some ⟨g,0,none⟩)] w fun e w'=>e = .returned (QW g)∧Only [] w w':=by
 unfold QW
 go_enter Tryz.func119,Tryz.ntmps119
 go_wp2
 go_still_tail 13,(by kernel_rfl)
 have hb:=Blk.new w 229 #[.pointer none,.int .i64 0,.pointer none,.int .i64 0,.pointer none,.int .i64 0]
 have kd:Only [] w (w.alloc (.cells #[.pointer none,.int .i64 0,.pointer none,.int .i64 0,.pointer none,.int .i64 0] 229)).drew:=((Only.refl [] w).alloc _).drew
 change wpList _ _ _ _ _ (World.drew _)
 replace hb:=hb.kept ((Only.refl [] _).drew) (by simp)
 generalize (w.alloc (.cells #[.pointer none,.int .i64 0,.pointer none,.int .i64 0,.pointer none,.int .i64 0] 229)).drew=wd at *
 have c0:=hb.cell 0
 have c1:=hb.cell 1
 have c2:=hb.cell 2
 have c3:=hb.cell 3
 have c4:=hb.cell 4
 have c5:=hb.cell 5
 have f0:=hb.free 0
 have f1:=hb.free 1
 have f2:=hb.free 2
 have f3:=hb.free 3
 have f4:=hb.free 4
 have f5:=hb.free 5
 simp only [List.getElem?_toArray,List.getElem?_cons_zero,List.getElem?_cons_succ] at c0 c1 c2 c3 c4 c5
 clear hb
 go_wp2
 refine bodyPost_ret (v:=.agg #[.pointer (some ⟨g,17,none⟩),.int .i64 64,.pointer (some ⟨g,18,none⟩),.int .i64 64,.pointer (some ⟨g,19,none⟩),.int .i64 128]) (by rw [fJ rfl];go_simp) rfl ?_
 refine⟨rfl,?_⟩
 iterate 6 refine Only.setCell ?_ (.inr (Nat.le_refl _)) _
 exact kd
theorem pR{P:Program}{fn:Func}{p:Tmp}{ty:TypeId}(h:fn.results = #[.cell p ty])(tmps:Array Value)(w:World)(g:Nat)(hp:tmps.getD p undef = .pointer (some ⟨g,0,none⟩))(cs:List Value)(d:TypeDesc)(hb:Blk w g ty cs.toArray)
  (hu:P.underlying ty=some d) (hd:d.isRow=true) (hi:(P.info? ty).map (·.size)=some cs.length):(results fn tmps).run P w = .ok (.agg cs.toArray) w:=by
 have hl:=run_loadVar_mid (P:=P) w g 0 ty cs d (Blk.IX hb) hu hd hi
 rw [fJ h,hp]
 simp only [asAddr,Sem.run_pure,Result.andThen_ok,hl]
set_option maxHeartbeats 1000000 in
theorem Bj(w:World)(g h:Nat):Calls Tryz.prog 117 #[.pointer (some ⟨g,0,none⟩),.pointer (some ⟨h,0,none⟩)] w fun e w'=>e = .returned (Wn g h)∧Only [] w w':=by
 unfold Wn
 go_enter Tryz.func117,Tryz.ntmps117
 go_wp2
 go_still_tail 52,(by kernel_rfl)
 have hb:=Blk.new w 222 #[.pointer none,.pointer none,.pointer none,.pointer none,.pointer none,.pointer none,.pointer none,.pointer none,.pointer none,.pointer none,.pointer none,.pointer none,.pointer none,.pointer none,.pointer none,.pointer none,.pointer none]
 have kd:Only [] w (w.alloc (.cells #[.pointer none,.pointer none,.pointer none,.pointer none,.pointer none,.pointer none,.pointer none,.pointer none,.pointer none,.pointer none,.pointer none,.pointer none,.pointer none,.pointer none,.pointer none,.pointer none,.pointer none] 222)).drew:=((Only.refl [] w).alloc _).drew
 change wpList _ _ _ _ _ (World.drew _)
 replace hb:=hb.kept ((Only.refl [] _).drew) (by simp)
 generalize (w.alloc (.cells #[.pointer none,.pointer none,.pointer none,.pointer none,.pointer none,.pointer none,.pointer none,.pointer none,.pointer none,.pointer none,.pointer none,.pointer none,.pointer none,.pointer none,.pointer none,.pointer none,.pointer none] 222)).drew=wd at *
 go_wp2_with (refine iL rfl 222 (.tmp 4) (.tmp 60) rfl w.heap.size _ _ rfl rfl hb (by kernel_rfl) rfl (by simp [Value.oneCell']) ?_;intro w2 b2 k2)
 refine bodyPost_ret (v:=Wn g h) (pR rfl _ _ w.heap.size rfl _ _ b2 Tryz.underlying222 rfl (by kernel_rfl)) rfl ?_
 exact⟨rfl,kd.then k2 (by simp)⟩
end Go.Proofs.YtmelaiefbpdifaaGreatDoor
/- The walk of Right. -/
namespace Go.Proofs.YtmelaiefbpdifaaGreatDoor
set_option maxRecDepth 100000
open Go.RowKit
set_option maxHeartbeats 4000000 in
theorem sN(w:World)(p:Pk):Calls Tryz.prog 112 #[pkV p] w fun e w'=>e = .returned (.bool (decide p.Right))∧Only [] w w':=by
 go_enter Tryz.func112,Tryz.ntmps112
 go_wp2_with fail
 refine (Ai _ _).mono ?_;rintro e w1 ⟨rfl,k1⟩
 have b1:=(Blk.new w 53 (pkA p)).kept k1 (by simp)
 replace k1:=k1.boxed
 go_wp2_with fail
 go_loopw [4,6] (fun _ i wr=>∃ k:Nat,k≤3∧i = .int .i64 k∧Hid (∀ j,j<k→(sOf p j).size≤iR j)∧Only [] w1 wr) (fun _ i _=>3-(intOf i).toNat)
 case atStart=>exact⟨0,by omega,rfl,Lib.hid (fun j hj=>by omega),Only.refl [] _⟩
 case round=>
  obtain⟨k,hk,rfl,hall,kr⟩:=hrel
  by_cases hlt:k<3
  ·have hb:=b1.kept kr (by simp)
   have hix:=uV w.heap.size k hlt
   have hlt':(k:Int)<3:=by omega
   have q0:=YU (hb.alloc (.cells #[.pointer (some ⟨w.heap.size,17+k,none⟩),.int .i64 (iR k:Nat)] 228)) k hlt
   have t0:=(Blk.new wr 228 #[.pointer (some ⟨w.heap.size,17+k,none⟩),.int .i64 (iR k:Nat)]).cell 0
   have t1:=(Blk.new wr 228 #[.pointer (some ⟨w.heap.size,17+k,none⟩),.int .i64 (iR k:Nat)]).cell 1
   simp only [List.getElem?_toArray,List.getElem?_cons_zero,List.getElem?_cons_succ] at t0 t1
   clear hb b1
   by_cases hm:iR k<(sOf p k).size
   ·have hR:=Lib.hid (show decide p.Right=false by
     simp only [decide_eq_false_iff_not]
     exact fun h=>by
      obtain⟨⟨⟨s0,s1⟩,s2⟩,_⟩:=h
      match k,hlt,hm with
      | 0,_,hm=>simp only [iR,sOf] at hm;omega
      | 1,_,hm=>simp only [iR,sOf] at hm;omega
      | 2,_,hm=>simp only [iR,sOf] at hm;omega)
    have f0:decide (((iR k:Nat):Int)<((sOf p k).size:Int))=true:=by simp;omega
    have f1:decide (iR k<(sOf p k).size)=true:=decide_eq_true hm
    clear hm hall
    go_wp2
    go_quiet (fail)
    go_wp2
    go_ret
    exact⟨by rw [hR.out];rfl,k1.trans ((kr.alloc _).drewN _)⟩
   ·have hall':Hid (∀ j,j<k+1→(sOf p j).size≤iR j):=Lib.hid (fun j hj=>by
     by_cases hjk:j<k
     ·exact hall.out j hjk
     ·obtain rfl:j=k:=by omega
      omega)
    have f0:decide (((iR k:Nat):Int)<((sOf p k).size:Int))=false:=by simp;omega
    have f1:decide (iR k<(sOf p k).size)=false:=decide_eq_false hm
    clear hm hall
    go_wp2
    go_quiet (fail)
    go_wp2
    go_roundw
    case rel=>exact⟨k+1,by omega,by go_num,hall',(kr.alloc _).drewN _⟩
    case measure=>simp [intOf];omega
  ·obtain rfl:k=3:=by omega
   have hs0:=hall.out 0 (by omega)
   have hs1:=hall.out 1 (by omega)
   have hs2:=hall.out 2 (by omega)
   simp only [iR,sOf] at hs0 hs1 hs2
   have hs:(p.path.size≤64∧p.other.size≤64)∧p.data.size≤128:=⟨⟨hs0,hs1⟩,hs2⟩
   clear hs0 hs1 hs2 hall
   replace hs:=Lib.hid hs
   have hb:=b1.kept kr (by simp)
   obtain⟨c0,c1,c2,_,_,_,_,c7,c8,_,_,_,_,_,_,_,_,_,_,_⟩:=V7 hb
   have BH:=k1.trans kr
   clear hb b1 hlt hk
   by_cases h1:1≤p.kind
   rotate_left
   ·have f1:decide (1≤p.kind)=false:=by simp;omega
    have hR:=Lib.hid (show decide p.Right=false by simp only [decide_eq_false_iff_not];exact fun h=>by obtain⟨_,⟨a1,a2⟩,a3,a4,a5,a6,⟨a7,a8⟩,a9⟩:=h;omega)
    try clear h6
    try clear h6b
    try clear h9
    try clear h10
    go_wp2
    go_ret
    exact⟨by rw [hR.out];rfl,BH⟩
   have f1:decide (1≤p.kind)=true:=by simp;omega
   by_cases h2:p.kind≤3
   rotate_left
   ·have f2:decide (p.kind≤3)=false:=by simp;omega
    have hR:=Lib.hid (show decide p.Right=false by simp only [decide_eq_false_iff_not];exact fun h=>by obtain⟨_,⟨a1,a2⟩,a3,a4,a5,a6,⟨a7,a8⟩,a9⟩:=h;omega)
    try clear h6
    try clear h6b
    try clear h9
    try clear h10
    go_wp2
    go_ret
    exact⟨by rw [hR.out];rfl,BH⟩
   have f2:decide (p.kind≤3)=true:=by simp;omega
   by_cases h3:0≤p.frm∧p.frm≤255
   rotate_left
   ·have nf1:decide (0≤p.frm∧p.frm≤255)=false:=decide_eq_false h3
    have hR:=Lib.hid (show decide p.Right=false by simp only [decide_eq_false_iff_not];exact fun h=>by obtain⟨_,⟨a1,a2⟩,a3,a4,a5,a6,⟨a7,a8⟩,a9⟩:=h;exact h3 a3)
    try clear h6
    try clear h6b
    try clear h9
    try clear h10
    go_wp2_with fail
    refine (bT _ _).mono ?_;rintro e w2 ⟨rfl,rfl⟩
    rw [nf1]
    go_wp2
    go_ret
    exact⟨by rw [hR.out];rfl,BH⟩
   have nf1:decide (0≤p.frm∧p.frm≤255)=true:=decide_eq_true h3
   by_cases h4:0≤p.dst∧p.dst≤255
   rotate_left
   ·have nf2:decide (0≤p.dst∧p.dst≤255)=false:=decide_eq_false h4
    have hR:=Lib.hid (show decide p.Right=false by simp only [decide_eq_false_iff_not];exact fun h=>by obtain⟨_,⟨a1,a2⟩,a3,a4,a5,a6,⟨a7,a8⟩,a9⟩:=h;exact h4 a4)
    try clear h6
    try clear h6b
    try clear h9
    try clear h10
    go_wp2_with fail
    refine (bT _ _).mono ?_;rintro e w2 ⟨rfl,rfl⟩
    rw [nf1]
    go_wp2_with fail
    refine (bT _ _).mono ?_;rintro e w2 ⟨rfl,rfl⟩
    rw [nf2]
    go_wp2
    go_ret
    exact⟨by rw [hR.out];rfl,BH⟩
   have nf2:decide (0≤p.dst∧p.dst≤255)=true:=decide_eq_true h4
   by_cases h5:kP p.code
   rotate_left
   ·have kf:decide (kP p.code)=false:=decide_eq_false h5
    have hR:=Lib.hid (show decide p.Right=false by simp only [decide_eq_false_iff_not];exact fun h=>by obtain⟨_,⟨a1,a2⟩,a3,a4,a5,a6,⟨a7,a8⟩,a9⟩:=h;exact h5 a5)
    try clear h6
    try clear h6b
    try clear h9
    try clear h10
    go_wp2_with fail
    refine (bT _ _).mono ?_;rintro e w2 ⟨rfl,rfl⟩
    rw [nf1]
    go_wp2_with fail
    refine (bT _ _).mono ?_;rintro e w2 ⟨rfl,rfl⟩
    rw [nf2]
    go_wp2_with fail
    refine (fB _ _).mono ?_;rintro e w2 ⟨rfl,rfl⟩
    rw [kf]
    go_wp2
    go_ret
    exact⟨by rw [hR.out];rfl,BH⟩
   have kf:decide (kP p.code)=true:=decide_eq_true h5
   by_cases h6:p.code=30
   ·have f6:(p.code==30)=true:=by simp;omega
    have g6:(p.code != 30)=false:=by simp;omega
    by_cases h6b:p.kind=3
    rotate_left
    ·have f6b:(p.kind==3)=false:=by simp;omega
     have g6b:(p.kind != 3)=true:=by simp;omega
     have hR:=Lib.hid (show decide p.Right=false by simp only [decide_eq_false_iff_not];exact fun h=>by obtain⟨_,⟨a1,a2⟩,a3,a4,a5,a6,⟨a7,a8⟩,a9⟩:=h;omega)
     try clear h6
     try clear h6b
     try clear h9
     try clear h10
     go_wp2_with fail
     refine (bT _ _).mono ?_;rintro e w2 ⟨rfl,rfl⟩
     rw [nf1]
     go_wp2_with fail
     refine (bT _ _).mono ?_;rintro e w2 ⟨rfl,rfl⟩
     rw [nf2]
     go_wp2_with fail
     refine (fB _ _).mono ?_;rintro e w2 ⟨rfl,rfl⟩
     rw [kf]
     go_wp2
     go_ret
     exact⟨by rw [hR.out];rfl,BH⟩
    have f6b:(p.kind==3)=true:=by simp;omega
    have g6b:(p.kind != 3)=false:=by simp;omega
    by_cases h7:0≤p.err
    rotate_left
    ·have f7:decide (0≤p.err)=false:=by simp;omega
     have hR:=Lib.hid (show decide p.Right=false by simp only [decide_eq_false_iff_not];exact fun h=>by obtain⟨_,⟨a1,a2⟩,a3,a4,a5,a6,⟨a7,a8⟩,a9⟩:=h;omega)
     try clear h6
     try clear h6b
     try clear h9
     try clear h10
     go_wp2_with fail
     refine (bT _ _).mono ?_;rintro e w2 ⟨rfl,rfl⟩
     rw [nf1]
     go_wp2_with fail
     refine (bT _ _).mono ?_;rintro e w2 ⟨rfl,rfl⟩
     rw [nf2]
     go_wp2_with fail
     refine (fB _ _).mono ?_;rintro e w2 ⟨rfl,rfl⟩
     rw [kf]
     go_wp2
     go_ret
     exact⟨by rw [hR.out];rfl,BH⟩
    have f7:decide (0≤p.err)=true:=by simp;omega
    by_cases h8:p.err≤25
    rotate_left
    ·have f8:decide (p.err≤25)=false:=by simp;omega
     have hR:=Lib.hid (show decide p.Right=false by simp only [decide_eq_false_iff_not];exact fun h=>by obtain⟨_,⟨a1,a2⟩,a3,a4,a5,a6,⟨a7,a8⟩,a9⟩:=h;omega)
     try clear h6
     try clear h6b
     try clear h9
     try clear h10
     go_wp2_with fail
     refine (bT _ _).mono ?_;rintro e w2 ⟨rfl,rfl⟩
     rw [nf1]
     go_wp2_with fail
     refine (bT _ _).mono ?_;rintro e w2 ⟨rfl,rfl⟩
     rw [nf2]
     go_wp2_with fail
     refine (fB _ _).mono ?_;rintro e w2 ⟨rfl,rfl⟩
     rw [kf]
     go_wp2
     go_ret
     exact⟨by rw [hR.out];rfl,BH⟩
    have f8:decide (p.err≤25)=true:=by simp;omega
    by_cases h9:p.err=0
    ·have f9:(p.err==0)=true:=by simp;omega
     have g9:(p.err != 0)=false:=by simp;omega
     have hR:=Lib.hid (show decide p.Right=true by simp only [decide_eq_true_eq];exact⟨hs.out,⟨h1,h2⟩,h3,h4,h5,by omega,⟨h7,h8⟩,by omega⟩)
     try clear h6
     try clear h6b
     try clear h9
     try clear h10
     go_wp2_with fail
     refine (bT _ _).mono ?_;rintro e w2 ⟨rfl,rfl⟩
     rw [nf1]
     go_wp2_with fail
     refine (bT _ _).mono ?_;rintro e w2 ⟨rfl,rfl⟩
     rw [nf2]
     go_wp2_with fail
     refine (fB _ _).mono ?_;rintro e w2 ⟨rfl,rfl⟩
     rw [kf]
     go_wp2
     go_ret
     exact⟨by rw [hR.out];rfl,BH⟩
    have f9:(p.err==0)=false:=by simp;omega
    have g9:(p.err != 0)=true:=by simp;omega
    by_cases h10:p.kind=2
    ·have f10:(p.kind==2)=true:=by simp;omega
     have g10:(p.kind != 2)=false:=by simp;omega
     have hR:=Lib.hid (show decide p.Right=true by simp only [decide_eq_true_eq];exact⟨hs.out,⟨h1,h2⟩,h3,h4,h5,by omega,⟨h7,h8⟩,by omega⟩)
     try clear h6
     try clear h6b
     try clear h9
     try clear h10
     go_wp2_with fail
     refine (bT _ _).mono ?_;rintro e w2 ⟨rfl,rfl⟩
     rw [nf1]
     go_wp2_with fail
     refine (bT _ _).mono ?_;rintro e w2 ⟨rfl,rfl⟩
     rw [nf2]
     go_wp2_with fail
     refine (fB _ _).mono ?_;rintro e w2 ⟨rfl,rfl⟩
     rw [kf]
     go_wp2
     go_ret
     exact⟨by rw [hR.out];rfl,BH⟩
    ·have f10:(p.kind==2)=false:=by simp;omega
     have g10:(p.kind != 2)=true:=by simp;omega
     have hR:=Lib.hid (show decide p.Right=false by simp only [decide_eq_false_iff_not];exact fun h=>by obtain⟨_,⟨a1,a2⟩,a3,a4,a5,a6,⟨a7,a8⟩,a9⟩:=h;omega)
     try clear h6
     try clear h6b
     try clear h9
     try clear h10
     go_wp2_with fail
     refine (bT _ _).mono ?_;rintro e w2 ⟨rfl,rfl⟩
     rw [nf1]
     go_wp2_with fail
     refine (bT _ _).mono ?_;rintro e w2 ⟨rfl,rfl⟩
     rw [nf2]
     go_wp2_with fail
     refine (fB _ _).mono ?_;rintro e w2 ⟨rfl,rfl⟩
     rw [kf]
     go_wp2
     go_ret
     exact⟨by rw [hR.out];rfl,BH⟩
   ·have f6:(p.code==30)=false:=by simp;omega
    have g6:(p.code != 30)=true:=by simp;omega
    by_cases h6b:p.kind=3
    ·have f6b:(p.kind==3)=true:=by simp;omega
     have g6b:(p.kind != 3)=false:=by simp;omega
     have hR:=Lib.hid (show decide p.Right=false by simp only [decide_eq_false_iff_not];exact fun h=>by obtain⟨_,⟨a1,a2⟩,a3,a4,a5,a6,⟨a7,a8⟩,a9⟩:=h;omega)
     try clear h6
     try clear h6b
     try clear h9
     try clear h10
     go_wp2_with fail
     refine (bT _ _).mono ?_;rintro e w2 ⟨rfl,rfl⟩
     rw [nf1]
     go_wp2_with fail
     refine (bT _ _).mono ?_;rintro e w2 ⟨rfl,rfl⟩
     rw [nf2]
     go_wp2_with fail
     refine (fB _ _).mono ?_;rintro e w2 ⟨rfl,rfl⟩
     rw [kf]
     go_wp2
     go_ret
     exact⟨by rw [hR.out];rfl,BH⟩
    have f6b:(p.kind==3)=false:=by simp;omega
    have g6b:(p.kind != 3)=true:=by simp;omega
    by_cases h7:0≤p.err
    rotate_left
    ·have f7:decide (0≤p.err)=false:=by simp;omega
     have hR:=Lib.hid (show decide p.Right=false by simp only [decide_eq_false_iff_not];exact fun h=>by obtain⟨_,⟨a1,a2⟩,a3,a4,a5,a6,⟨a7,a8⟩,a9⟩:=h;omega)
     try clear h6
     try clear h6b
     try clear h9
     try clear h10
     go_wp2_with fail
     refine (bT _ _).mono ?_;rintro e w2 ⟨rfl,rfl⟩
     rw [nf1]
     go_wp2_with fail
     refine (bT _ _).mono ?_;rintro e w2 ⟨rfl,rfl⟩
     rw [nf2]
     go_wp2_with fail
     refine (fB _ _).mono ?_;rintro e w2 ⟨rfl,rfl⟩
     rw [kf]
     go_wp2
     go_ret
     exact⟨by rw [hR.out];rfl,BH⟩
    have f7:decide (0≤p.err)=true:=by simp;omega
    by_cases h8:p.err≤25
    rotate_left
    ·have f8:decide (p.err≤25)=false:=by simp;omega
     have hR:=Lib.hid (show decide p.Right=false by simp only [decide_eq_false_iff_not];exact fun h=>by obtain⟨_,⟨a1,a2⟩,a3,a4,a5,a6,⟨a7,a8⟩,a9⟩:=h;omega)
     try clear h6
     try clear h6b
     try clear h9
     try clear h10
     go_wp2_with fail
     refine (bT _ _).mono ?_;rintro e w2 ⟨rfl,rfl⟩
     rw [nf1]
     go_wp2_with fail
     refine (bT _ _).mono ?_;rintro e w2 ⟨rfl,rfl⟩
     rw [nf2]
     go_wp2_with fail
     refine (fB _ _).mono ?_;rintro e w2 ⟨rfl,rfl⟩
     rw [kf]
     go_wp2
     go_ret
     exact⟨by rw [hR.out];rfl,BH⟩
    have f8:decide (p.err≤25)=true:=by simp;omega
    by_cases h9:p.err=0
    ·have f9:(p.err==0)=true:=by simp;omega
     have g9:(p.err != 0)=false:=by simp;omega
     have hR:=Lib.hid (show decide p.Right=true by simp only [decide_eq_true_eq];exact⟨hs.out,⟨h1,h2⟩,h3,h4,h5,by omega,⟨h7,h8⟩,by omega⟩)
     try clear h6
     try clear h6b
     try clear h9
     try clear h10
     go_wp2_with fail
     refine (bT _ _).mono ?_;rintro e w2 ⟨rfl,rfl⟩
     rw [nf1]
     go_wp2_with fail
     refine (bT _ _).mono ?_;rintro e w2 ⟨rfl,rfl⟩
     rw [nf2]
     go_wp2_with fail
     refine (fB _ _).mono ?_;rintro e w2 ⟨rfl,rfl⟩
     rw [kf]
     go_wp2
     go_ret
     exact⟨by rw [hR.out];rfl,BH⟩
    have f9:(p.err==0)=false:=by simp;omega
    have g9:(p.err != 0)=true:=by simp;omega
    by_cases h10:p.kind=2
    ·have f10:(p.kind==2)=true:=by simp;omega
     have g10:(p.kind != 2)=false:=by simp;omega
     have hR:=Lib.hid (show decide p.Right=true by simp only [decide_eq_true_eq];exact⟨hs.out,⟨h1,h2⟩,h3,h4,h5,by omega,⟨h7,h8⟩,by omega⟩)
     try clear h6
     try clear h6b
     try clear h9
     try clear h10
     go_wp2_with fail
     refine (bT _ _).mono ?_;rintro e w2 ⟨rfl,rfl⟩
     rw [nf1]
     go_wp2_with fail
     refine (bT _ _).mono ?_;rintro e w2 ⟨rfl,rfl⟩
     rw [nf2]
     go_wp2_with fail
     refine (fB _ _).mono ?_;rintro e w2 ⟨rfl,rfl⟩
     rw [kf]
     go_wp2
     go_ret
     exact⟨by rw [hR.out];rfl,BH⟩
    ·have f10:(p.kind==2)=false:=by simp;omega
     have g10:(p.kind != 2)=true:=by simp;omega
     have hR:=Lib.hid (show decide p.Right=false by simp only [decide_eq_false_iff_not];exact fun h=>by obtain⟨_,⟨a1,a2⟩,a3,a4,a5,a6,⟨a7,a8⟩,a9⟩:=h;omega)
     try clear h6
     try clear h6b
     try clear h9
     try clear h10
     go_wp2_with fail
     refine (bT _ _).mono ?_;rintro e w2 ⟨rfl,rfl⟩
     rw [nf1]
     go_wp2_with fail
     refine (bT _ _).mono ?_;rintro e w2 ⟨rfl,rfl⟩
     rw [nf2]
     go_wp2_with fail
     refine (fB _ _).mono ?_;rintro e w2 ⟨rfl,rfl⟩
     rw [kf]
     go_wp2
     go_ret
     exact⟨by rw [hR.out];rfl,BH⟩
end Go.Proofs.YtmelaiefbpdifaaGreatDoor
/- The walk of Write. -/
namespace Go.Proofs.YtmelaiefbpdifaaGreatDoor
set_option maxRecDepth 100000
open Go.RowKit
theorem Wrote.after{w w1 w2:World}{p:Nat}{F:List Nat}{bs:List UInt8}(h:Wrote w w1 p F bs)(k:Only [] w1 w2):Wrote w w2 p F bs:=by
 obtain⟨F1,a1,a2,a3⟩:=h
 exact⟨F1,a1.kept k (by simp) (by simp),a2.then k (by simp),a3⟩
theorem Wr.new(w:World):Wr (w.alloc (.cells #[.slice none 0 0] 249)) w.heap.size [] []:=
 ⟨.slice none 0 0,Blk.new w _ _,⟨rfl,.inl ⟨rfl,rfl⟩⟩,by simp [Value.ownBlock],by simp [Value.ownBlock]⟩
theorem Wp(p:Pk)(ho:p.Ok)(hr:p.Right):∀ z∈Wq p,0≤z∧z<4294967296:=by
 obtain⟨_,⟨_,_⟩,⟨_,_⟩,⟨_,_⟩,hc,_,⟨_,_⟩,_⟩:=hr
 have hc':0≤p.code∧p.code≤30:=by unfold kP at hc;omega
 intro n hn
 simp only [Wq,List.mem_cons,List.not_mem_nil,or_false] at hn
 rcases hn with h | h | h | h | h | h | h | h | h | h | h | h | h | h | h | h | h
 all_goals subst h
 ·omega
 ·omega
 ·omega
 ·have:=ho.life;unfold U at this;omega
 ·have:=ho.seq;unfold U at this;omega
 ·have:=ho.asked;unfold U at this;omega
 ·have:=ho.jC;unfold U at this;omega
 ·omega
 ·omega
 ·have:=ho.file;unfold U at this;omega
 ·have:=ho.epoch;unfold U at this;omega
 ·have:=ho.off;unfold U at this;omega
 ·have:=ho.len;unfold U at this;omega
 ·have:=ho.size;unfold U at this;omega
 ·have:=ho.mode;unfold U at this;omega
 ·have:=ho.deny;unfold U at this;omega
 ·have:=ho.handle;unfold U at this;omega
theorem aaw(p:Pk)(ho:p.Ok)(hr:p.Right)(k:Nat)(hk:k<(Lu p).length):∃ n:Nat,zOf p k=n∧Hid (n<4294967296)∧Hid ((Lu p)[k]=n):=by
 have hk':k<(Wq p).length:=by simpa [Lu] using hk
 obtain⟨a,b⟩:=Wp p ho hr _ (List.getElem_mem hk')
 have e:(Lu p)[k]=(Wq p)[k].toNat:=by simp [Lu]
 exact⟨(Wq p)[k].toNat,by rw [aad p k hk'];omega,Lib.hid (by omega),Lib.hid e⟩
def Ci(s:Nat→ByteArray):Nat→List UInt8
 | 0=>[]
 | j+1=>Ci s j++zM (s j).data.toList
theorem EY(s:Nat→ByteArray)(j:Nat):Ci s (j+1)=Ci s j++zM (s j).data.toList:=rfl
theorem UW(p:Pk):uh (Lu p)++Ci (sOf p) 3=E8 p:=by
 simp [Ci,E8,sOf]
theorem Io(p:Pk)(hr:p.Right)(j:Nat):(sOf p j).size≤128:=by
 obtain⟨⟨⟨_,_⟩,_⟩,_⟩:=hr
 unfold sOf
 split<;>omega
theorem Qj(p:Pk)(hr:p.Right)(j:Nat):(Ci (sOf p) j).length≤136*j:=by
 induction j with
 | zero=>simp [Ci]
 | succ j ih=>
  have:=wY (sOf p j).data.toList 128 (by rw [vX];exact Io p hr j)
  rw [EY,List.length_append]
  omega
theorem Pj(p:Pk)(hr:p.Right):U p.kind∧U p.frm∧U p.dst∧U p.code∧U p.err:=by
 obtain⟨_,⟨_,_⟩,⟨_,_⟩,⟨_,_⟩,hc,_,⟨_,_⟩,_⟩:=hr
 have hc':0≤p.code∧p.code≤30:=by unfold kP at hc;omega
 unfold U
 omega
theorem Vp(w:World)(p:Pk)(hr:¬p.Right):Calls Tryz.prog 114 #[pkV p] w fun e w'=>e = .returned (.tuple #[.string ⟨#[]⟩,.int .i64 1])∧Only [] w w':=by
 have hd:decide p.Right=false:=decide_eq_false hr
 have b0:=Blk.new w 53 (pkA p)
 go_enter Tryz.func114,Tryz.ntmps114
 go_wp2_with (refine aV p rfl (.tmp 1) rfl w.heap.size rfl b0 ?_)
 refine (sN _ p).mono ?_;rintro e w1 ⟨rfl,k1⟩
 rw [hd]
 clear hd hr
 go_wp2
 go_ret2
 exact⟨rfl,k1.boxed⟩
set_option maxHeartbeats 1000000 in
theorem QN(w:World)(p:Pk)(ho:p.Ok)(hr:p.Right):Calls Tryz.prog 114 #[pkV p] w fun e w'=>e = .returned (.tuple #[.string (strOf (E8 p)),.int .i64 0])∧Only [] w w':=by
 have hd:decide p.Right=true:=decide_eq_true hr
 obtain⟨u0,u1,u2,u3,u4⟩:=Pj p hr
 have NA:=Lib.hid (aaw p ho hr)
 have TM:=Lib.hid (Io p hr)
 have EM:=Lib.hid (Qj p hr)
 clear ho hr
 have b0:=Blk.new w 53 (pkA p)
 go_enter Tryz.func114,Tryz.ntmps114
 go_wp2_with (refine aV p rfl (.tmp 1) rfl w.heap.size rfl b0 ?_)
 refine (sN _ p).mono ?_;rintro e w1 ⟨rfl,k1⟩
 rw [hd]
 clear hd
 have z1:w.heap.size+1≤w1.heap.size:=by have:=k1.size;simpa using this
 have b1:=b0.kept k1 (by simp)
 clear b0
 replace k1:=k1.boxed
 have b2:=b1.alloc (.cells #[.slice none 0 0] 249)
 go_wp2_with (refine aV p rfl (.tmp 1) rfl w.heap.size rfl b2 ?_)
 refine (MK _ p u0 u1 u2 u3 u4).mono ?_;rintro e w2 ⟨rfl,k2⟩
 have z2:w1.heap.size+1≤w2.heap.size:=by have:=k2.size;simpa using this
 have hwr2:=(Wr.new w1).kept k2 (by simp) (by simp)
 replace b2:=b2.kept k2 (by simp)
 replace k2:=k1.trans k2.boxed
 clear b1 k1
 go_wp2_with fail
 refine (Bj _ w.heap.size w2.heap.size).mono ?_;rintro e w3 ⟨rfl,k3⟩
 have L:Lies w3 w.heap.size w2.heap.size (aOf p) (zOf p) (sOf p):=⟨(b2.alloc _).kept k3 (by simp),(Blk.new w2 218 _).kept k3 (by simp),by omega⟩
 have hwr:=(hwr2.kept ((Only.refl [] w2).alloc _) (by simp) (by simp)).kept k3 (by simp) (by simp)
 replace k3:=k2.trans k3.boxed
 have n1:w.heap.size∉[w1.heap.size]:=by simp;omega
 have n2:w2.heap.size∉[w1.heap.size]:=by simp;omega
 have n3:w.heap.size≤w1.heap.size:=by omega
 clear b2 hwr2 k2 z1 z2
 generalize w2.heap.size=h at *
 generalize w1.heap.size=pw at *
 obtain⟨g,hg⟩:∃ g,w.heap.size=g:=⟨_,rfl⟩
 rw [hg] at L n1
 have n4:g≤pw:=by omega
 rw [hg]
 replace hg:=Lib.hid hg
 clear n3
 go_wp2_with fail
 go_loopw [7,16] (fun _ i wr=>∃ k:Nat,k≤17∧i = .int .i64 k∧Wrote w3 wr pw [] (uh ((Lu p).take k))) (fun _ i _=>17-(intOf i).toNat)
 case atStart=>exact⟨0,by omega,rfl,[],hwr,Only.refl _ _,by simp⟩
 case round=>
  obtain⟨k,hk,rfl,hw⟩:=hrel
  clear hwr
  by_cases hlt:k<17
  ·obtain⟨F1,a1,a2,a3⟩:=hw
   have hix:=ED g h k hlt
   have q0:=(L.kept a2 n1 n2).num k hlt
   have hlt':(k:Int)<17:=by omega
   obtain⟨n,e1,e2,e3⟩:=NA.out k (by rw [jO];exact hlt)
   rw [e1] at q0
   replace e1:=Lib.hid e1
   have hbl:(uh ((Lu p).take k)).length+4≤1048576:=by rw [rX,List.length_take,jO];omega
   replace hbl:=Lib.hid hbl
   generalize WH g h k=B at *
   generalize ZU k=O at *
   replace a3:=Lib.hid a3
   replace a2:=Lib.hid a2
   go_wp2_with fail
   refine (gB _ pw F1 _ _ n rfl e2.out a1 hbl.out).mono ?_
   rintro e w4 ⟨rfl,hw4⟩
   go_wp2
   go_roundw
   case rel=>exact⟨k+1,by omega,by go_num,by
    have:=Wrote.join a2.out a3.out hw4
    rw [Qk _ k (by rw [jO];exact hlt),e3.out]
    exact this⟩
   case measure=>simp [intOf];omega
  ·obtain rfl:k=17:=by omega
   rw [show (Lu p).take 17=Lu p from List.take_of_length_le (by rw [jO];exact Nat.le_refl _)] at hw
   clear hk hlt
   go_wp2_with fail
   refine (Ai _ g).mono ?_;rintro e w5 ⟨rfl,k5⟩
   have hw5:Wrote w3 w5 pw [] (uh (Lu p)++Ci (sOf p) 0):=by
    have:=hw.after k5
    simpa [Ci] using this
   clear hw k5
   go_wp2_with fail
   go_loopw [9,25] (fun _ i wr=>∃ j:Nat,j≤3∧i = .int .i64 j∧Wrote w3 wr pw [] (uh (Lu p)++Ci (sOf p) j)) (fun _ i _=>3-(intOf i).toNat)
   case atStart=>exact⟨0,by omega,rfl,hw5⟩
   case round=>
    obtain⟨j,hj,rfl,hw⟩:=hrel
    clear hw5
    by_cases hlt:j<3
    ·obtain⟨F1,a1,a2,a3⟩:=hw
     have hix:=uV g j hlt
     have hlt':(j:Int)<3:=by omega
     have q0:=((L.kept a2 n1 n2).kept ((Only.refl [] wr).alloc (.cells #[.pointer (some ⟨g,17+j,none⟩),.int .i64 (iR j:Nat)] 228)) (by simp) (by simp)).text j hlt
     have t0:=(Blk.new wr 228 #[.pointer (some ⟨g,17+j,none⟩),.int .i64 (iR j:Nat)]).cell 0
     have t1:=(Blk.new wr 228 #[.pointer (some ⟨g,17+j,none⟩),.int .i64 (iR j:Nat)]).cell 1
     simp only [List.getElem?_toArray,List.getElem?_cons_zero,List.getElem?_cons_succ] at t0 t1
     have hwr:=a1.kept ((Only.refl [] wr).alloc (.cells #[.pointer (some ⟨g,17+j,none⟩),.int .i64 (iR j:Nat)] 228)) (by simp) (by simp)
     have hbl:(uh (Lu p)++Ci (sOf p) j).length+(sOf p j).size+8≤1048576:=by
      have:=TM.out j
      have:=EM.out j
      rw [List.length_append,rX,jO]
      omega
     replace hbl:=Lib.hid hbl
     replace a3:=Lib.hid a3
     replace a2:=Lib.hid a2
     clear a1
     go_wp2_with fail
     refine (Ad _ pw F1 _ (sOf p j) hwr hbl.out).mono ?_
     rintro e w6 ⟨rfl,hw6⟩
     go_wp2
     go_roundw
     case rel=>exact⟨j+1,by omega,by go_num,by
      have:=Wrote.join a2.out a3.out (hw6.from ((Only.refl [] wr).alloc _))
      rw [EY,←List.append_assoc]
      exact this⟩
     case measure=>simp [intOf];omega
    ·obtain rfl:j=3:=by omega
     obtain⟨F1,a1,a2,a3⟩:=hw
     rw [UW] at a1
     clear hj hlt
     go_wp2_with fail
     refine (mJ _ pw F1 _ a1).mono ?_;rintro e w6 ⟨rfl,rfl⟩
     go_wp2
     go_ret2
     exact⟨rfl,k3.then a2 (by intro i hi;simp at hi;subst hi;right;have:=hg.out;omega)⟩
theorem OE(w:World)(p:Pk)(ho:p.Ok):Calls Tryz.prog 114 #[pkV p] w fun e w'=>e = .returned (.tuple #[.string (lM p),.int .i64 (X8 p)])∧Only [] w w':=by
 unfold lM X8
 by_cases hr:p.Right
 ·rw [if_pos hr,if_pos hr]
  exact QN w p ho hr
 ·rw [if_neg hr,if_neg hr]
  exact Vp w p hr
end Go.Proofs.YtmelaiefbpdifaaGreatDoor
