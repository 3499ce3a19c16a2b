/- Joined: Apply5, Apply6, Plan, Plan2, Commit5, New5, Alive5. -/
import Derived.Test.YtmelaiefbpdifaaGreatDoorHGg
/- blocks: the home blocks as steps leave them; apply: the rows as they are then. -/
namespace Go.Proofs.YtmelaiefbpdifaaGreatDoor
open Go.RowKit Go.Maps
def tN(s:Sp):Bk:=⟨(s.at_:Int),G6 s.ch⟩
def bkE(x:Bk):List Value:=[.int .i64 x.at_,.string (strOf x.data)]
theorem tV(x:Bk):(bkE x).length=2:=rfl
theorem U3(x:Bk):∀ v∈bkE x,v.oneCell'=true:=by
 intro v hv
 simp [bkE] at hv
 rcases hv with rfl | rfl<;>rfl
theorem TP:(Tryz.prog.info? 184).map (fun i=>(i.zero,i.size,i.bytes))=some (some (.agg #[.int .i64 0,.string ⟨#[]⟩]),2,24):=by kernel_rfl
theorem Nh{w:World}{A:Option Addr}{l:List Bk}(h:Els bkE 2 w A l)(hok:∀ x∈l,x.okay):Fq w A l:=by
 refine⟨?_,hok⟩
 rcases h with h | ⟨g,o,rfl,hg,hat⟩
 ·exact .inl h
 ·exact .inr ⟨g,o,rfl,hg,fun i hi=>⟨by simpa using hat i hi 0 _ rfl,hat i hi 1 _ rfl⟩⟩
def Ru(l:List Sp):Prop:=∀ x∈l,x.ch.key.length≤16∧x.ch.val.length≤200
set_option maxRecDepth 100000 in
set_option maxHeartbeats 2000000 in
theorem Nc(w:World)(A:Option Addr)(c:Nat)(l:List Sp)(hb:Els spE 4 w A l)(hs:Ru l)(hl:l.length≤80):
  Calls Tryz.prog 42 #[.slice A l.length c] w fun e w'=>∃ v,e = .returned v∧fV bkE 2 w w' v (l.map tN):=by
 have hlI:(l.length:Int)≤80:=by omega
 go_enter Tryz.func42,Tryz.ntmps42
 go_wp2_with fail
 go_loopw [3,8] (fun v i wr=>∃ k:Nat,k≤l.length∧i = .int .i64 k∧Mine bkE 2 184 w wr v ((l.take k).map tN)) (fun _ i _=>l.length-(intOf i).toNat)
 case atStart=>exact⟨0,Nat.zero_le _,rfl,Mine.start _ _ _ (Only.refl _ _)⟩
 case round=>
  obtain⟨k,hk,rfl,aG⟩:=hrel
  by_cases hlt:k<l.length
  ·have kr:=aG.only
   obtain⟨g,o,rfl,hg,QI⟩:=hb.get hlt
   obtain⟨d0,d1,d2,d3⟩:=Ya QI hlt
   have c0:=kr.cell d0 (by simp)
   have c1:=kr.cell d1 (by simp)
   have c2:=kr.cell d2 (by simp)
   have c3:=kr.cell d3 (by simp)
   obtain⟨hs1,hs2⟩:=hs l[k] (List.getElem_mem hlt)
   have hdata:=fun W=>Qm W l[k].ch hs1 hs2
   have htk:(l.take (k+1)).map tN=(l.take k).map tN++[tN l[k]]:=by
    rw [List.take_add_one,List.getElem?_eq_getElem hlt,List.map_append]
    rfl
   have hll:((l.take k).map tN).length≤80:=by have:=List.length_take_le k l;simp;omega
   have Xo:bkE (tN l[k]) = [.int .i64 (l[k].at_:Int),.string (strOf (G6 l[k].ch))]:=rfl
   generalize hBk:tN l[k]=bk at *
   generalize l[k]=x at *
   obtain⟨a,key,val,gone⟩:=x
   simp only at c0 c1 c2 c3 hdata Xo
   generalize hL':(l.take (k+1)).map tN=L' at *
   generalize (l.take k).map tN=L at *
   generalize strOf (G6 ⟨key,val,gone⟩)=D at *
   generalize strOf key=ks at *
   generalize strOf val=vs at *
   generalize (a:Int)=ai at *
   replace hL':=Lib.hid hL'
   replace hBk:=Lib.hid hBk
   replace htk:=Lib.hid htk
   replace Xo:=Lib.hid Xo
   replace hdata:=Lib.hid hdata
   have kal:=(Only.refl [] wr).alloc (.cells #[.int .i64 ai,.string ks,.string vs,.bool gone] 173)
   have bal:=Blk.new wr 173 #[.int .i64 ai,.string ks,.string vs,.bool gone]
   have m2:=aG.keep kal
   have Y6:=fun g hg=>(aG.own.lt g hg).2
   replace Y6:=Lib.hid Y6
   clear aG d0 d1 d2 d3 QI
   go_wp2_with fail
   generalize hw2:wr.alloc (.cells #[.int .i64 ai,.string ks,.string vs,.bool gone] 173)=w2 at *
   obtain⟨q,hq⟩:∃ q,q=wr.heap.size:=⟨_,rfl⟩
   rw [←hq] at bal
   simp only [←hq]
   replace hq:=Lib.hid hq
   replace hw2:=Lib.hid hw2
   have kd:Only [] w2 w2.drew:=(Only.refl [] w2).drew
   have hcells:∀ W,Only [] w2 W→W.cell? ⟨q,0,none⟩=some (.int .i64 ai)∧W.cell? ⟨q,1,none⟩=some (.string ks)∧W.cell? ⟨q,2,none⟩=some (.string vs)∧W.cell? ⟨q,3,none⟩=some (.bool gone):=fun W kW=>by
    have b:=bal.kept kW (by simp)
    have q0:=b.cell 0
    have q1:=b.cell 1
    have q2:=b.cell 2
    have q3:=b.cell 3
    simp only [List.getElem?_toArray,List.getElem?_cons_zero,List.getElem?_cons_succ] at q0 q1 q2 q3
    exact⟨q0,q1,q2,q3⟩
   replace hcells:=Lib.hid hcells
   clear c0 c1 c2 c3 bal kal
   refine wp_region_held_drew (S:=fun w'=>w'.cell? ⟨q,0,none⟩=some (.int .i64 ai)∧w'.cell? ⟨q,1,none⟩=some (.string ks)∧w'.cell? ⟨q,2,none⟩=some (.string vs)∧w'.cell? ⟨q,3,none⟩=some (.bool gone)) (by kernel_rfl) (hcells.out _ kd) (fun hHeld=> ?_)
   refine rwT 0 (u3) hHeld ?_;simp only [rwA]
   refine rwT 1 (.pointer (some ⟨q,0,none⟩)) hHeld ?_;simp only [rwA]
   refine rwT 2 (.int .i64 ai) hHeld ?_;simp only [rwA]
   refine rwT 3 (.pointer (some ⟨q,1,none⟩)) hHeld ?_;simp only [rwA]
   refine rwT 4 (.agg #[.string ks,.string vs,.bool gone]) hHeld ?_;simp only [rwA]
   refine ah 5 rfl (by kernel_rfl) (fun K hK=> ?_)
   go_simp
   go_at_call 91
   refine (hdata.out _).mono ?_
   rintro e w4 ⟨rfl,k4⟩
   have k24:=kd.trans k4
   go_wp2_with fail
   refine hK.out _ _ (hcells.out _ k24) (fun hHeld=> ?_)
   clear hK K
   refine rwT 6 (.agg #[.int .i64 ai,.string D]) hHeld ?_;simp only [rwA]
   refine ah 7 rfl (by kernel_rfl) (fun K hK=> ?_)
   go_simp
   have k5:=(Only.refl [] w4).alloc (.cells #[.int .i64 ai,.string D] 184)
   have k25:=k24.trans k5
   have m5:=m2.keep k25
   have b5:Blk (w4.alloc (.cells #[.int .i64 ai,.string D] 184)) w4.heap.size 184 (bkE bk).toArray:=by rw [Xo.out];exact Blk.new _ _ _
   refine hK.out _ _ (hcells.out _ k25) (fun hHeld=> ?_)
   clear hK K
   refine ah 8 rfl (by kernel_rfl) (fun K hK=> ?_)
   refine oz rfl (.tmp 12) (.tmp 19) 99 rfl 184 _ 24 tV (by decide) U3 Tryz.underlying99 TP rfl u3 L.length L rfl m5.own w4.heap.size bk _ rfl b5 (by unfold maxLen;omega) (by omega) ?_
   intro vv w6 h6 g6 a6
   have m6:=m5.pushed h6 g6 a6
   rw [←htk.out] at m6
   have hqv:∀ W,Only [] w2 W→q∉u3.ownBlock.toList:=fun W _ hm=>by have:=Y6.out q (Option.mem_toList.1 hm);have:=hq.out;omega
   have hc6:=hcells.out _ k25
   have k6:=sS g6
   have abt:=hqv _ kd
   refine hK.out _ _ ⟨k6.cell hc6.1 abt,k6.cell hc6.2.1 abt,k6.cell hc6.2.2.1 abt,k6.cell hc6.2.2.2 abt⟩ (fun hHeld=> ?_)
   clear hK K
   simp only [rwA]
   refine rwT 9 (vv) hHeld ?_;simp only [rwA]
   refine wpAnyH_done (by kernel_rfl) ?_ _
   clear hHeld
   clear hc6 k6 h6 g6 a6 m5 b5 k5 k25 k24 k4 m2 hcells hdata
   go_wp2
   go_roundw
   case rel=>exact⟨k+1,by omega,by go_num,by rw [hL'.out];exact m6⟩
   case measure=>simp [intOf];omega
  ·have hkl:k=l.length:=by omega
   subst hkl
   rw [List.take_of_length_le (Nat.le_refl _)] at aG
   have hfin:=aG.els tV
   replace hfin:=Lib.hid hfin
   clear aG
   go_wp2
   go_ret
   exact⟨_,rfl,hfin.out⟩
def qK(M:List Rw)(c:Ch):List Rw:=if c.gone then vN M c.key else M
def qW(M:List Rw)(s:Sp):List Rw:=if s.ch.gone then M else wG M ⟨s.ch.key,s.ch.val,s.at_⟩
def jH(M:List Rw)(l:List Ch)(ss:List Sp):List Rw:=ss.foldl qW (l.foldl qK M)
theorem tJ{α β:Type}(f:β→α→β)(b:β)(l:List α)(k:Nat)(h:k<l.length):(l.take (k+1)).foldl f b=f ((l.take k).foldl f b) l[k]:=by
 rw [List.take_add_one,List.getElem?_eq_getElem h,List.foldl_append]
 rfl
theorem XR(M:List Rw)(c:Ch):(qK M c).length≤M.length:=by
 unfold qK
 split
 ·exact List.length_filter_le _ _
 ·exact Nat.le_refl _
theorem V4(M:List Rw)(s:Sp):(qW M s).length≤M.length+1:=by
 unfold qW
 split
 ·omega
 ·rw [wG,jR]
  have:(vN M s.ch.key).length≤M.length:=List.length_filter_le _ _
  simp only
  omega
theorem UG(l:List Ch):∀ M:List Rw,(l.foldl qK M).length≤M.length:=by
 induction l with
 | nil=>intro M;exact Nat.le_refl _
 | cons c r ih=>intro M;have:=ih (qK M c);have:=XR M c;simp only [List.foldl_cons];omega
theorem RZ(l:List Sp):∀ M:List Rw,(l.foldl qW M).length≤M.length+l.length:=by
 induction l with
 | nil=>intro M;simp
 | cons c r ih=>intro M;have:=ih (qW M c);have:=V4 M c;simp only [List.foldl_cons,List.length_cons];omega
section
variable {w:World}{mb:Nat}{M:List Rw}
theorem IC{ops:Array Oper}{o:Oper}{a:Act}{K:Act→World→Prop}{Q:Exit→Act→World→Prop}{E:Prop}(hgd:o.guard=none)(m x v:Operand)(hop:o.op=Op.mapUpdate 89 m x v)
  (hm:a.eval m = .map (some mb)) (h:Ac w mb M) (hn:M.length≤1048576) (r:Rw) (hk:r.key.length≤1048576) (hx:a.eval x = .string (strOf r.key)) (hv:a.eval v = .agg #[.int .i64 (r.at_:Int),.string (strOf r.val)])
  (hK:∀ w',Ac w' mb (wG M r)→Only [mb] w w'→K (a.put o.dst undef) w'):
  if Region.wanted o (yielded ops a.tmps)=true then Oper.wp Tryz.prog o a w K Q else E:=by
 have hw:Region.wanted o (yielded ops a.tmps)=true:=by simp [Region.wanted,hgd]
 rw [if_pos hw]
 obtain⟨w',hrun,r1,r2⟩:=World.ownsMap.store h YR Tryz.underlying89 (by unfold maxLen;omega) (Js r.key hk) (rowElem_mk (r.at_:Int) (strOf r.val))
 rw [dh] at r1
 unfold Oper.wp
 simp [execOp,hop,hm,hx,hv,hrun,Result.andThen]
 exact hK w' (pX (by rw [←NQ];exact r1)) (lT r2)
theorem IE{ops:Array Oper}{o:Oper}{a:Act}{K:Act→World→Prop}{Q:Exit→Act→World→Prop}{E:Prop}(hgd:o.guard=none)(m x:Operand)(hop:o.op=Op.call { callee:=Callee.builtin Builtin.delete,args:=#[m,x],argTypes:=#[89,9] })
  (hm:a.eval m = .map (some mb)) (h:Ac w mb M) (k:List UInt8) (hk:k.length≤1048576) (hx:a.eval x = .string (strOf k))
  (hK:∀ w',Ac w' mb (vN M k)→Only [mb] w w'→K (a.put o.dst (.tuple #[])) w'):
  if Region.wanted o (yielded ops a.tmps)=true then Oper.wp Tryz.prog o a w K Q else E:=by
 have hw:Region.wanted o (yielded ops a.tmps)=true:=by simp [Region.wanted,hgd]
 rw [if_pos hw]
 obtain⟨w',hrun,r1,r2⟩:=World.ownsMap.drop h YR Tryz.underlying89 (Js k hk) o.type
 unfold Oper.wp
 simp [execOp,hop,resolve,invoke,builtin,hm,hx,hrun,Result.andThen]
 exact hK w' (pX (by rw [←WG];exact r1)) (lT r2)
end
end Go.Proofs.YtmelaiefbpdifaaGreatDoor
/- apply: the rows as they are behind a commit. -/
namespace Go.Proofs.YtmelaiefbpdifaaGreatDoor
open Go.RowKit Go.Maps
set_option maxRecDepth 100000 in
set_option maxHeartbeats 4000000 in
theorem U8(w:World)(rp mb lp:Nat)(M:List Rw)(A B:Option Addr)(c d:Nat)(l:List Ch)(ss:List Sp)(hr:gy w rp mb lp M)(hne:rp≠mb)(hb:Els chE 3 w A l)(hA:∀ a,A=some a→a.block≠mb)(hs:oD l)(hl:l.length≤40)
  (hb':Els spE 4 w B ss) (hB:∀ a,B=some a→a.block≠mb) (hs':Ru ss) (hl':ss.length≤80) (hM:M.length≤1048000):
  Calls Tryz.prog 43 #[.pointer (some ⟨rp,0,none⟩),.slice A l.length c,.slice B ss.length d] w fun e w'=>e = .returned (.tuple #[])∧gy w' rp mb lp (jH M l ss)∧Only [mb] w w':=by
 have hlI:(l.length:Int)≤40:=by omega
 have afu:(ss.length:Int)≤80:=by omega
 have afn:mb<w.heap.size:=hr.map.lt
 have afe:rp<w.heap.size:=hr.hdr.lt
 replace hA:=Lib.hid hA
 replace hB:=Lib.hid hB
 go_enter Tryz.func43,Tryz.ntmps43
 go_wp2_with fail
 go_loopw [12] (fun i wr=>∃ k:Nat,k≤l.length∧i = .int .i64 k∧gy wr rp mb lp ((l.take k).foldl qK M)∧Only [mb] w wr) (fun i _=>l.length-(intOf i).toNat)
 case atStart=>exact⟨0,Nat.zero_le _,rfl,hr,Only.refl _ _⟩
 case round=>
  obtain⟨k,hk,rfl,hrk,kr⟩:=hrel
  by_cases hlt:k<l.length
  ·obtain⟨g,o,rfl,hg,QI⟩:=hb.get hlt
   have hgm:g∉[mb]:=by simpa using hA.out _ rfl
   obtain⟨d0,d1,d2⟩:=kT QI hlt
   have c0:=kr.cell d0 hgm
   have c1:=kr.cell d1 hgm
   have c2:=kr.cell d2 hgm
   have hsm:=hs l[k] (List.getElem_mem hlt)
   have htk:=tJ qK M l k hlt
   have hdF:qK ((l.take k).foldl qK M) l[k]=if l[k].gone then vN ((l.take k).foldl qK M) l[k].key else (l.take k).foldl qK M:=rfl
   rw [hdF] at htk
   clear hdF
   generalize l[k]=x at *
   obtain⟨key,val,gone⟩:=x
   simp only at c0 c1 c2 htk
   generalize Xu:(l.take (k+1)).foldl qK M=Mk' at *
   generalize (l.take k).foldl qK M=Mk at *
   replace Xu:=Lib.hid Xu
   generalize hks:strOf key=ks at *
   generalize strOf val=vs at *
   have kal:=(Only.refl [] wr).alloc (.cells #[.string ks,.string vs,.bool gone] 133)
   have bal:=Blk.new wr 133 #[.string ks,.string vs,.bool gone]
   have Y8:=hrk.kept kal (by simp) (by simp)
   have kr2:=kr.trans (kal.more (by simp))
   have ab7:mb<wr.heap.size:=hrk.map.lt
   cases gone with
   | false=>
    have hTT:Mk'=Mk:=by simpa using htk
    subst hTT
    replace hks:=Lib.hid hks
    clear htk kal bal hrk
    go_wp2
    go_roundw
    case rel=>exact⟨k+1,by omega,by go_num,by rw [Xu.out];exact Y8,kr2⟩
    case measure=>simp [intOf];omega
   | true=>
    have hTT:Mk'=vN Mk key:=by simpa using htk
    subst hTT
    replace hks:=Lib.hid hks
    clear htk kal hrk
    go_wp2_with fail
    generalize hw2:wr.alloc (.cells #[.string ks,.string vs,.bool true] 133)=w2 at *
    obtain⟨q,hq⟩:∃ q,q=wr.heap.size:=⟨_,rfl⟩
    rw [←hq] at bal ab7
    simp only [←hq]
    replace hq:=Lib.hid hq
    replace hw2:=Lib.hid hw2
    have kd:Only [] w2 w2.drew:=(Only.refl [] w2).drew
    have hrd:=Y8.kept kd (by simp) (by simp)
    have q0:=(bal.kept kd (by simp)).cell 0
    simp only [List.getElem?_toArray,List.getElem?_cons_zero] at q0
    have x1:=hrd.cells.2
    clear c0 c1 c2 bal Y8
    refine wp_region_held_drew (S:=fun w'=>w'.cell? ⟨rp,1,none⟩=some (.map (some mb))∧w'.cell? ⟨q,0,none⟩=some (.string ks)) (by kernel_rfl) ⟨x1,q0⟩ (fun hHeld=> ?_)
    refine rwT 0 (.pointer (some ⟨rp,0,none⟩)) hHeld ?_;simp only [rwA]
    refine rwT 1 (.pointer (some ⟨rp,0,none⟩)) hHeld ?_;simp only [rwA]
    refine rwT 2 (.pointer (some ⟨rp,1,none⟩)) hHeld ?_;simp only [rwA]
    refine rwT 3 (.map (some mb)) hHeld ?_;simp only [rwA]
    refine rwT 4 (.pointer (some ⟨q,0,none⟩)) hHeld ?_;simp only [rwA]
    refine rwT 5 (.string ks) hHeld ?_;simp only [rwA]
    refine ah 6 rfl (by kernel_rfl) (fun K hK=> ?_)
    refine IE rfl (.tmp 21) (.tmp 23) rfl rfl hrd.map key (by omega) (by rw [hks.out];rfl) ?_
    intro w6 h6 k6
    refine hK.out _ _ ⟨k6.cell x1 (by simpa using hne),k6.cell q0 (by simp;omega)⟩ (fun hHeld=> ?_)
    clear hK K
    simp only [Act.put]
    refine wpAnyH_done (by kernel_rfl) ?_ _
    clear hHeld
    have hr6:gy w6 rp mb lp (vN Mk key):=⟨hrd.hdr.kept k6 (by simpa using hne),h6⟩
    have kr6:=(kr2.trans (kd.more (by simp))).trans k6
    clear h6 k6 hrd x1 q0 kd
    go_wp2
    go_roundw
    case rel=>exact⟨k+1,by omega,by go_num,by rw [Xu.out];exact hr6,kr6⟩
    case measure=>simp [intOf];omega
  ·have hkl:k=l.length:=by omega
   subst hkl
   rw [List.take_of_length_le (Nat.le_refl _)] at hrk
   have hD:=UG l M
   obtain⟨M1,hM1⟩:∃ M1,M1=l.foldl qK M:=⟨_,rfl⟩
   rw [←hM1] at hrk hD
   replace hM1:=Lib.hid hM1
   go_wp2_with fail
   go_loopw [27] (fun i wr=>∃ k:Nat,k≤ss.length∧i = .int .i64 k∧gy wr rp mb lp ((ss.take k).foldl qW M1)∧Only [mb] w wr) (fun i _=>ss.length-(intOf i).toNat)
   case atStart=>exact⟨0,Nat.zero_le _,rfl,hrk,kr⟩
   case round=>
    clear hrk kr
    obtain⟨k,hk,rfl,hrk,kr⟩:=hrel
    by_cases hlt:k<ss.length
    ·obtain⟨g,o,rfl,hg,QI⟩:=hb'.get hlt
     have hgm:g∉[mb]:=by simpa using hB.out _ rfl
     obtain⟨d0,d1,d2,d3⟩:=Ya QI hlt
     have c0:=kr.cell d0 hgm
     have c1:=kr.cell d1 hgm
     have c2:=kr.cell d2 hgm
     have c3:=kr.cell d3 hgm
     have hsm:=hs' ss[k] (List.getElem_mem hlt)
     have htk:=tJ qW M1 ss k hlt
     have hdF:qW ((ss.take k).foldl qW M1) ss[k]=if ss[k].ch.gone then (ss.take k).foldl qW M1 else wG ((ss.take k).foldl qW M1) ⟨ss[k].ch.key,ss[k].ch.val,ss[k].at_⟩:=rfl
     rw [hdF] at htk
     clear hdF
     have hMl:=RZ (ss.take k) M1
     have afJ:=List.length_take_le k ss
     generalize ss[k]=x at *
     obtain⟨a,key,val,gone⟩:=x
     simp only at c0 c1 c2 c3 htk
     generalize Xu:(ss.take (k+1)).foldl qW M1=Mk' at *
     generalize (ss.take k).foldl qW M1=Mk at *
     replace Xu:=Lib.hid Xu
     generalize hks:strOf key=ks at *
     generalize hvs:strOf val=vs at *
     generalize hai:(a:Int)=ai at *
     have kal:=(Only.refl [] wr).alloc (.cells #[.int .i64 ai,.string ks,.string vs,.bool gone] 173)
     have bal:=Blk.new wr 173 #[.int .i64 ai,.string ks,.string vs,.bool gone]
     have Y8:=hrk.kept kal (by simp) (by simp)
     have kr2:=kr.trans (kal.more (by simp))
     have ab7:mb<wr.heap.size:=hrk.map.lt
     replace hks:=Lib.hid hks
     replace hvs:=Lib.hid hvs
     replace hai:=Lib.hid hai
     cases gone with
     | true=>
      have hTT:Mk'=Mk:=by simpa using htk
      subst hTT
      clear htk kal bal hrk
      go_wp2
      go_roundw
      case rel=>exact⟨k+1,by omega,by go_num,by rw [Xu.out];exact Y8,kr2⟩
      case measure=>simp [intOf];omega
     | false=>
      have hTT:Mk'=wG Mk ⟨key,val,a⟩:=by simpa using htk
      subst hTT
      clear htk kal hrk
      go_wp2_with fail
      generalize hw2:wr.alloc (.cells #[.int .i64 ai,.string ks,.string vs,.bool false] 173)=w2 at *
      obtain⟨q,hq⟩:∃ q,q=wr.heap.size:=⟨_,rfl⟩
      rw [←hq] at bal ab7
      simp only [←hq]
      replace hq:=Lib.hid hq
      replace hw2:=Lib.hid hw2
      have kd:Only [] w2 w2.drew:=(Only.refl [] w2).drew
      have hrd:=Y8.kept kd (by simp) (by simp)
      have bd:=bal.kept kd (by simp)
      have q0:=bd.cell 0
      have q1:=bd.cell 1
      have q2:=bd.cell 2
      simp only [List.getElem?_toArray,List.getElem?_cons_zero,List.getElem?_cons_succ] at q0 q1 q2
      have x1:=hrd.cells.2
      clear c0 c1 c2 c3 bal bd Y8
      refine wp_region_held_drew (S:=fun w'=>w'.cell? ⟨rp,1,none⟩=some (.map (some mb))∧w'.cell? ⟨q,0,none⟩=some (.int .i64 ai)∧w'.cell? ⟨q,1,none⟩=some (.string ks)∧w'.cell? ⟨q,2,none⟩=some (.string vs)) (by kernel_rfl) ⟨x1,q0,q1,q2⟩ (fun hHeld=> ?_)
      refine rwT 0 (.pointer (some ⟨rp,0,none⟩)) hHeld ?_;simp only [rwA]
      refine rwT 1 (.pointer (some ⟨rp,0,none⟩)) hHeld ?_;simp only [rwA]
      refine rwT 2 (.pointer (some ⟨rp,1,none⟩)) hHeld ?_;simp only [rwA]
      refine rwT 3 (.map (some mb)) hHeld ?_;simp only [rwA]
      refine rwT 4 (.pointer (some ⟨q,1,none⟩)) hHeld ?_;simp only [rwA]
      refine rwT 5 (.pointer (some ⟨q,1,none⟩)) hHeld ?_;simp only [rwA]
      refine rwT 6 (.string ks) hHeld ?_;simp only [rwA]
      refine rwT 7 (.pointer (some ⟨q,0,none⟩)) hHeld ?_;simp only [rwA]
      refine rwT 8 (.int .i64 ai) hHeld ?_;simp only [rwA]
      refine rwT 9 (.pointer (some ⟨q,1,none⟩)) hHeld ?_;simp only [rwA]
      refine rwT 10 (.pointer (some ⟨q,2,none⟩)) hHeld ?_;simp only [rwA]
      refine rwT 11 (.string vs) hHeld ?_;simp only [rwA]
      refine rwT 12 (.agg #[.int .i64 ai,.string vs]) hHeld ?_;simp only [rwA]
      refine ah 13 rfl (by kernel_rfl) (fun K hK=> ?_)
      refine IC rfl (.tmp 38) (.tmp 41) (.tmp 47) rfl rfl hrd.map (by omega) ⟨key,val,a⟩ (by simp only;omega) (by rw [hks.out];rfl) (by rw [hvs.out,hai.out];rfl) ?_
      intro w6 h6 k6
      refine hK.out _ _ ⟨k6.cell x1 (by simpa using hne),k6.cell q0 (by simp;omega),k6.cell q1 (by simp;omega),k6.cell q2 (by simp;omega)⟩ (fun hHeld=> ?_)
      clear hK K
      simp only [Act.put]
      refine wpAnyH_done (by kernel_rfl) ?_ _
      clear hHeld
      have hr6:gy w6 rp mb lp (wG Mk ⟨key,val,a⟩):=⟨hrd.hdr.kept k6 (by simpa using hne),h6⟩
      have kr6:=(kr2.trans (kd.more (by simp))).trans k6
      clear h6 k6 hrd x1 q0 q1 q2 kd
      go_wp2
      go_roundw
      case rel=>exact⟨k+1,by omega,by go_num,by rw [Xu.out];exact hr6,kr6⟩
      case measure=>simp [intOf];omega
    ·have hkl:k=ss.length:=by omega
     subst hkl
     rw [List.take_of_length_le (Nat.le_refl _)] at hrk
     go_wp2
     go_end0
     exact⟨rfl,by rw [jH,←hM1.out];exact hrk,kr⟩
end Go.Proofs.YtmelaiefbpdifaaGreatDoor
/- What a commit's changes come to: plain facts. -/
namespace Go.Proofs.YtmelaiefbpdifaaGreatDoor
open Go.RowKit
theorem kU{α:Type}[DecidableEq α]:∀ (l m:List α),l.Nodup→(∀ x∈l,x∈m)→l.length≤m.length
 | [],_,_,_=>Nat.zero_le _
 | a :: l,m,hn,hs=>by
  obtain⟨h1,h2⟩:=List.nodup_cons.1 hn
  have ha:=hs a (by simp)
  have:=kU l (m.erase a) h2 (fun x hx=>(List.mem_erase_of_ne (fun e=>h1 (by rw [←e];exact hx))).2 (hs x (by simp [hx])))
  rw [List.length_erase_of_mem ha] at this
  have:=List.length_pos_of_mem ha
  simp only [List.length_cons]
  omega
theorem kC{α:Type}(p:α→Bool):∀ l:List α,l.length=(l.filter p).length+(l.filter fun x=>!p x).length
 | []=>rfl
 | a :: r=>by
  have ih:=kC p r
  simp only [List.filter_cons,List.length_cons]
  cases p a<;>simp<;>omega
theorem jh{α β:Type}{f:α→β}:∀ {l:List α},l.Pairwise (fun a b=>f a≠f b)→(l.map f).Nodup:=fun h=>List.pairwise_map.2 h
structure Good(N:Nat)(M:List Rw):Prop where
 sorted:Sorted M
 jE:∀ r∈M,r.at_<N
 small:∀ r∈M,1≤r.key.length∧r.key.length≤16∧r.val.length≤200
 inj:∀ r∈M,∀ r'∈M,r.at_=r'.at_→r=r'
theorem Good.nil(N:Nat):Good N []:=⟨Sorted.nil,by simp,by simp,by simp⟩
theorem Good.length{N:Nat}{M:List Rw}(h:Good N M):M.length≤N:=by
 have hn:(M.map Rw.at_).Nodup:=by
  refine jh ?_
  have hnd:=h.sorted.nodup
  refine hnd.imp_of_mem ?_
  intro a b ha hb hne e
  exact hne (h.inj a ha b hb e)
 have:=kU (M.map Rw.at_) (List.range N) hn (fun x hx=>by
  obtain⟨r,hr,rfl⟩:=List.mem_map.1 hx
  exact List.mem_range.2 (h.jE r hr))
 simpa using this
structure Fits(l:List Ch):Prop where
 few:l.length≤40
 keys:l.Pairwise fun a b=>a.key≠b.key
 small:∀ c∈l,1≤c.key.length∧c.key.length≤16∧c.val.length≤200
 empty:∀ c∈l,c.gone=true→c.val = []
theorem nZ{l:List Ch}(h:zF l):Fits l:=by
 obtain⟨h1,h2⟩:=h
 have hm:∀ c∈l,∃ i,∃ hi:i<l.length,l[i]=c:=fun c hc=>by
  obtain⟨i,hi,e⟩:=List.getElem_of_mem hc
  exact⟨i,hi,e⟩
 refine⟨h1,?_,fun c hc=> ?_,fun c hc=> ?_⟩
 ·rw [List.pairwise_iff_getElem]
  intro i j hi hj hij e
  exact (h2 j hj _ (List.getElem?_eq_getElem hj)).2.2.2 ⟨i,_,hij,List.getElem?_eq_getElem hi,e⟩
 ·obtain⟨i,hi,rfl⟩:=hm c hc
  obtain⟨h3,h4,_⟩:=h2 i hi _ (List.getElem?_eq_getElem hi)
  simp only [oM,decide_eq_true_eq] at h3
  exact⟨h3.1,h3.2,h4⟩
 ·obtain⟨i,hi,rfl⟩:=hm c hc
  exact (h2 i hi _ (List.getElem?_eq_getElem hi)).2.2.1
theorem Us{l:List Ch}(h:Fits l):zF l:=by
 refine⟨h.few,fun i hi x hx=> ?_⟩
 rw [List.getElem?_eq_getElem hi] at hx
 injection hx with hx
 subst hx
 have hm:=List.getElem_mem hi
 obtain⟨h1,h2,h3⟩:=h.small _ hm
 refine⟨by simp [oM,h1,h2],h3,h.empty _ hm,?_⟩
 rintro⟨j,y,hj,hy,he⟩
 obtain⟨hj',rfl⟩:=List.getElem?_eq_some_iff.1 hy
 exact (List.pairwise_iff_getElem.1 h.keys) j i hj' hi hj he
theorem Fits.inj{l:List Ch}(h:Fits l){a b:Ch}(ha:a∈l)(hb:b∈l)(e:a.key=b.key):a=b:=by
 obtain⟨i,hi,rfl⟩:=List.getElem_of_mem ha
 obtain⟨j,hj,rfl⟩:=List.getElem_of_mem hb
 rcases Nat.lt_trichotomy i j with hij | hij | hij
 ·exact absurd e ((List.pairwise_iff_getElem.1 h.keys) i j hi hj hij)
 ·subst hij;rfl
 ·exact absurd e.symm ((List.pairwise_iff_getElem.1 h.keys) j i hj hi hij)
theorem Fits.news{M:List Rw}{l:List Ch}(h:Fits l):Fits (aC M l):=
 ⟨Nat.le_trans (List.length_filter_le _ _) h.few,h.keys.filter _,fun c hc=>h.small c (List.mem_filter.1 hc).1,fun c hc=>h.empty c (List.mem_filter.1 hc).1⟩
theorem Fits.oD{l:List Ch}(h:Fits l):oD l:=fun x hx=>(h.small x hx).2
theorem ru{M:List Rw}{l:List Ch}:∀ x∈aC M l,x.gone=true→(aK M x.key).isSome=true:=by
 intro x hx hg
 have:=(List.mem_filter.1 hx).2
 unfold fU at this
 rwa [hg,if_pos rfl] at this
def Un(l:List Ch):Nat:=(l.filter Ch.gone).length
theorem BQ(M:List Rw):∀ l:List Ch,bf M l=(iw M l:Int)-(Un l:Int)
 | []=>by simp [bf,iw,Un]
 | c :: r=>by
  have ih:=BQ M r
  rw [bf,ih]
  unfold iw Un zH fK
  simp only [List.filter_cons]
  cases hg:c.gone<;>cases hf:(aK M c.key).isSome<;>simp<;>omega
def lW(l:List Ch)(k:List UInt8):Bool:=l.any fun c=>c.gone && c.key==k
theorem room{N:Nat}{M:List Rw}{l:List Ch}(hM:Good N M)(hl:Fits l)(hg:∀ x∈l,x.gone=true→(aK M x.key).isSome=true)(h:bf M l≤(N:Int)-(M.length:Int)):iw M l≤(cZ M N l).length:=by
 have h1:(List.range N).length=((List.range N).filter (lY M l)).length+((List.range N).filter (fun i=>!lY M l i)).length:=kC _ _
 have h2:M.length=(M.filter fun r=>lW l r.key).length+(M.filter fun r=>!lW l r.key).length:=kC _ _
 have h3:((List.range N).filter (fun i=>!lY M l i)).length≤((M.filter fun r=>!lW l r.key).map Rw.at_).length:=by
  refine kU _ _ (List.Nodup.sublist List.filter_sublist List.nodup_range) (fun i hi=> ?_)
  have hp:=(List.mem_filter.1 hi).2
  simp only [lY,Bool.not_not,Bool.and_eq_true,Bool.not_eq_true'] at hp
  obtain⟨r,hr,he⟩:=List.any_eq_true.1 hp.1
  have he':r.at_=i:=by simpa using he
  refine List.mem_map.2 ⟨r,List.mem_filter.2 ⟨hr,?_⟩,he'⟩
  cases hk:lW l r.key with
  | false=>rfl
  | true=>
   obtain⟨c,hc,hck⟩:=List.any_eq_true.1 hk
   simp only [Bool.and_eq_true,beq_iff_eq] at hck
   have:jF M l i=true:=List.any_eq_true.2 ⟨c,hc,by rw [hck.1,hck.2,fO (nM hM.sorted hr),he'];simp⟩
   rw [hp.2] at this
   cases this
 have h4:((l.filter Ch.gone).map Ch.key).length≤((M.filter fun r=>lW l r.key).map Rw.key).length:=by
  refine kU _ _ (jh (hl.keys.filter _)) (fun k hk=> ?_)
  obtain⟨c,hc,rfl⟩:=List.mem_map.1 hk
  obtain⟨hcl,hcg⟩:=List.mem_filter.1 hc
  obtain⟨r,hr⟩:=Option.isSome_iff_exists.1 (hg c hcl hcg)
  obtain⟨hrM,hrk⟩:=bC hr
  exact List.mem_map.2 ⟨r,List.mem_filter.2 ⟨hrM,List.any_eq_true.2 ⟨c,hcl,by rw [hcg,hrk];simp⟩⟩,hrk⟩
 have h5:=BQ M l
 have h6:=hM.length
 simp only [List.length_map,List.length_range] at h1 h3 h4
 have h7:Un l=(l.filter Ch.gone).length:=rfl
 have h8:(cZ M N l).length=((List.range N).filter (lY M l)).length:=rfl
 omega
theorem wV{M:List Rw}{N:Nat}{l:List Ch}{i:Nat}:i∈cZ M N l↔i<N∧(Dz M i=true→jF M l i=true):=by
 unfold cZ
 rw [List.mem_filter,List.mem_range]
 unfold lY
 cases Dz M i<;>cases jF M l i<;>simp
theorem yA(M:List Rw)(N:Nat)(l:List Ch):(cZ M N l).Nodup:=List.Nodup.sublist List.filter_sublist List.nodup_range
theorem jU{N:Nat}{M:List Rw}{l:List Ch}(hM:Good N M){r:Rw}(hr:r∈M)(hst:∀ c∈l,c.gone=true→c.key≠r.key)(hg:∀ x∈l,x.gone=true→(aK M x.key).isSome=true):r.at_∉cZ M N l:=by
 intro h
 have h2:=(wV.1 h).2 (List.any_eq_true.2 ⟨r,hr,by simp⟩)
 obtain⟨c,hc,hck⟩:=List.any_eq_true.1 h2
 simp only [Bool.and_eq_true,beq_iff_eq] at hck
 obtain⟨r',hr'⟩:=Option.isSome_iff_exists.1 (hg c hc hck.1)
 obtain⟨h3,h4⟩:=bC hr'
 rw [fO hr'] at hck
 have:=hM.inj r' h3 r hr hck.2
 subst this
 exact hst c hc hck.1 h4.symm
theorem Um{N:Nat}{M:List Rw}{l:List Ch}(hM:Good N M){c:Ch}(hc:c∈l)(hg:c.gone=true)(hs:(aK M c.key).isSome=true):atL M c.key∈cZ M N l:=by
 obtain⟨r,hr⟩:=Option.isSome_iff_exists.1 hs
 refine wV.2 ⟨?_,fun _=>List.any_eq_true.2 ⟨c,hc,by rw [hg];simp⟩⟩
 rw [fO hr]
 exact hM.jE r (bC hr).1
structure Laid(M:List Rw)(fr:List Nat)(l:List Ch)(S:List Sp):Prop where
 chs:S.map Sp.ch=l.filter (fun c=>!c.gone)
 old:∀ s∈S,(aK M s.ch.key).isSome=true→s.at_=atL M s.ch.key
 new:∀ s∈S,(aK M s.ch.key).isSome=false→s.at_∈fr.take (iw M l)
 ats:(S.map Sp.at_).Nodup
theorem laid{N:Nat}{M:List Rw}{l0:List Ch}(hM:Good N M)(hl0:Fits l0)(hg:∀ x∈l0,x.gone=true→(aK M x.key).isSome=true)(hroom:iw M l0≤(cZ M N l0).length):
  ∀ k,k≤l0.length→Laid M (cZ M N l0) (l0.take k) (aX M (cZ M N l0) (l0.take k)).1
 | 0,_=>⟨by simp [aX],by simp [aX],by simp [aX],by simp [aX]⟩
 | k+1,hk=>by
  have ih:=laid hM hl0 hg hroom k (by omega)
  have hlt:k<l0.length:=by omega
  have hleft:=jJ M (cZ M N l0) l0 k (by omega)
  have htk:=pI M (cZ M N l0) l0 k hlt
  have hnt:=Bo M l0 k hlt
  have hnl:=yY M l0 (k+1)
  have hft:l0.take (k+1)=l0.take k++[l0[k]]:=by rw [List.take_add_one,List.getElem?_eq_getElem hlt];rfl
  have hmem:=List.getElem_mem hlt
  have hdist:∀ c∈l0.take k,c.key≠l0[k].key:=by
   intro c hc e
   obtain⟨i,hi,rfl⟩:=List.getElem_of_mem hc
   rw [List.length_take] at hi
   rw [List.getElem_take] at e
   exact (List.pairwise_iff_getElem.1 hl0.keys) i k (by omega) hlt (by omega) e
  have hsub:∀ c∈l0.take k,c∈l0:=fun c hc=>List.mem_of_mem_take hc
  generalize hx:l0[k]=x at *
  generalize hP:aX M (cZ M N l0) (l0.take k)=Pr at *
  obtain⟨S,f2⟩:=Pr
  simp only at ih hleft
  have hch:∀ s∈S,s.ch∈l0.take k:=fun s hs=>by
   have:s.ch∈S.map Sp.ch:=List.mem_map.2 ⟨s,hs,rfl⟩
   rw [ih.chs] at this
   exact (List.mem_filter.1 this).1
  have aeU:∀ s∈S,s.ch.gone=false:=fun s hs=>by
   have:s.ch∈S.map Sp.ch:=List.mem_map.2 ⟨s,hs,rfl⟩
   rw [ih.chs] at this
   simpa using (List.mem_filter.1 this).2
  have hmono:∀ i∈(cZ M N l0).take (iw M (l0.take k)),i∈(cZ M N l0).take (iw M (l0.take (k+1))):=fun i hi=>by
   have:=List.take_subset_take_left (cZ M N l0) (show iw M (l0.take k)≤iw M (l0.take (k+1)) by omega)
   exact this hi
  have WT:∀ (c:Ch) (r:Rw),c∈l0→c.gone=false→aK M c.key=some r→r.at_∉cZ M N l0:=fun c r hc hcg hf=>by
   obtain⟨h1,h2⟩:=bC hf
   refine jU hM h1 (fun c' hc' hg' e=> ?_) hg
   have:=hl0.inj hc' hc (by rw [e,h2])
   subst this
   rw [hcg] at hg'
   cases hg'
  rw [htk]
  unfold uI
  cases hgx:x.gone with
  | true=>
   rw [if_pos rfl]
   have hn0:iw M (l0.take (k+1))=iw M (l0.take k):=by rw [hnt];simp [fK,hgx]
   exact⟨by rw [hft,List.filter_append,ih.chs];simp [hgx],ih.old,by rw [hn0];exact ih.new,ih.ats⟩
  | false=>
   rw [if_neg (by decide)]
   cases hfx:(aK M x.key).isSome with
   | true=>
    rw [if_pos rfl]
    have hn0:iw M (l0.take (k+1))=iw M (l0.take k):=by rw [hnt];simp [fK,hfx]
    obtain⟨r,hr⟩:=Option.isSome_iff_exists.1 hfx
    obtain⟨hr1,hr2⟩:=bC hr
    refine⟨by rw [hft,List.filter_append,List.map_append,ih.chs];simp [hgx],fun s hs hss=> ?_,fun s hs hss=> ?_,?_⟩
    ·rcases List.mem_append.1 hs with hs | hs
     ·exact ih.old s hs hss
     ·simp only [List.mem_singleton] at hs;subst hs;rfl
    ·rw [hn0]
     rcases List.mem_append.1 hs with hs | hs
     ·exact ih.new s hs hss
     ·simp only [List.mem_singleton] at hs;subst hs;simp only at hss;rw [hfx] at hss;cases hss
    ·rw [List.map_append,List.nodup_append]
     refine⟨ih.ats,by simp,?_⟩
     intro a ha b hb
     simp only [List.map_cons,List.map_nil,List.mem_singleton] at hb
     subst hb
     obtain⟨s,hs,rfl⟩:=List.mem_map.1 ha
     intro e
     rw [fO hr] at e
     cases hfs:(aK M s.ch.key).isSome with
     | true=>
      obtain⟨r',hr'⟩:=Option.isSome_iff_exists.1 hfs
      rw [ih.old s hs hfs,fO hr'] at e
      have:=hM.inj r' (bC hr').1 r hr1 e
      subst this
      exact hdist s.ch (hch s hs) (by rw [←(bC hr').2,hr2])
     | false=>
      have:=List.mem_of_mem_take (ih.new s hs hfs)
      rw [e] at this
      exact WT x r hmem hgx hr this
   | false=>
    rw [if_neg (by decide)]
    have hn1:iw M (l0.take (k+1))=iw M (l0.take k)+1:=by rw [hnt];simp [fK,hgx,hfx]
    have hlen:iw M (l0.take k)<(cZ M N l0).length:=by omega
    have hhead:f2.headD 0=(cZ M N l0)[iw M (l0.take k)]:=by
     rw [hleft,List.drop_eq_getElem_cons hlen]
     rfl
    have hin:f2.headD 0∈(cZ M N l0).take (iw M (l0.take (k+1))):=by
     rw [hhead,hn1,List.take_add_one,List.getElem?_eq_getElem hlen]
     exact List.mem_append.2 (.inr (List.mem_singleton.2 rfl))
    have hnot:f2.headD 0∉(cZ M N l0).take (iw M (l0.take k)):=by
     rw [hhead]
     intro hm
     obtain⟨i,hi,he⟩:=List.getElem_of_mem hm
     rw [List.length_take] at hi
     rw [List.getElem_take] at he
     have hnd:=yA M N l0
     have:=(List.pairwise_iff_getElem.1 hnd) i (iw M (l0.take k)) (by omega) hlen (by omega)
     exact this he
    refine⟨by rw [hft,List.filter_append,List.map_append,ih.chs];simp [hgx],fun s hs hss=> ?_,fun s hs hss=> ?_,?_⟩
    ·rcases List.mem_append.1 hs with hs | hs
     ·exact ih.old s hs hss
     ·simp only [List.mem_singleton] at hs;subst hs;simp only at hss;rw [hfx] at hss;cases hss
    ·rcases List.mem_append.1 hs with hs | hs
     ·exact hmono _ (ih.new s hs hss)
     ·simp only [List.mem_singleton] at hs;subst hs;exact hin
    ·rw [List.map_append,List.nodup_append]
     refine⟨ih.ats,by simp,?_⟩
     intro a ha b hb
     simp only [List.map_cons,List.map_nil,List.mem_singleton] at hb
     subst hb
     obtain⟨s,hs,rfl⟩:=List.mem_map.1 ha
     intro e
     cases hfs:(aK M s.ch.key).isSome with
     | true=>
      obtain⟨r',hr'⟩:=Option.isSome_iff_exists.1 hfs
      rw [ih.old s hs hfs,fO hr'] at e
      have:=List.mem_of_mem_take hin
      rw [←e] at this
      exact WT s.ch r' (hsub _ (hch s hs)) (aeU s hs) hr' this
     | false=>
      have:=ih.new s hs hfs
      rw [e] at this
      exact hnot this
end Go.Proofs.YtmelaiefbpdifaaGreatDoor
/- Steps and the rows behind them: plain facts. -/
namespace Go.Proofs.YtmelaiefbpdifaaGreatDoor
open Go.RowKit
structure Does(N:Nat)(M:List Rw)(l:List Ch)(ss:List Sp):Prop where
 ats:(ss.map Sp.at_).Nodup
 jE:∀ s∈ss,s.at_<N
 yF:∀ s∈ss,s.ch∈l
 lays:∀ c∈l,c.gone=false→∃ s∈ss,s.ch=c
 old:∀ s∈ss,s.ch.gone=false→(aK M s.ch.key).isSome=true→s.at_=atL M s.ch.key
 new:∀ s∈ss,s.ch.gone=false→(aK M s.ch.key).isSome=false→s.at_∈cZ M N l
 gon:∀ s∈ss,s.ch.gone=true→s.at_=atL M s.ch.key
 freed:∀ c∈l,c.gone=true→∃ s∈ss,s.at_=atL M c.key
 keys:(ss.filter fun s=>!s.ch.gone).Pairwise fun a b=>a.ch.key≠b.ch.key
 few:ss.length≤l.length
 raw:ss.Perm (H7 M N l)
theorem Does.perm{N:Nat}{M:List Rw}{l:List Ch}{ss ss':List Sp}(h:Does N M l ss)(hp:ss'.Perm ss):Does N M l ss':=by
 have hm:∀ s,s∈ss'↔s∈ss:=fun s=>hp.mem_iff
 refine⟨(hp.map _).nodup_iff.2 h.ats,fun s hs=>h.jE s ((hm s).1 hs),fun s hs=>h.yF s ((hm s).1 hs),fun c hc hg=> ?_,fun s hs=>h.old s ((hm s).1 hs),fun s hs=>h.new s ((hm s).1 hs),fun s hs=>h.gon s ((hm s).1 hs),fun c hc hg=> ?_,?_,by rw [hp.length_eq];exact h.few,hp.trans h.raw⟩
 ·obtain⟨s,hs,he⟩:=h.lays c hc hg
  exact⟨s,(hm s).2 hs,he⟩
 ·obtain⟨s,hs,he⟩:=h.freed c hc hg
  exact⟨s,(hm s).2 hs,he⟩
 ·exact ((hp.filter _).pairwise_iff (fun h=>Ne.symm h)).2 h.keys
theorem G5{N:Nat}{M:List Rw}{l:List Ch}(hM:Good N M)(hl:Fits l)(hg:∀ x∈l,x.gone=true→(aK M x.key).isSome=true)(hroom:iw M l≤(cZ M N l).length):Does N M l (H7 M N l):=by
 have hlaid:=laid hM hl hg hroom l.length (Nat.le_refl _)
 have hleft:=jJ M (cZ M N l) l l.length (Nat.le_refl _)
 rw [List.take_of_length_le (Nat.le_refl _)] at hlaid hleft
 have hraw:H7 M N l=(aX M (cZ M N l) l).1++leftG M (aX M (cZ M N l) l).2 l:=rfl
 have hself:H7 M N l=(aX M (cZ M N l) l).1++leftG M ((cZ M N l).drop (iw M l)) l:=by rw [hraw,hleft]
 rw [hself]
 have hfn:=yA M N l
 have hfg:∀ c∈l,c.gone=true→atL M c.key∈cZ M N l:=fun c hc hcg=>Um hM hc hcg (hg c hc hcg)
 have Z8:∀ i∈cZ M N l,i<N:=fun i hi=>(wV.1 hi).1
 have WT:∀ (c:Ch) (r:Rw),c∈l→c.gone=false→aK M c.key=some r→r.at_∉cZ M N l:=fun c r hc hcg hf=>by
  obtain⟨h1,h2⟩:=bC hf
  refine jU hM h1 (fun c' hc' hg' e=> ?_) hg
  have:=hl.inj hc' hc (by rw [e,h2])
  subst this
  rw [hcg] at hg'
  cases hg'
 generalize (aX M (cZ M N l) l).1=S at *
 generalize hfr:cZ M N l=fr at *
 have hS:∀ s∈S,s.ch∈l∧s.ch.gone=false:=fun s hs=>by
  have:s.ch∈S.map Sp.ch:=List.mem_map.2 ⟨s,hs,rfl⟩
  rw [hlaid.chs] at this
  exact⟨(List.mem_filter.1 this).1,by simpa using (List.mem_filter.1 this).2⟩
 have hG:∀ s∈leftG M (fr.drop (iw M l)) l,s.ch∈l∧s.ch.gone=true∧s.at_=atL M s.ch.key∧s.at_∈fr.drop (iw M l):=fun s hs=>by
  obtain⟨c,hc,rfl⟩:=List.mem_map.1 hs
  obtain⟨h1,h2⟩:=List.mem_filter.1 hc
  simp only [Bool.and_eq_true,List.contains_iff_mem] at h2
  exact⟨h1,h2.1,rfl,h2.2⟩
 have aeZ:∀ s∈S,s.at_<N:=fun s hs=>by
  cases hf:(aK M s.ch.key).isSome with
  | true=>
   obtain⟨r,hr⟩:=Option.isSome_iff_exists.1 hf
   rw [hlaid.old s hs hf,fO hr]
   exact hM.jE r (bC hr).1
  | false=>exact Z8 _ (List.mem_of_mem_take (hlaid.new s hs hf))
 have hsplit:fr.take (iw M l)++fr.drop (iw M l)=fr:=List.take_append_drop _ _
 have hdisj:∀ i,i∈fr.take (iw M l)→i∉fr.drop (iw M l):=fun i h1 h2=>by
  rw [←hsplit,List.nodup_append] at hfn
  exact hfn.2.2 i h1 i h2 rfl
 refine⟨?_,?_,?_,?_,?_,?_,?_,?_,?_,?_,List.Perm.of_eq hself.symm⟩
 ·rw [List.map_append,List.nodup_append]
  refine⟨hlaid.ats,?_,?_⟩
  ·unfold leftG
   rw [List.map_map]
   refine jh ?_
   refine (hl.keys.filter _).imp_of_mem ?_
   intro a b ha hb hne e
   obtain⟨ha1,ha2⟩:=List.mem_filter.1 ha
   obtain⟨hb1,hb2⟩:=List.mem_filter.1 hb
   simp only [Bool.and_eq_true] at ha2 hb2
   obtain⟨ra,hra⟩:=Option.isSome_iff_exists.1 (hg a ha1 ha2.1)
   obtain⟨rb,hrb⟩:=Option.isSome_iff_exists.1 (hg b hb1 hb2.1)
   simp only [Function.comp] at e
   rw [fO hra,fO hrb] at e
   have:=hM.inj ra (bC hra).1 rb (bC hrb).1 e
   subst this
   exact hne (by rw [←(bC hra).2,←(bC hrb).2])
  ·intro a ha b hb e
   subst e
   obtain⟨s,hs,rfl⟩:=List.mem_map.1 ha
   obtain⟨t,ht,hte⟩:=List.mem_map.1 hb
   have h4:=(hG t ht).2.2.2
   rw [hte] at h4
   cases hf:(aK M s.ch.key).isSome with
   | true=>
    obtain⟨r,hr⟩:=Option.isSome_iff_exists.1 hf
    rw [hlaid.old s hs hf,fO hr] at h4
    exact WT s.ch r (hS s hs).1 (hS s hs).2 hr (List.mem_of_mem_drop h4)
   | false=>exact hdisj _ (hlaid.new s hs hf) h4
 ·intro s hs
  rcases List.mem_append.1 hs with hs | hs
  ·exact aeZ s hs
  ·exact Z8 _ (List.mem_of_mem_drop (hG s hs).2.2.2)
 ·intro s hs
  rcases List.mem_append.1 hs with hs | hs
  ·exact (hS s hs).1
  ·exact (hG s hs).1
 ·intro c hc hcg
  have:c∈S.map Sp.ch:=by rw [hlaid.chs];exact List.mem_filter.2 ⟨hc,by simp [hcg]⟩
  obtain⟨s,hs,he⟩:=List.mem_map.1 this
  exact⟨s,List.mem_append.2 (.inl hs),he⟩
 ·intro s hs hsg hss
  rcases List.mem_append.1 hs with hs | hs
  ·exact hlaid.old s hs hss
  ·exact (hG s hs).2.2.1
 ·intro s hs hsg hss
  rcases List.mem_append.1 hs with hs | hs
  ·rw [hfr];exact List.mem_of_mem_take (hlaid.new s hs hss)
  ·rw [(hG s hs).2.1] at hsg;cases hsg
 ·intro s hs hsg
  rcases List.mem_append.1 hs with hs | hs
  ·rw [(hS s hs).2] at hsg;cases hsg
  ·exact (hG s hs).2.2.1
 ·intro c hc hcg
  have hin:=hfg c hc hcg
  rw [←hsplit] at hin
  rcases List.mem_append.1 hin with hin | hin
  ·-- a new row took it: the new steps' blocks are just those
   have hnew:∀ i∈fr.take (iw M l),∃ s∈S,s.at_=i:=by
    have h1:((S.filter fun s=>fK M s.ch).map Sp.at_).Nodup:=List.Nodup.sublist (List.filter_sublist.map _) hlaid.ats
    have h2:∀ x∈(S.filter fun s=>fK M s.ch).map Sp.at_,x∈fr.take (iw M l):=fun x hx=>by
     obtain⟨s,hs,rfl⟩:=List.mem_map.1 hx
     obtain⟨hs1,hs2⟩:=List.mem_filter.1 hs
     simp only [fK,Bool.and_eq_true,Bool.not_eq_true'] at hs2
     exact hlaid.new s hs1 hs2.2
    have h3:(S.filter fun s=>fK M s.ch).length=iw M l:=by
     have h4:(S.filter fun s=>fK M s.ch).map Sp.ch=(S.map Sp.ch).filter (fK M):=by rw [List.filter_map];rfl
     have h5:=congrArg List.length h4
     rw [List.length_map,hlaid.chs,List.filter_filter] at h5
     rw [h5]
     unfold iw
     congr 1
     apply List.filter_congr
     intro c _
     unfold fK
     cases c.gone<;>simp
    intro i hi
    by_cases hx:i∈(S.filter fun s=>fK M s.ch).map Sp.at_
    ·obtain⟨s,hs,he⟩:=List.mem_map.1 hx
     exact⟨s,(List.mem_filter.1 hs).1,he⟩
    ·exfalso
     have h6:=kU (i :: (S.filter fun s=>fK M s.ch).map Sp.at_) (fr.take (iw M l)) (List.nodup_cons.2 ⟨hx,h1⟩) (fun y hy=>by
      rcases List.mem_cons.1 hy with rfl | hy
      ·exact hi
      ·exact h2 y hy)
     have h7:=List.length_take_le (iw M l) fr
     simp only [List.length_cons,List.length_map] at h6
     omega
   obtain⟨s,hs,he⟩:=hnew _ hin
   exact⟨s,List.mem_append.2 (.inl hs),he⟩
  ·exact⟨⟨atL M c.key,c⟩,List.mem_append.2 (.inr (List.mem_map.2 ⟨c,List.mem_filter.2 ⟨hc,by simp [hcg,hin]⟩,rfl⟩)),rfl⟩
 ·rw [List.filter_append]
  have h1:(S.filter fun s=>!s.ch.gone)=S:=by
   rw [List.filter_eq_self]
   intro s hs
   simp [(hS s hs).2]
  have h2:((leftG M (fr.drop (iw M l)) l).filter fun s=>!s.ch.gone) = []:=by
   rw [List.filter_eq_nil_iff]
   intro s hs
   simp [(hG s hs).2.1]
  rw [h1,h2,List.append_nil]
  have h3:(S.map Sp.ch).Pairwise fun a b=>a.key≠b.key:=by rw [hlaid.chs];exact hl.keys.filter _
  exact (List.pairwise_map (R:=fun a b:Ch=>a.key≠b.key)).1 h3
 ·have h1:S.length=(l.filter fun c=>!c.gone).length:=by rw [←hlaid.chs,List.length_map]
  have h2:(leftG M (fr.drop (iw M l)) l).length≤(l.filter Ch.gone).length:=by
   unfold leftG
   rw [List.length_map]
   have:(l.filter fun c=>c.gone && (fr.drop (iw M l)).contains (atL M c.key))=(l.filter Ch.gone).filter fun c=>(fr.drop (iw M l)).contains (atL M c.key):=by
    rw [List.filter_filter]
    apply List.filter_congr
    intro c _
    exact Bool.and_comm _ _
   rw [this]
   exact List.length_filter_le _ _
  have h3:=kC Ch.gone l
  rw [List.length_append]
  omega
theorem WC(l:List Ch):∀ (M:List Rw) (r:Rw),r∈l.foldl qK M↔r∈M∧∀ c∈l,c.gone=true→c.key≠r.key:=by
 induction l with
 | nil=>intro M r;simp
 | cons c t ih=>
  intro M r
  rw [List.foldl_cons,ih]
  unfold qK
  split
  ·rename_i hg
   rw [zT]
   constructor
   ·rintro⟨⟨h1,h2⟩,h3⟩
    refine⟨h1,fun x hx hxg=> ?_⟩
    rcases List.mem_cons.1 hx with rfl | hx
    ·exact Ne.symm h2
    ·exact h3 x hx hxg
   ·rintro⟨h1,h3⟩
    exact⟨⟨h1,Ne.symm (h3 c (by simp) hg)⟩,fun x hx=>h3 x (by simp [hx])⟩
  ·rename_i hg
   constructor
   ·rintro⟨h1,h3⟩
    refine⟨h1,fun x hx hxg=> ?_⟩
    rcases List.mem_cons.1 hx with rfl | hx
    ·exact absurd hxg hg
    ·exact h3 x hx hxg
   ·rintro⟨h1,h3⟩
    exact⟨h1,fun x hx=>h3 x (by simp [hx])⟩
theorem KQ(l:List Ch):∀ M:List Rw,Sorted M→Sorted (l.foldl qK M):=by
 induction l with
 | nil=>exact fun _ h=>h
 | cons c t ih=>
  intro M h
  refine ih _ ?_
  unfold qK
  split
  ·exact uK h _
  ·exact h
theorem KP(ss:List Sp):∀ M:List Rw,Sorted M→Sorted (ss.foldl qW M):=by
 induction ss with
 | nil=>exact fun _ h=>h
 | cons c t ih=>
  intro M h
  refine ih _ ?_
  unfold qW
  split
  ·exact h
  ·exact Ar h _
def abO(s:Sp):Rw:=⟨s.ch.key,s.ch.val,s.at_⟩
theorem WB(ss:List Sp):∀ (M:List Rw) (r:Rw),(ss.filter fun s=>!s.ch.gone).Pairwise (fun a b=>a.ch.key≠b.ch.key) →
  (r∈ss.foldl qW M↔(∃ s∈ss,s.ch.gone=false∧r=abO s)∨(r∈M∧∀ s∈ss,s.ch.gone=false→s.ch.key≠r.key)):=by
 induction ss with
 | nil=>intro M r _;simp
 | cons s t ih=>
  intro M r hp
  rw [List.foldl_cons]
  cases hg:s.ch.gone with
  | true=>
   have hp':(t.filter fun s=>!s.ch.gone).Pairwise (fun a b=>a.ch.key≠b.ch.key):=by
    rw [List.filter_cons_of_neg (by simp [hg])] at hp
    exact hp
   have e:qW M s=M:=by unfold qW;rw [if_pos hg]
   rw [e,ih M r hp']
   constructor
   ·rintro (⟨x,h1,h2⟩ | ⟨h1,h2⟩)
    ·exact .inl ⟨x,by simp [h1],h2⟩
    ·refine .inr ⟨h1,fun x hx hxg=> ?_⟩
     rcases List.mem_cons.1 hx with rfl | hx
     ·rw [hg] at hxg;cases hxg
     ·exact h2 x hx hxg
   ·rintro (⟨x,h1,h2⟩ | ⟨h1,h2⟩)
    ·rcases List.mem_cons.1 h1 with rfl | h1
     ·rw [hg] at h2;cases h2.1
     ·exact .inl ⟨x,h1,h2⟩
    ·exact .inr ⟨h1,fun x hx=>h2 x (by simp [hx])⟩
  | false=>
   rw [List.filter_cons_of_pos (by simp [hg])] at hp
   obtain⟨hp1,hp'⟩:=List.pairwise_cons.1 hp
   have e:qW M s=wG M (abO s):=by unfold qW;rw [if_neg (by rw [hg];decide)];rfl
   rw [e,ih _ r hp']
   constructor
   ·rintro (⟨x,h1,h2⟩ | ⟨h1,h2⟩)
    ·exact .inl ⟨x,by simp [h1],h2⟩
    ·rcases zS.1 h1 with rfl | ⟨h3,h4⟩
     ·exact .inl ⟨s,by simp,hg,rfl⟩
     ·refine .inr ⟨h3,fun x hx hxg=> ?_⟩
      rcases List.mem_cons.1 hx with rfl | hx
      ·exact Ne.symm h4
      ·exact h2 x hx hxg
   ·rintro (⟨x,h1,h2,rfl⟩ | ⟨h1,h2⟩)
    ·rcases List.mem_cons.1 h1 with rfl | h1
     ·refine .inr ⟨zS.2 (.inl rfl),fun y hy hyg=> ?_⟩
      exact Ne.symm (hp1 y (List.mem_filter.2 ⟨hy,by simp [hyg]⟩))
     ·exact .inl ⟨x,h1,h2,rfl⟩
    ·exact .inr ⟨zS.2 (.inr ⟨h1,Ne.symm (h2 s (by simp) hg)⟩),fun x hx=>h2 x (by simp [hx])⟩
section
variable {N:Nat}{M:List Rw}{l:List Ch}{ss:List Sp}
theorem gU(hd:Does N M l ss){r:Rw}:r∈jH M l ss↔(∃ s∈ss,s.ch.gone=false∧r=abO s)∨(r∈M∧∀ c∈l,c.key≠r.key):=by
 unfold jH
 rw [WB ss _ r hd.keys,WC]
 constructor
 ·rintro (h | ⟨⟨h1,h2⟩,h3⟩)
  ·exact .inl h
  ·refine .inr ⟨h1,fun c hc=> ?_⟩
   cases hg:c.gone with
   | true=>exact h2 c hc hg
   | false=>
    obtain⟨s,hs,rfl⟩:=hd.lays c hc hg
    exact h3 s hs hg
 ·rintro (h | ⟨h1,h2⟩)
  ·exact .inl h
  ·exact .inr ⟨⟨h1,fun c hc _=>h2 c hc⟩,fun s hs _=>h2 s.ch (hd.yF s hs)⟩
theorem jY(hM:Sorted M):Sorted (jH M l ss):=KP ss _ (KQ l M hM)
theorem EK(hM:Good N M)(hl:Fits l)(hg:∀ x∈l,x.gone=true→(aK M x.key).isSome=true)(hd:Does N M l ss):Good N (jH M l ss):=by
 have hat:∀ s∈ss,∀ t∈ss,s.at_=t.at_→s=t:=fun s hs t ht e=>by
  have hn:=hd.ats
  obtain⟨i,hi,rfl⟩:=List.getElem_of_mem hs
  obtain⟨j,hj,rfl⟩:=List.getElem_of_mem ht
  have:=(List.nodup_iff_pairwise_ne.1 hn)
  rcases Nat.lt_trichotomy i j with hij | hij | hij
  ·have:=(List.pairwise_iff_getElem.1 this) i j (by simpa using hi) (by simpa using hj) hij
   simp only [List.getElem_map] at this
   exact absurd e this
  ·subst hij;rfl
  ·have:=(List.pairwise_iff_getElem.1 this) j i (by simpa using hj) (by simpa using hi) hij
   simp only [List.getElem_map] at this
   exact absurd e.symm this
 have hkeep:∀ r∈M,(∀ c∈l,c.key≠r.key)→∀ s∈ss,s.at_≠r.at_:=fun r hr hc s hs e=>by
  cases hsg:s.ch.gone with
  | true=>
   obtain⟨r',hr'⟩:=Option.isSome_iff_exists.1 (hg _ (hd.yF s hs) hsg)
   rw [hd.gon s hs hsg,fO hr'] at e
   have:=hM.inj r' (bC hr').1 r hr e
   subst this
   exact hc _ (hd.yF s hs) (bC hr').2.symm
  | false=>
   cases hf:(aK M s.ch.key).isSome with
   | true=>
    obtain⟨r',hr'⟩:=Option.isSome_iff_exists.1 hf
    rw [hd.old s hs hsg hf,fO hr'] at e
    have:=hM.inj r' (bC hr').1 r hr e
    subst this
    exact hc _ (hd.yF s hs) (bC hr').2.symm
   | false=>
    have:=hd.new s hs hsg hf
    rw [e] at this
    exact jU hM hr (fun c hcl _=>hc c hcl) hg this
 refine⟨jY hM.sorted,fun r hr=> ?_,fun r hr=> ?_,fun r hr r' hr' e=> ?_⟩
 ·rcases (gU hd).1 hr with⟨s,hs,_,rfl⟩ | ⟨h1,_⟩
  ·exact hd.jE s hs
  ·exact hM.jE r h1
 ·rcases (gU hd).1 hr with⟨s,hs,_,rfl⟩ | ⟨h1,_⟩
  ·exact hl.small _ (hd.yF s hs)
  ·exact hM.small r h1
 ·rcases (gU hd).1 hr with⟨s,hs,_,rfl⟩ | ⟨h1,h2⟩
  ·rcases (gU hd).1 hr' with⟨t,ht,_,rfl⟩ | ⟨h3,h4⟩
   ·rw [hat s hs t ht e]
   ·exact absurd e (hkeep r' h3 h4 s hs)
  ·rcases (gU hd).1 hr' with⟨t,ht,_,rfl⟩ | ⟨h3,h4⟩
   ·exact absurd e.symm (hkeep r h1 h2 t ht)
   ·exact hM.inj r h1 r' h3 e
theorem EU(hM:Sorted M)(hd:Does N M l ss)(k:List UInt8):(∀ c∈l,c.key≠k)→aK (jH M l ss) k=aK M k:=by
 intro hk
 cases hf:aK M k with
 | some r=>
  obtain⟨h1,h2⟩:=bC hf
  exact (wW (jY hM)).2 ⟨(gU hd).2 (.inr ⟨h1,fun c hc=>by rw [h2];exact hk c hc⟩),h2⟩
 | none=>
  rw [dJ]
  intro r hr e
  rcases (gU hd).1 hr with⟨s,hs,_,rfl⟩ | ⟨h1,_⟩
  ·exact hk _ (hd.yF s hs) e
  ·exact dJ.1 hf r h1 e
theorem Uw(hl:Fits l)(hd:Does N M l ss){c:Ch}(hc:c∈l)(hg:c.gone=true):aK (jH M l ss) c.key=none:=by
 rw [dJ]
 intro r hr e
 rcases (gU hd).1 hr with⟨s,hs,hsg,rfl⟩ | ⟨_,h2⟩
 ·have:=hl.inj (hd.yF s hs) hc e
  rw [this,hg] at hsg
  cases hsg
 ·exact h2 c hc e.symm
theorem XC(hM:Sorted M)(hd:Does N M l ss){c:Ch}(hc:c∈l)(hg:c.gone=false):∃ a,aK (jH M l ss) c.key=some ⟨c.key,c.val,a⟩:=by
 obtain⟨s,hs,rfl⟩:=hd.lays c hc hg
 exact⟨s.at_,(wW (jY hM)).2 ⟨(gU hd).2 (.inl ⟨s,hs,hg,rfl⟩),rfl⟩⟩
end
theorem JZ{c:Ch}(h1:c.key.length≤16)(h2:c.val.length≤200):(G6 c).length≤248:=by
 unfold G6
 split
 ·simp
 ·rw [AO]
  have:=nT c.key.length
  have:=nT c.val.length
  omega
theorem ni{N:Nat}{M:List Rw}{l:List Ch}{ss:List Sp}(hl:Fits l)(hd:Does N M l ss)(h0:l≠[]):dn (ss.map tN) (N:Int):=by
 have hne:ss≠[]:=by
  intro h
  obtain⟨c,r,rfl⟩:=List.exists_cons_of_ne_nil h0
  cases hg:c.gone with
  | true=>obtain⟨s,hs,_⟩:=hd.freed c (by simp) hg;rw [h] at hs;cases hs
  | false=>obtain⟨s,hs,_⟩:=hd.lays c (by simp) hg;rw [h] at hs;cases hs
 refine⟨by rw [List.length_map];exact List.length_pos_iff.2 hne,by rw [List.length_map];have:=hd.few;have:=hl.few;omega,fun i hi x hx=> ?_⟩
 have hi':i<ss.length:=by simpa using hi
 rw [List.getElem?_map,List.getElem?_eq_getElem hi'] at hx
 injection hx with hx
 subst hx
 have hm:=List.getElem_mem hi'
 have hs:=hl.small _ (hd.yF _ hm)
 refine⟨?_,?_,JZ hs.2.1 hs.2.2,fun k y hk hy=> ?_⟩
 ·show (0:Int)≤(ss[i].at_:Int)
  omega
 ·show (ss[i].at_:Int)<(N:Int)
  have:=hd.jE _ hm
  omega
 ·rw [List.getElem?_map,List.getElem?_eq_getElem (by omega)] at hy
  injection hy with hy
  subst hy
  have:=(List.pairwise_iff_getElem.1 (List.nodup_iff_pairwise_ne.1 hd.ats)) k i (by simp;omega) (by simpa using hi') hk
  simp only [List.getElem_map] at this
  intro e
  have e':(ss[k].at_:Int)=(ss[i].at_:Int):=e
  exact this (by omega)
end Go.Proofs.YtmelaiefbpdifaaGreatDoor
/- Commit. -/
namespace Go.Proofs.YtmelaiefbpdifaaGreatDoor
open Go.RowKit Go.Maps
def Vb(M:List Rw)(s:St)(n:Nat)(f:Bool)(M':List Rw)(s':St)(n':Nat)(f':Bool):Prop:=M'=M∧s'=s∧n'=n∧f'=f
def dN(N:Nat)(M:List Rw)(s:St)(n:Nat)(f:Bool)(l:List Ch)(x:Int)(M':List Rw)(s':St)(n':Nat)(f':Bool):Prop:=
 (¬zF l∧x=1∧Vb M s n f M' s' n' f') ∨
 (zF l∧(N:Int)-(M.length:Int)<bf M (aC M l)∧x=6∧Vb M s n f M' s' n' f') ∨
 (zF l∧bf M (aC M l)≤(N:Int)-(M.length:Int)∧aC M l = []∧x=0∧Vb M s n f M' s' n' f') ∨
 (zF l∧bf M (aC M l)≤(N:Int)-(M.length:Int)∧aC M l≠[]∧∃ ss,Does N M (aC M l) ss∧ss.Pairwise (fun a b=>ltS b a=false)∧bV s n f (ss.map tN) x s' n' f'∧M'=if x=0 then jH M (aC M l) ss else M)
def mP(w w1 w':World)(F:List Nat)(rp mb lp p:Nat)(N:Nat)(M:List Rw)(s:St)(n:Nat)(f:Bool)(l:List Ch)(e:Ending):Prop:=
 ∃ x M' s' n' f' F',e = .returned (.int .i64 x)∧dN N M s n f l x M' s' n' f'∧Own5 w w' F' rp mb lp p s' n' f' M'∧Only (mb :: lp :: F) w1 w'∧∀ j∈F',j∈F∨w1.heap.size≤j
section
variable {w w1 w2:World}{F:List Nat}{rp mb lp p n N:Nat}{s:St}{f:Bool}{M:List Rw}{l:List Ch}
theorem Own5.keep(h:Own5 w w1 F rp mb lp p s n f M)(k:Only [] w1 w2):Own5 w w2 F rp mb lp p s n f M:=
 ⟨h.own.keep k,h.rows.kept k (by simp) (by simp),h.ne1,h.ne2,h.ne3,h.out1,h.Ye,h.Vh,h.SI⟩
theorem mF(h:Own5 w w1 F rp mb lp p s n f M)(k:Only [] w1 w2){x:Int}(hc:dN N M s n f l x M s n f):mP w w1 w2 F rp mb lp p N M s n f l (.returned (.int .i64 x)):=
 ⟨x,M,s,n,f,F,rfl,hc,h.keep k,k.more (by simp),fun j hj=>.inl hj⟩
end
set_option maxRecDepth 100000 in
set_option maxHeartbeats 4000000 in
theorem Own5.commit{w w1:World}{F:List Nat}{rp mb lp p n N:Nat}{s:St}{f:Bool}{M:List Rw}(h:Own5 w w1 F rp mb lp p s n f M)(A:Option Addr)(c:Nat)(l:List Ch)(hN:s.aA.length=41+N)(hM:Good N M)(hn:n<4294967296)
  (hb:Els chE 3 w1 A l) (hok:wJ l) (hl:l.length≤9223372036854775807) (hc:l.length≤c) (bY:s.late.length+200≤1048576):
  Calls Tryz.prog 13 #[.pointer (some ⟨rp,0,none⟩),.slice A l.length c] w1 fun e w'=>mP w w1 w' F rp mb lp p N M s n f l e:=by
 have h0:=Lib.hid h
 have hfit:=XA w1 A c l hb hok hl hc
 replace hfit:=Lib.hid hfit
 have hN1:N≤1024:=by have:=h.own.dev.fine.few;omega
 have hMl:=hM.length
 by_cases hF:zF l
 ·have hfits:=nZ hF
  have h40:=hfits.few
  have hnw:=fun W (k:Only [] w1 W)=>Wy W rp mb lp M A c l (h.rows.kept k (by simp) (by simp)) (hb.kept k (by simp)) hfits.oD h40
  have hfree:=fun W (k:Only [] w1 W)=>GI W rp mb lp p n f F s M (h.rows.kept k (by simp) (by simp)) (Blk.kept h.own.log k (by simp)) (h.own.dev.kept k (by simp)) (by omega)
  rw [show (s.aA.length:Int)-41-(M.length:Int)=(N:Int)-(M.length:Int) by omega] at hfree
  have hnf:=hfits.news (M:=M)
  have hng:=ru (M:=M) (l:=l)
  have hgr:=fun W (k:Only [] w1 W) B cB (hB:Els chE 3 W B (aC M l))=>Qc W rp mb lp M B cB (aC M l) (h.rows.kept k (by simp) (by simp)) hB hnf.oD hnf.few
  have hgb:=yw M (aC M l)
  have Zf:=hnf.few
  by_cases hgrow:bf M (aC M l)≤(N:Int)-(M.length:Int)
  ·by_cases h00:aC M l = []
   ·have hfin:∀ W,Only [] w1 W→mP w w1 W F rp mb lp p N M s n f l (.returned (.int .i64 0)):=fun W k=>mF h k (.inr (.inr (.inl ⟨hF,hgrow,h00,rfl,rfl,rfl,rfl,rfl⟩)))
    have hlen0:((aC M l).length:Int)=0:=by rw [h00];rfl
    have hG2:bf M (aC M l)≤40 ∧ -40≤bf M (aC M l):=by omega
    replace hnw:=Lib.hid hnw
    replace hfree:=Lib.hid hfree
    replace hgr:=Lib.hid hgr
    replace hfin:=Lib.hid hfin
    replace h00:=Lib.hid h00
    have hX : -1024≤(N:Int)-(M.length:Int)∧(N:Int)-(M.length:Int)≤1024:=by omega
    clear hnf hng hgb Zf h hM hb hMl
    generalize aC M l=nl at *
    generalize bf M nl=G at *
    generalize (N:Int)-(M.length:Int)=X at *
    go_enter Tryz.func13,Tryz.ntmps13
    go_wp2_with fail
    refine hfit.out.mono ?_
    rintro e w2 ⟨⟨r,rfl,hr⟩,k2⟩
    obtain rfl:r=true:=hr.2 hF
    clear hr
    go_wp2_with fail
    refine (hnw.out _ k2).mono ?_
    rintro e w3 ⟨v,rfl,A3,c3,rfl,hc3,he3,k3,hn3⟩
    replace hn3:=Lib.hid hn3
    have k13:=k2.trans k3
    go_wp2_with fail
    refine (hgr.out _ k13 A3 c3 he3).mono ?_
    rintro e w4 ⟨rfl,k4⟩
    have k14:=k13.trans k4
    go_wp2_with fail
    refine (hfree.out _ k14).mono ?_
    rintro e w5 ⟨rfl,k5⟩
    have dw:=hfin.out _ (k14.trans k5)
    clear he3 k2 k3 k4 k5 k13 k14
    go_wp2
    go_ret
    exact dw
   ·have hroom:=room hM hnf hng hgrow
    have Zp:=G5 hM hnf hng hroom
    have hright:=fun ss (hd:Does N M (aC M l) ss)=>ni hnf hd h00
    have hrg:(s.aA.length:Int)-41=(N:Int):=by omega
    have hst:=fun W (k:Only [] w1 W) B cB (hB:Els chE 3 W B (aC M l))=>Ri W rp mb lp p n f F s N M B cB (aC M l) (h.rows.kept k (by simp) (by simp)) (Blk.kept h.own.log k (by simp)) (h.own.dev.kept k (by simp)) hN hM.sorted hM.jE hB hnf.oD hnf.few hng hroom
    have hfin:∀ x M' s' n' f' F' W ss,Does N M (aC M l) ss→ss.Pairwise (fun a b=>ltS b a=false)→bV s n f (ss.map tN) x s' n' f'→M'=(if x=0 then jH M (aC M l) ss else M)→Own5 w W F' rp mb lp p s' n' f' M'→Only (mb :: lp :: F) w1 W→(∀ j∈F',j∈F∨w1.heap.size≤j)→mP w w1 W F rp mb lp p N M s n f l (.returned (.int .i64 x)):=
     fun x M' s' n' f' F' W ss h1 h2 h3 h4 h5 h6 h7=>⟨x,M',s',n',f',F',rfl,.inr (.inr (.inr ⟨hF,hgrow,h00,ss,h1,h2,h3,h4⟩)),h5,h6,h7⟩
    have hlen0:((aC M l).length:Int)≠0:=by have:=List.length_pos_iff.2 h00;omega
    have hlen1:(((aC M l).length:Int)==0)=false:=by simpa using hlen0
    have hG2:bf M (aC M l)≤40 ∧ -40≤bf M (aC M l):=by omega
    have hsm:=hnf.small
    have hfew:=hnf.few
    have aef:=hnf.oD
    replace hnw:=Lib.hid hnw
    replace hfree:=Lib.hid hfree
    replace hgr:=Lib.hid hgr
    replace hfin:=Lib.hid hfin
    replace hst:=Lib.hid hst
    replace Zp:=Lib.hid Zp
    replace hright:=Lib.hid hright
    replace h00:=Lib.hid h00
    replace hrg:=Lib.hid hrg
    replace hsm:=Lib.hid hsm
    replace hlen0:=Lib.hid hlen0
    have hX : -1024≤(N:Int)-(M.length:Int)∧(N:Int)-(M.length:Int)≤1024:=by omega
    clear hnf hng hgb Zf h hM hb hroom
    generalize aC M l=nl at *
    generalize bf M nl=G at *
    generalize (N:Int)-(M.length:Int)=X at *
    go_enter Tryz.func13,Tryz.ntmps13
    go_wp2_with fail
    refine hfit.out.mono ?_
    rintro e w2 ⟨⟨r,rfl,hr⟩,k2⟩
    obtain rfl:r=true:=hr.2 hF
    clear hr
    go_wp2_with fail
    refine (hnw.out _ k2).mono ?_
    rintro e w3 ⟨v,rfl,A3,c3,rfl,hc3,he3,k3,hn3⟩
    have hb3:∀ a,A3=some a→w1.heap.size≤a.block:=fun a ha=>Nat.le_trans k2.size (hn3 a ha)
    replace hn3:=Lib.hid hn3
    replace hb3:=Lib.hid hb3
    have k13:=k2.trans k3
    go_wp2_with fail
    refine (hgr.out _ k13 A3 c3 he3).mono ?_
    rintro e w4 ⟨rfl,k4⟩
    have k14:=k13.trans k4
    go_wp2_with fail
    refine (hfree.out _ k14).mono ?_
    rintro e w5 ⟨rfl,k5⟩
    have k15:=k14.trans k5
    have he5:=(he3.kept k4 (by simp)).kept k5 (by simp)
    clear he3 k2 k3 k4 k5 k13 k14
    go_wp2_with fail
    refine (hst.out _ k15 A3 c3 he5).mono ?_
    rintro e w6 ⟨v,ss,rfl,hperm,Xd,A6,c6,rfl,hc6,he6,k6,hn6⟩
    have hd:=Zp.out.perm hperm
    have k16:=k15.trans k6
    have hb6:∀ a,A6=some a→w1.heap.size≤a.block:=fun a ha=>Nat.le_trans k15.size (hn6 a ha)
    have acI:=he5.kept k6 (by simp)
    have ade:Ru ss:=fun s hs=>(hsm.out _ (hd.yF s hs)).2
    have ae7:ss.length≤40:=by have:=hd.few;omega
    have hbl:=fun W (k:Only [] w6 W)=>Nc W A6 c6 ss (he6.kept k (by simp)) ade (by omega)
    have hown6:=h0.out.own.keep k16
    have NY:=h0.out.rows.kept k16 (by simp) (by simp)
    have hrt:=hright.out ss hd
    have NZ:(ss.map tN).length=ss.length:=List.length_map _
    have Gz:=fun W (k:Only [] w6 W) B cB (hB:Fq W B (ss.map tN)) (hcB:(ss.map tN).length≤cB)=>(hown6.keep k).commit B cB (ss.map tN) hn hB (by simp;omega) hcB bY
    rw [NZ] at Gz
    have acJ:∀ x∈ss.map tN,x.okay:=fun x hx=>by
     have ael:dn (ss.map tN) ((s.aA.length:Int)-41):=by rw [hrg.out];exact hrt
     have:=lQ ael x hx
     exact⟨⟨by omega,by omega⟩,by omega⟩
    obtain⟨d0,_⟩:=NY.cells
    have kd:Only [] w6 w6.drew:=(Only.refl [] w6).drew
    have d0d:=kd.cell d0 (by simp)
    replace hbl:=Lib.hid hbl
    replace Gz:=Lib.hid Gz
    replace hd:=Lib.hid hd
    replace Xd:=Lib.hid Xd
    replace hn6:=Lib.hid hn6
    replace hb6:=Lib.hid hb6
    replace hrt:=Lib.hid hrt
    replace acJ:=Lib.hid acJ
    replace hown6:=Lib.hid hown6
    replace NY:=Lib.hid NY
    replace NZ:=Lib.hid NZ
    clear hperm d0
    go_wp2_with fail
    refine wp_region_held_drew (S:=fun w'=>w'.cell? ⟨rp,0,none⟩=some (.pointer (some ⟨lp,0,none⟩))) (by kernel_rfl) d0d (fun hHeld=> ?_)
    refine rwT 0 (.pointer (some ⟨rp,0,none⟩)) hHeld ?_;simp only [rwA]
    refine rwT 1 (.pointer (some ⟨rp,0,none⟩)) hHeld ?_;simp only [rwA]
    refine rwT 2 (.pointer (some ⟨rp,0,none⟩)) hHeld ?_;simp only [rwA]
    refine rwT 3 (.pointer (some ⟨lp,0,none⟩)) hHeld ?_;simp only [rwA]
    refine rwT 4 (.slice A6 ss.length c6) hHeld ?_;simp only [rwA]
    refine ah 5 rfl (by kernel_rfl) (fun K hK=> ?_)
    go_simp
    go_at_call 42
    refine (hbl.out _ kd).mono ?_
    rintro e w7 ⟨v,rfl,A7,c7,rfl,hc7,he7,k7,hn7⟩
    have k67:=kd.trans k7
    have d07:=k7.cell d0d (by simp)
    go_wp2_with fail
    refine hK.out _ _ d07 (fun hHeld=> ?_)
    clear hK K
    refine ah 6 rfl (by kernel_rfl) (fun K hK=> ?_)
    go_simp
    go_at_call 41
    refine (Gz.out _ k67 A7 c7 (Nh he7 acJ.out) (NZ.out ▸ hc7)).mono ?_
    rintro e w8 ⟨x,s',n',f',F',rfl,hct,h8,k8,hF8⟩
    have adl:rp∉lp :: F:=by simp only [List.mem_cons,not_or];exact⟨h0.out.ne2,h0.out.out1⟩
    have aby:mb∉lp :: F:=by simp only [List.mem_cons,not_or];exact⟨h0.out.ne3,h0.out.Ye⟩
    have d08:=k8.cell d07 adl
    go_wp2_with fail
    refine hK.out _ _ d08 (fun hHeld=> ?_)
    clear hK K
    refine rwT 7 (.int .i64 x) hHeld ?_;simp only [rwA]
    refine wpAnyH_done (by kernel_rfl) ?_ _
    clear hHeld
    have aem:=h0.out.rows.hdr.lt
    have aey:=h0.out.rows.map.lt
    have hnew1:=h0.out.own.new
    have aft:=h0.out.own.lt
    have k17:=k16.trans k67
    have ab5:=k17.size
    have hoff:∀ (a:Addr),w1.heap.size≤a.block→a.block∉lp :: F:=fun a ha hm=>by
     rcases List.mem_cons.1 hm with h | h
     ·omega
     ·have:=(hnew1 _ h).2;omega
    have Z9:∀ j∈F',j∈F∨w1.heap.size≤j:=fun j hj=>(hF8 j hj).imp id (fun h=>Nat.le_trans ab5 h)
    have adn:rp∉F':=away Z9 h0.out.out1 aem
    have aci:mb∉F':=away Z9 h0.out.Ye aey
    have NW:=(NY.out.kept k67 (by simp) (by simp)).kept k8 adl aby
    have k18:Only (mb :: lp :: F) w1 w8:=(k17.more (T:=mb :: lp :: F) (by simp)).then k8 (fun i hi=>.inl (List.mem_cons_of_mem _ hi))
    have TY:Own5 w w8 F' rp mb lp p s' n' f' M:=⟨h8,NW,h0.out.ne1,h0.out.ne2,h0.out.ne3,adn,aci,h0.out.Vh,h0.out.SI⟩
    by_cases hx:x=0
    ·subst hx
     have heA:=(acI.kept k67 (by simp)).kept k8 (fun a ha=>hoff a (hb3.out a ha))
     have heB:=(he6.kept k67 (by simp)).kept k8 (fun a ha=>hoff a (hb6.out a ha))
     have happ:=U8 w8 rp mb lp M A3 A6 c3 c6 nl ss NW h0.out.ne1 heA (fun a ha e=>by have:=hb3.out a ha;omega) aef hfew heB (fun a ha e=>by have:=hb6.out a ha;omega) ade (by omega) (by omega)
     have hdone:∀ W,gy W rp mb lp (jH M nl ss)→Only [mb] w8 W→mP w w1 W F rp mb lp p N M s n f l (.returned (.int .i64 0)):=fun W hr hk=>by
      have hw:Only [] w W:=h8.only.then hk (by simpa using h0.out.SI)
      refine hfin.out 0 _ s' n' f' F' W ss hd.out Xd.out hct (by rw [if_pos rfl]) ⟨h8.beside hk hw (fun i hi=> ?_),hr,h0.out.ne1,h0.out.ne2,h0.out.ne3,adn,aci,h0.out.Vh,h0.out.SI⟩ (k18.then hk (by simp)) Z9
      simp only [List.mem_singleton] at hi
      subst hi
      simp only [List.mem_cons,not_or]
      exact⟨h0.out.ne3,aci⟩
     replace happ:=Lib.hid happ
     replace hdone:=Lib.hid hdone
     clear heA heB TY NW k18 Z9 h8 k8 hF8 hct d08 d07 d0d k7 k67 kd he7 he6 acI he5
     go_wp2_with fail
     refine happ.out.mono ?_
     rintro e w9 ⟨rfl,hr9,k9⟩
     have dw:=hdone.out w9 hr9 k9
     clear hr9 k9
     go_wp2
     go_ret
     exact dw
    ·have hx':(x != 0)=true:=by simpa using hx
     have dw:=hfin.out x M s' n' f' F' w8 ss hd.out Xd.out hct (by rw [if_neg hx]) TY k18 Z9
     clear TY NW k18 Z9 h8 k8 hF8 hct d08 d07 d0d k7 k67 kd he7 he6 acI he5
     go_wp2
     go_ret
     exact dw
  ·have hgrow':(N:Int)-(M.length:Int)<bf M (aC M l):=by omega
   have hfin:∀ W,Only [] w1 W→mP w w1 W F rp mb lp p N M s n f l (.returned (.int .i64 6)):=fun W k=>mF h k (.inr (.inl ⟨hF,hgrow',rfl,rfl,rfl,rfl,rfl⟩))
   have hG2:bf M (aC M l)≤40 ∧ -40≤bf M (aC M l):=by omega
   replace hnw:=Lib.hid hnw
   replace hfree:=Lib.hid hfree
   replace hgr:=Lib.hid hgr
   replace hfin:=Lib.hid hfin
   have hX : -1024≤(N:Int)-(M.length:Int)∧(N:Int)-(M.length:Int)≤1024:=by omega
   clear hnf hng hgb Zf h hM hb hMl hgrow
   generalize aC M l=nl at *
   generalize bf M nl=G at *
   generalize (N:Int)-(M.length:Int)=X at *
   go_enter Tryz.func13,Tryz.ntmps13
   go_wp2_with fail
   refine hfit.out.mono ?_
   rintro e w2 ⟨⟨r,rfl,hr⟩,k2⟩
   obtain rfl:r=true:=hr.2 hF
   clear hr
   go_wp2_with fail
   refine (hnw.out _ k2).mono ?_
   rintro e w3 ⟨v,rfl,A3,c3,rfl,hc3,he3,k3,hn3⟩
   replace hn3:=Lib.hid hn3
   have k13:=k2.trans k3
   go_wp2_with fail
   refine (hgr.out _ k13 A3 c3 he3).mono ?_
   rintro e w4 ⟨rfl,k4⟩
   have k14:=k13.trans k4
   go_wp2_with fail
   refine (hfree.out _ k14).mono ?_
   rintro e w5 ⟨rfl,k5⟩
   have dw:=hfin.out _ (k14.trans k5)
   clear he3 k2 k3 k4 k5 k13 k14
   go_wp2
   go_ret
   exact dw
 ·have hfin:∀ W,Only [] w1 W→mP w w1 W F rp mb lp p N M s n f l (.returned (.int .i64 1)):=fun W k=>mF h k (.inl ⟨hF,rfl,rfl,rfl,rfl,rfl⟩)
  replace hfin:=Lib.hid hfin
  clear h hM hb
  go_enter Tryz.func13,Tryz.ntmps13
  go_wp2_with fail
  refine hfit.out.mono ?_
  rintro e w2 ⟨⟨r,rfl,hr⟩,k2⟩
  have hrf:r=false:=by
   cases r
   ·rfl
   ·exact absurd (hr.1 rfl) hF
  subst hrf
  have dw:=hfin.out _ k2
  clear hr k2
  go_wp2
  go_ret
  exact dw
end Go.Proofs.YtmelaiefbpdifaaGreatDoor
/- A new device's rows; what a commit on a living device makes of the rows. -/
namespace Go.Proofs.YtmelaiefbpdifaaGreatDoor
open Go.RowKit Go.Maps
theorem wP:∀ (L:List (List UInt8)) (M:List Rw) (i:Nat),(∀ d∈L,bM d=true)→dR M L i=some M
 | [],_,_,_=>rfl
 | d :: r,M,i,h=>by
  have hd:mQ M d i=some M:=by rw [mQ,if_pos (h d (by simp))]
  rw [dR,hd]
  exact wP r M (i+1) fun x hx=>h x (by simp [hx])
theorem uZ(N:Nat):eY (dP (fresh N))=some []:=wP _ _ _ fun d hd=>by
 simp only [dP,List.mem_map,List.mem_range,jk] at hd
 obtain⟨j,hj,rfl⟩:=hd
 rw [BZ N (41+j) (by omega)]
 decide +kernel
section
variable {w w1:World}{F:List Nat}{p N:Nat}{s:St}
theorem xH.aa1(h:xH w w1 F p (fresh N))(hN:42≤N):
  Calls Tryz.prog 12 #[.pointer (some ⟨p,0,none⟩)] w1 fun e w'=>∃ rp mb lp F',e = .returned (.tuple #[.pointer (some ⟨rp,0,none⟩),.int .i64 0])∧Own5 w w' F' rp mb lp p (fresh N) 0 false []∧Only F w1 w'∧(∀ j∈F',j∈F∨w1.heap.size≤j)∧w1.heap.size≤rp∧w1.heap.size≤mb∧w1.heap.size≤lp:=by
 obtain⟨e1,e2,e3⟩:=Em N hN
 refine (h.Yf (by show 0+40≤1048576;decide)).mono ?_
 rintro e w' ⟨F',k1,k2,hc⟩
 rcases hc with⟨x,hf,_⟩ | ⟨rp,mb,lp,M,_,hp,rfl,h5,q1,q2,q3⟩
 ·exfalso
  rcases hf with⟨h1,_⟩ | ⟨_,h1,_⟩
  ·exact h1 e1
  ·rw [e2,uZ] at h1;cases h1
 ·rw [e2,uZ] at hp
  cases hp
  rw [e2,e3] at h5
  exact⟨rp,mb,lp,F',rfl,h5,k1,k2,q1,q2,q3⟩
end
def jD(M:List Rw)(k:List UInt8):Option (List UInt8):=(aK M k).map Rw.val
def yu(l:List Ch)(k:List UInt8):Option Ch:=l.find? fun c=>c.key==k
def dX(l:List Ch)(M:List Rw)(k:List UInt8):Option (List UInt8):=match yu l k with
 | some c=>if c.gone then none else some c.val
 | none=>jD M k
theorem BL{l:List Ch}{k:List UInt8}{c:Ch}(h:yu l k=some c):c∈l∧c.key=k:=
 ⟨List.mem_of_find?_eq_some h,by simpa using List.find?_some h⟩
theorem Ud{l:List Ch}{k:List UInt8}(h:yu l k=none):∀ c∈l,c.key≠k:=fun c hc e=>by
 have:=List.find?_eq_none.1 h c hc
 simp [e] at this
theorem kZ{N:Nat}{M:List Rw}{l:List Ch}{ss:List Sp}(hM:Good N M)(hl:Fits l)(hd:Does N M (aC M l) ss)(k:List UInt8):jD (jH M (aC M l) ss) k=dX l M k:=by
 unfold dX
 cases hh:yu l k with
 | none=>
  have hn:=Ud hh
  simp only
  rw [jD,jD,EU hM.sorted hd k (fun c hc=>hn c (List.mem_filter.1 hc).1)]
 | some c=>
  obtain⟨hc,hk⟩:=BL hh
  subst hk
  simp only
  by_cases hnw:fU M c=true
  ·have hcn:c∈aC M l:=List.mem_filter.2 ⟨hc,hnw⟩
   by_cases hg:c.gone=true
   ·rw [if_pos hg,jD,Uw hl.news hd hcn hg];rfl
   ·have hg':c.gone=false:=by simpa using hg
    obtain⟨a,ha⟩:=XC hM.sorted hd hcn hg'
    rw [if_neg hg,jD,ha];rfl
  ·have hoth:∀ d∈aC M l,d.key≠c.key:=fun d hd' e=>by
    obtain⟨h1,h2⟩:=List.mem_filter.1 hd'
    have:=hl.inj h1 hc e
    subst this
    exact hnw h2
   rw [jD,EU hM.sorted hd c.key hoth]
   unfold fU at hnw
   by_cases hg:c.gone=true
   ·rw [if_pos hg] at hnw ⊢
    cases hf:aK M c.key with
    | none=>rfl
    | some r=>rw [hf] at hnw;simp at hnw
   ·rw [if_neg hg] at hnw ⊢
    cases hf:aK M c.key with
    | none=>rw [hf] at hnw;simp at hnw
    | some r=>rw [hf,Ih hf] at hnw;simp at hnw;simp [hnw]
theorem Om(N:Nat)(M:List Rw):Does N M [] []:=by constructor<;>simp [H7,aX,leftG]
def Puts(N:Nat)(M:List Rw)(l:List Ch)(x:Int)(M':List Rw):Prop:=
 (¬zF l∧x=1∧M'=M)∨(zF l∧(N:Int)-(M.length:Int)<bf M (aC M l)∧x=6∧M'=M) ∨
 (zF l∧bf M (aC M l)≤(N:Int)-(M.length:Int)∧x=0∧Good N M'∧∀ k,jD M' k=dX l M k)
theorem Puts.good{N:Nat}{M M':List Rw}{l:List Ch}{x:Int}(h:Puts N M l x M')(hM:Good N M):Good N M':=by
 rcases h with⟨_,_,rfl⟩ | ⟨_,_,_,rfl⟩ | ⟨_,_,_,h,_⟩
 ·exact hM
 ·exact hM
 ·exact h
theorem FQ{N:Nat}{M:List Rw}{s s':St}{n n':Nat}{f':Bool}{l:List Ch}{x:Int}{M':List Rw}(hs:Live s)(hlen:s.aA.length=41+N)(hM:Good N M)(hn:n≠4294967295)(h:dN N M s n false l x M' s' n' f'):
  Puts N M l x M'∧Live s'∧s'.aA.length=41+N∧s'.late.length≤s.late.length∧f'=false∧n'≤n+1:=by
 rcases h with⟨h1,h2,rfl,rfl,rfl,rfl⟩ | ⟨h1,h2,h3,rfl,rfl,rfl,rfl⟩ | ⟨h1,h2,h3,h4,rfl,rfl,rfl,rfl⟩ | ⟨h1,h2,h3,ss,hd,_,hc,hM'⟩
 ·exact⟨.inl ⟨h1,h2,rfl⟩,hs,hlen,Nat.le_refl _,rfl,Nat.le_succ _⟩
 ·exact⟨.inr (.inl ⟨h1,h2,h3,rfl⟩),hs,hlen,Nat.le_refl _,rfl,Nat.le_succ _⟩
 ·refine⟨.inr (.inr ⟨h1,h2,h4,hM,fun k=> ?_⟩),hs,hlen,Nat.le_refl _,rfl,Nat.le_succ _⟩
  have:=kZ (ss:=[]) hM (nZ h1) (by rw [h3];exact Om _ _) k
  rw [h3] at this
  exact this
 ·have hrg:(s.aA.length:Int)-41=(N:Int):=by omega
  have hr:dn (ss.map tN) ((s.aA.length:Int)-41):=by rw [hrg];exact ni (nZ h1).news hd h3
  obtain⟨rfl,rfl,rfl,rfl⟩:=J4 hs hr hn hc
  obtain⟨_,b2,b3,b4,_⟩:=zB (n:=n) hs hr
  rw [if_pos rfl] at hM'
  subst hM'
  exact⟨.inr (.inr ⟨h1,h2,rfl,EK hM (nZ h1).news ru hd,fun k=>kZ hM (nZ h1) hd k⟩),b2,by rw [b4];exact hlen,by rw [b3];exact Nat.zero_le _,rfl,Nat.le_refl _⟩
theorem ZI{w:World}{g:Nat}{ty:TypeId}{l:List Ch}(h:Blk w g ty (encs chE l).toArray):Els chE 3 w (some ⟨g,0,none⟩) l:=
 .inr ⟨g,0,rfl,h.lt,fun i hi j v hv=>by
  rw [h.cell,Nat.zero_add,List.getElem?_toArray]
  exact rW eH l i hi j v hv⟩
theorem JM{M:List Rw}{k v:List UInt8}(h:jD M k=some v):∃ r,aK M k=some r∧r∈M∧r.key=k∧r.val=v:=by
 rw [jD] at h
 cases hf:aK M k with
 | none=>rw [hf] at h;cases h
 | some r=>
  rw [hf] at h
  simp only [Option.map_some,Option.some.injEq] at h
  exact⟨r,rfl,(bC hf).1,(bC hf).2,h⟩
end Go.Proofs.YtmelaiefbpdifaaGreatDoor
/- Living rows of the call's own; alive. -/
namespace Go.Proofs.YtmelaiefbpdifaaGreatDoor
open Go.RowKit Go.Maps
def kN(w w':World)(F:List Nat)(rp mb lp p N:Nat)(M:List Rw)(c:Nat):Prop:=
 ∃ s n,Own5 w w' F rp mb lp p s n false M∧Live s∧s.aA.length=41+N∧s.late.length=0∧n≤c∧Good N M
section
variable {w w1 w2:World}{F:List Nat}{rp mb lp p N c:Nat}{M:List Rw}
theorem kN.keep(h:kN w w1 F rp mb lp p N M c)(k:Only [] w1 w2):kN w w2 F rp mb lp p N M c:=by
 obtain⟨s,n,h5,hrest⟩:=h
 exact⟨s,n,h5.keep k,hrest⟩
theorem kN.only(h:kN w w1 F rp mb lp p N M c):Only [] w w1:=by
 obtain⟨s,n,h5,_⟩:=h
 exact h5.own.only
theorem kN.beside{S:List Nat}(h:kN w w1 F rp mb lp p N M c)(k:Only S w1 w2)(hw:Only [] w w2)(hS:∀ i∈S,i∉rp :: mb :: lp :: F):kN w w2 F rp mb lp p N M c:=by
 obtain⟨s,n,h5,hrest⟩:=h
 refine⟨s,n,⟨h5.own.beside k hw (fun i hi hm=>hS i hi ?_),h5.rows.kept k (fun hm=>hS rp hm (by simp)) (fun hm=>hS mb hm (by simp)),h5.ne1,h5.ne2,h5.ne3,h5.out1,h5.Ye,h5.Vh,h5.SI⟩,hrest⟩
 simp only [List.mem_cons] at hm ⊢
 exact .inr (.inr hm)
theorem kN.lt(h:kN w w1 F rp mb lp p N M c):∀ i∈rp :: mb :: lp :: F,w.heap.size≤i∧i<w1.heap.size:=by
 obtain⟨s,n,h5,_⟩:=h
 intro i hi
 simp only [List.mem_cons] at hi
 rcases hi with rfl | rfl | rfl | hi
 ·exact⟨h5.Vh,h5.rows.hdr.lt⟩
 ·exact⟨h5.SI,h5.rows.map.lt⟩
 ·exact⟨h5.own.old,h5.own.lt⟩
 ·exact h5.own.new i hi
theorem kN.good(h:kN w w1 F rp mb lp p N M c):Good N M:=by
 obtain⟨s,n,_,_,_,_,_,h⟩:=h
 exact h
theorem kN.few(h:kN w w1 F rp mb lp p N M c):N≤1024:=by
 obtain⟨s,n,h5,_,hN,_⟩:=h
 have:=h5.own.dev.fine.few
 omega
theorem kN.put(h:kN w w1 F rp mb lp p N M c)(A:Option Addr)(cp:Nat)(l:List Ch)(hc:c<4294967295)(hb:Els chE 3 w1 A l)(hok:wJ l)(hl:l.length≤9223372036854775807)(hcp:l.length≤cp):
  Calls Tryz.prog 13 #[.pointer (some ⟨rp,0,none⟩),.slice A l.length cp] w1 fun e w'=>∃ x M' F',e = .returned (.int .i64 x)∧Puts N M l x M'∧kN w w' F' rp mb lp p N M' (c+1)∧Only (mb :: lp :: F) w1 w'∧∀ j∈F',j∈F∨w1.heap.size≤j:=by
 obtain⟨s,n,h5,hs,hN,bY,hn,hM⟩:=h
 refine (h5.commit A cp l hN hM (by omega) hb hok hl hcp (by omega)).mono ?_
 rintro e w' ⟨x,M',s',n',f',F',rfl,hcm,ho,hk,hF⟩
 obtain⟨a1,a2,a3,a4,rfl,a6⟩:=FQ hs hN hM (by omega) hcm
 exact⟨x,M',F',rfl,a1,⟨s',n',ho,a2,a3,by omega,by omega,a1.good hM⟩,hk,hF⟩
theorem yx(M:List Rw)(k:List UInt8):kF M k=(jD M k).getD []∧(aK M k).isSome=(jD M k).isSome:=by
 unfold kF jD
 cases aK M k<;>exact⟨rfl,rfl⟩
theorem kN.get(h:kN w w1 F rp mb lp p N M c)(k:List UInt8)(hk:k.length≤1048576):
  Calls Tryz.prog 81 #[.pointer (some ⟨rp,0,none⟩),.string (strOf k)] w1 fun e w'=>e = .returned (.tuple #[.string (strOf ((jD M k).getD [])),.bool (jD M k).isSome])∧Only [] w1 w':=by
 obtain⟨s,n,h5,_⟩:=h
 have:=get_any w1 rp mb lp M k hk h5.rows
 rw [(yx M k).1,(yx M k).2] at this
 exact this
theorem kN.free(h:kN w w1 F rp mb lp p N M c):
  Calls Tryz.prog 39 #[.pointer (some ⟨rp,0,none⟩)] w1 fun e w'=>e = .returned (.int .i64 ((N:Int)-(M.length:Int)))∧Only [] w1 w':=by
 have hf:=h.few
 obtain⟨s,n,h5,_,hN,_,_,hM⟩:=h
 have:=GI w1 rp mb lp p n false F s M h5.rows h5.own.log h5.own.dev (by have:=hM.length;omega)
 rw [show (s.aA.length:Int)-41-(M.length:Int)=(N:Int)-(M.length:Int) by omega] at this
 exact this
end
end Go.Proofs.YtmelaiefbpdifaaGreatDoor
