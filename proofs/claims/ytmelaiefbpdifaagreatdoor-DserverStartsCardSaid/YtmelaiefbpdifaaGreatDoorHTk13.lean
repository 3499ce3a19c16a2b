/- Boot, Down, reply, handlers, takes. -/
import Derived.Test.YtmelaiefbpdifaaGreatDoorHHw13
namespace Go.Proofs.YtmelaiefbpdifaaGreatDoor.Srv
open Go.RowKit Go.Maps
theorem X0(w:World):Calls Tryz.prog 21 #[.pointer none] w fun e w'=>e = .returned (.int .u32 0)∧w'=w:=by
 go_enter Tryz.func21,Tryz.ntmps21
 go_wp2
 go_ret
 exact⟨rfl,rfl⟩
theorem XI(w:World):Calls Tryz.prog 30 #[.pointer none] w fun e w'=>e = .returned (.bool true)∧w'=w:=by
 go_enter Tryz.func30,Tryz.ntmps30
 go_wp2
 go_ret
 exact⟨rfl,rfl⟩
abbrev pz:Array Value:=#[.int .i64 0,.int .i64 0,.int .i64 0,.int .u32 0,.int .u32 0,.int .u32 0,.int .u32 0,.int .i64 0,.int .i64 0,.int .u32 0,.int .u32 0,.int .u32 0,.int .u32 0,.int .u32 0,.int .u32 0,.int .u32 0,.int .u32 0,.string ⟨#[]⟩,.string ⟨#[]⟩,.string ⟨#[]⟩]
section
variable {w w1:World}{R:List Nat}{sb dp n c rp mb lp lb:Nat}{σ:Sv}{s:St}{f:Bool}{F:List Nat}{vs:Nat→Value}{D:DataW Value}
theorem dA.abf(h:dA w w1 R sb dp σ s n f c rp mb lp lb F vs D):Calls Tryz.prog 21 #[.pointer (some ⟨sb,0,none⟩)] w1 fun e w'=>e = .returned (.int .u32 σ.jC)∧w'=w1:=by
 obtain⟨_,c1,_⟩:=h.cells
 clear h
 go_enter Tryz.func21,Tryz.ntmps21
 go_wp2
 go_ret
 exact⟨rfl,rfl⟩
theorem dA.aa7(h:dA w w1 R sb dp σ s n f c rp mb lp lb F vs D):Calls Tryz.prog 30 #[.pointer (some ⟨sb,0,none⟩)] w1 fun e w'=>e = .returned (.bool (!σ.up))∧w'=w1:=by
 obtain⟨_,_,c2,_⟩:=h.cells
 clear h
 go_enter Tryz.func30,Tryz.ntmps30
 go_wp2
 go_ret
 exact⟨rfl,rfl⟩
set_option maxRecDepth 100000 in
set_option maxHeartbeats 4000000 in
theorem dA.Yc(h:dA w w1 R sb dp σ s n f c rp mb lp lb F vs D)(p:Pk)(d:List UInt8)(er:Int):
  Calls Tryz.prog 61 #[.pointer (some ⟨sb,0,none⟩),pkV p,.string (strOf d),.int .i64 er] w1 fun e w'=>e = .returned (pkV (iD σ p d er))∧Only [] w1 w':=by
 obtain⟨c0,c1,_⟩:=h.cells
 have hsb:=(h.new sb (h.inR sb (by simp))).2
 clear h
 unfold iD
 generalize strOf d=ds at *
 generalize σ.me=me at *
 generalize σ.jC=bo at *
 obtain⟨q,hq⟩:∃ q,q=w1.heap.size:=⟨_,rfl⟩
 have b0:Blk ((w1.alloc (.cells (pkA p) 53)).alloc (.cells pz 53)) w1.heap.size 53 (pkA p):=(Blk.new w1 _ _).alloc _
 have z1:Blk ((w1.alloc (.cells (pkA p) 53)).alloc (.cells pz 53)) (w1.heap.size+1) 53 pz:=by
  have:=Blk.new (w1.alloc (.cells (pkA p) 53)) 53 pz
  rwa [show (w1.alloc (.cells (pkA p) 53)).heap.size=w1.heap.size+1 by simp] at this
 have k1:Only [] w1 ((w1.alloc (.cells (pkA p) 53)).alloc (.cells pz 53)):=((Only.refl [] w1).alloc _).alloc _
 have d0:=k1.cell c0 (by simp)
 have d1:=k1.cell c1 (by simp)
 have e1:=b0.cell 1
 have e3:=b0.cell 3
 have e4:=b0.cell 4
 have e5:=b0.cell 5
 have e7:=b0.cell 7
 have e9:=b0.cell 9
 simp only [List.getElem?_toArray,List.getElem?_cons_zero,List.getElem?_cons_succ] at e1 e3 e4 e5 e7 e9
 clear c0 c1 b0
 go_enter Tryz.func61,Tryz.ntmps61
 go_wp2_with fail
 generalize ((w1.alloc (.cells (pkA p) 53)).alloc (.cells pz 53))=W at *
 go_still_tail 26,(by kernel_rfl)
 change wpList _ _ _ _ _ W.drew
 have kd:=k1.drew
 replace z1:=z1.kept ((Only.refl [] W).drew) (by simp)
 generalize W.drew=wd at *
 go_wp2_with (refine aN ⟨2,me,p.frm,p.life,p.seq,p.asked,bo,p.code,er,p.file,0,0,0,0,0,0,0,⟨#[]⟩,⟨#[]⟩,ds⟩ zPk rfl (.tmp 8) (.tmp 34) rfl (w1.heap.size+1) rfl rfl z1 ?_;intro w2 b2 k2)
 refine bodyPost_ret (v:=pkV ⟨2,me,p.frm,p.life,p.seq,p.asked,bo,p.code,er,p.file,0,0,0,0,0,0,0,⟨#[]⟩,⟨#[]⟩,ds⟩) (pR rfl _ _ (w1.heap.size+1) rfl (pkA _).toList _ b2 Tryz.underlying53 rfl kH) rfl ?_
 exact⟨rfl,kd.then k2 (fun i hi=>.inr (by simp at hi;omega))⟩
end
abbrev fnV(f:FuncId):Value:=.func (.func f) #[] #[]
abbrev Uj:Array Value:=#[.nilFunc,fnV 158,fnV 159,fnV 160,fnV 161,fnV 162]
set_option maxRecDepth 100000 in
theorem JI(w:World):Calls Tryz.prog 113 #[] w fun e w'=>e = .returned (.agg Uj)∧Only [] w w':=by
 have z1:Blk (w.alloc (.cells #[.nilFunc,.nilFunc,.nilFunc,.nilFunc,.nilFunc,.nilFunc] 213)) w.heap.size 213 #[.nilFunc,.nilFunc,.nilFunc,.nilFunc,.nilFunc,.nilFunc]:=Blk.new w _ _
 have k1:Only [] w (w.alloc (.cells #[.nilFunc,.nilFunc,.nilFunc,.nilFunc,.nilFunc,.nilFunc] 213)):=(Only.refl [] w).alloc _
 go_enter Tryz.func113,Tryz.ntmps113
 go_wp2_with (refine iL rfl 213 (.tmp 0) (.tmp 1) rfl w.heap.size _ Uj rfl rfl z1 (by kernel_rfl) rfl (by simp [Value.oneCell']) ?_;intro w2 b2 k2)
 refine bodyPost_ret (v:=.agg Uj) (pR rfl _ _ w.heap.size rfl Uj.toList _ b2 Tryz.underlying213 rfl (by kernel_rfl)) rfl ?_
 exact⟨rfl,k1.then k2 (fun i hi=>.inr (by simp at hi;omega))⟩
instance (σ : Sv) (p : Pk) : Decidable (takes σ p) := by unfold takes; infer_instance
section
variable {w w1:World}{R:List Nat}{sb dp n c rp mb lp lb:Nat}{σ:Sv}{s:St}{f:Bool}{F:List Nat}{vs:Nat→Value}{D:DataW Value}
set_option maxRecDepth 100000 in
set_option maxHeartbeats 4000000 in
theorem dA.aah(h:dA w w1 R sb dp σ s n f c rp mb lp lb F vs D)(p:Pk):
  Calls Tryz.prog 60 #[.pointer (some ⟨sb,0,none⟩),pkV p] w1 fun e w'=>e = .returned (.bool (decide (takes σ p)))∧Only [] w1 w':=by
 obtain⟨m0,_⟩:=h.cells
 have hright:=fun W=>sN W p
 have htk:takes σ p↔(p.Right∧p.kind=1∧p.dst=σ.me∧1≤p.code∧p.code≤5):=Iff.rfl
 clear h
 generalize σ.me=me at *
 have b0:Blk (w1.alloc (.cells (pkA p) 53)).drew w1.heap.size 53 (pkA p):=(Blk.new w1 _ _).kept ((Only.refl [] _).drew) (by simp)
 have kd:Only [] w1 (w1.alloc (.cells (pkA p) 53)).drew:=((Only.refl [] w1).alloc _).drew
 replace m0:=kd.cell m0 (by simp)
 have r0:=Blk.IX (cs:=(pkA p).toList) b0
 have a0:=b0.cell 0
 have a2:=b0.cell 2
 have a7:=b0.cell 7
 simp only [List.getElem?_toArray,List.getElem?_cons_zero,List.getElem?_cons_succ] at a0 a2 a7
 clear b0
 by_cases hR:p.Right
 case neg=>
  have hd:decide (takes σ p)=false:=by
   rw [decide_eq_false_iff_not,htk];exact fun hh=>hR hh.1
  rw [hd]
  have g0:decide p.Right=false:=by simpa using hR
  simp only [g0] at hright
  clear hd htk g0
  go_enter Tryz.func60,Tryz.ntmps60
  go_wp2_with fail
  generalize w1.alloc (.cells (pkA p) 53)=W at *
  generalize w1.heap.size=q at *
  refine wp_region_held_drew (S:=fun w'=>w'.rangeAt q 0 (pkA p).toList∧w'.cell? ⟨q,0,none⟩=some (.int .i64 p.kind)∧w'.cell? ⟨q,2,none⟩=some (.int .i64 p.dst)∧w'.cell? ⟨q,7,none⟩=some (.int .i64 p.code)∧w'.cell? ⟨sb,0,none⟩=some (.int .i64 me)) (by kernel_rfl) ⟨r0,a0,a2,a7,m0⟩ (fun hHeld=> ?_)
  generalize W.drew=wd at *
  refine rwY 0 (pkV p) hHeld ?_ (hy:=yieldsIf_load_mid (by rfl) 53 (.tmp 3) rfl q 0 rfl (pkA p).toList _ (fun w' hSw=>hSw.1) Tryz.underlying53 rfl kH);simp only [rwA]
  refine ah 1 rfl (by kernel_rfl) (fun K hK=> ?_)
  go_simp
  refine (hright _).mono ?_;rintro e w2 ⟨rfl,k2⟩
  have x0:=k2.cell a0 (by simp);have x2:=k2.cell a2 (by simp);have x7:=k2.cell a7 (by simp);have xm:=k2.cell m0 (by simp)
  have dw:=kd.trans k2
  go_wp2_with fail
  refine hK.out _ _ ⟨fun j v hj=>k2.cell (r0 j v hj) (by simp),x0,x2,x7,xm⟩ (fun hHeld=> ?_)
  clear hK K
  refine rwT 2 (.bool false) hHeld ?_;simp only [rwA]
  refine rwU 3 hHeld ?_;simp only [rwA]
  refine rwU 4 hHeld ?_;simp only [rwA]
  refine rwU 5 hHeld ?_;simp only [rwA]
  refine rwT 6 (.bool false) hHeld ?_;simp only [rwA]
  refine rwT 7 (.bool false) hHeld ?_;simp only [rwA]
  refine rwU 8 hHeld ?_;simp only [rwA]
  refine rwU 9 hHeld ?_;simp only [rwA]
  refine rwU 10 hHeld ?_;simp only [rwA]
  refine rwU 11 hHeld ?_;simp only [rwA]
  refine rwU 12 hHeld ?_;simp only [rwA]
  refine rwU 13 hHeld ?_;simp only [rwA]
  refine rwU 14 hHeld ?_;simp only [rwA]
  refine rwT 15 (.bool false) hHeld ?_;simp only [rwA]
  refine rwT 16 (.bool false) hHeld ?_;simp only [rwA]
  refine rwU 17 hHeld ?_;simp only [rwA]
  refine rwU 18 hHeld ?_;simp only [rwA]
  refine rwU 19 hHeld ?_;simp only [rwA]
  refine rwU 20 hHeld ?_;simp only [rwA]
  refine rwT 21 (.bool false) hHeld ?_;simp only [rwA]
  refine rwT 22 (.bool false) hHeld ?_;simp only [rwA]
  refine rwU 23 hHeld ?_;simp only [rwA]
  refine rwU 24 hHeld ?_;simp only [rwA]
  refine rwU 25 hHeld ?_;simp only [rwA]
  refine rwU 26 hHeld ?_;simp only [rwA]
  refine rwT 27 (.bool false) hHeld ?_;simp only [rwA]
  refine rwT 28 (.bool false) hHeld ?_;simp only [rwA]
  refine wpAnyH_done (by kernel_rfl) ?_ _
  clear hHeld
  go_wp2
  go_ret
  exact⟨rfl,dw⟩
 by_cases h1:p.kind=1
 case neg=>
  have hd:decide (takes σ p)=false:=by
   rw [decide_eq_false_iff_not,htk];exact fun hh=>h1 hh.2.1
  rw [hd]
  have g0:decide p.Right=true:=by simpa using hR
  simp only [g0] at hright
  have g1:(p.kind==1)=false:=by simpa using h1
  have e1:decide (p.kind=1)=false:=by simpa using h1
  clear hd htk g0 h1
  go_enter Tryz.func60,Tryz.ntmps60
  go_wp2_with fail
  generalize w1.alloc (.cells (pkA p) 53)=W at *
  generalize w1.heap.size=q at *
  refine wp_region_held_drew (S:=fun w'=>w'.rangeAt q 0 (pkA p).toList∧w'.cell? ⟨q,0,none⟩=some (.int .i64 p.kind)∧w'.cell? ⟨q,2,none⟩=some (.int .i64 p.dst)∧w'.cell? ⟨q,7,none⟩=some (.int .i64 p.code)∧w'.cell? ⟨sb,0,none⟩=some (.int .i64 me)) (by kernel_rfl) ⟨r0,a0,a2,a7,m0⟩ (fun hHeld=> ?_)
  generalize W.drew=wd at *
  refine rwY 0 (pkV p) hHeld ?_ (hy:=yieldsIf_load_mid (by rfl) 53 (.tmp 3) rfl q 0 rfl (pkA p).toList _ (fun w' hSw=>hSw.1) Tryz.underlying53 rfl kH);simp only [rwA]
  refine ah 1 rfl (by kernel_rfl) (fun K hK=> ?_)
  go_simp
  refine (hright _).mono ?_;rintro e w2 ⟨rfl,k2⟩
  have x0:=k2.cell a0 (by simp);have x2:=k2.cell a2 (by simp);have x7:=k2.cell a7 (by simp);have xm:=k2.cell m0 (by simp)
  have dw:=kd.trans k2
  go_wp2_with fail
  refine hK.out _ _ ⟨fun j v hj=>k2.cell (r0 j v hj) (by simp),x0,x2,x7,xm⟩ (fun hHeld=> ?_)
  clear hK K
  refine rwT 2 (.bool true) hHeld ?_;simp only [rwA]
  refine rwT 3 (.pointer (some ⟨q,0,none⟩)) hHeld ?_;simp only [rwA]
  refine rwY 4 (.int .i64 p.kind) hHeld ?_ (hy:=Or.inl ⟨by rfl,fun w' hSw=>by obtain⟨_,hc0,hc2,hc7,hcm⟩:=hSw;go_simp⟩);simp only [rwA]
  refine rwT 5 (.bool false) hHeld ?_;simp only [rwA]
  refine rwT 6 (.bool false) hHeld ?_;simp only [rwA]
  refine rwT 7 (.bool false) hHeld ?_;simp only [rwA]
  refine rwU 8 hHeld ?_;simp only [rwA]
  refine rwU 9 hHeld ?_;simp only [rwA]
  refine rwU 10 hHeld ?_;simp only [rwA]
  refine rwU 11 hHeld ?_;simp only [rwA]
  refine rwU 12 hHeld ?_;simp only [rwA]
  refine rwU 13 hHeld ?_;simp only [rwA]
  refine rwU 14 hHeld ?_;simp only [rwA]
  refine rwT 15 (.bool false) hHeld ?_;simp only [rwA]
  refine rwT 16 (.bool false) hHeld ?_;simp only [rwA]
  refine rwU 17 hHeld ?_;simp only [rwA]
  refine rwU 18 hHeld ?_;simp only [rwA]
  refine rwU 19 hHeld ?_;simp only [rwA]
  refine rwU 20 hHeld ?_;simp only [rwA]
  refine rwT 21 (.bool false) hHeld ?_;simp only [rwA]
  refine rwT 22 (.bool false) hHeld ?_;simp only [rwA]
  refine rwU 23 hHeld ?_;simp only [rwA]
  refine rwU 24 hHeld ?_;simp only [rwA]
  refine rwU 25 hHeld ?_;simp only [rwA]
  refine rwU 26 hHeld ?_;simp only [rwA]
  refine rwT 27 (.bool false) hHeld ?_;simp only [rwA]
  refine rwT 28 (.bool false) hHeld ?_;simp only [rwA]
  refine wpAnyH_done (by kernel_rfl) ?_ _
  clear hHeld
  go_wp2
  go_ret
  exact⟨rfl,dw⟩
 by_cases h2:p.dst=me
 case neg=>
  have hd:decide (takes σ p)=false:=by
   rw [decide_eq_false_iff_not,htk];exact fun hh=>h2 hh.2.2.1
  rw [hd]
  have g0:decide p.Right=true:=by simpa using hR
  simp only [g0] at hright
  have g1:(p.kind==1)=true:=by simpa using h1
  have e1:decide (p.kind=1)=true:=by simpa using h1
  have g2:(p.dst==me)=false:=by simpa using h2
  have e2:decide (p.dst=me)=false:=by simpa using h2
  clear hd htk g0 h1 h2
  go_enter Tryz.func60,Tryz.ntmps60
  go_wp2_with fail
  generalize w1.alloc (.cells (pkA p) 53)=W at *
  generalize w1.heap.size=q at *
  refine wp_region_held_drew (S:=fun w'=>w'.rangeAt q 0 (pkA p).toList∧w'.cell? ⟨q,0,none⟩=some (.int .i64 p.kind)∧w'.cell? ⟨q,2,none⟩=some (.int .i64 p.dst)∧w'.cell? ⟨q,7,none⟩=some (.int .i64 p.code)∧w'.cell? ⟨sb,0,none⟩=some (.int .i64 me)) (by kernel_rfl) ⟨r0,a0,a2,a7,m0⟩ (fun hHeld=> ?_)
  generalize W.drew=wd at *
  refine rwY 0 (pkV p) hHeld ?_ (hy:=yieldsIf_load_mid (by rfl) 53 (.tmp 3) rfl q 0 rfl (pkA p).toList _ (fun w' hSw=>hSw.1) Tryz.underlying53 rfl kH);simp only [rwA]
  refine ah 1 rfl (by kernel_rfl) (fun K hK=> ?_)
  go_simp
  refine (hright _).mono ?_;rintro e w2 ⟨rfl,k2⟩
  have x0:=k2.cell a0 (by simp);have x2:=k2.cell a2 (by simp);have x7:=k2.cell a7 (by simp);have xm:=k2.cell m0 (by simp)
  have dw:=kd.trans k2
  go_wp2_with fail
  refine hK.out _ _ ⟨fun j v hj=>k2.cell (r0 j v hj) (by simp),x0,x2,x7,xm⟩ (fun hHeld=> ?_)
  clear hK K
  refine rwT 2 (.bool true) hHeld ?_;simp only [rwA]
  refine rwT 3 (.pointer (some ⟨q,0,none⟩)) hHeld ?_;simp only [rwA]
  refine rwY 4 (.int .i64 p.kind) hHeld ?_ (hy:=Or.inl ⟨by rfl,fun w' hSw=>by obtain⟨_,hc0,hc2,hc7,hcm⟩:=hSw;go_simp⟩);simp only [rwA]
  refine rwT 5 (.bool true) hHeld ?_;simp only [rwA]
  refine rwT 6 (.bool true) hHeld ?_;simp only [rwA]
  refine rwT 7 (.bool true) hHeld ?_;simp only [rwA]
  refine rwT 8 (.pointer (some ⟨q,2,none⟩)) hHeld ?_;simp only [rwA]
  refine rwY 9 (.int .i64 p.dst) hHeld ?_ (hy:=Or.inl ⟨by rfl,fun w' hSw=>by obtain⟨_,hc0,hc2,hc7,hcm⟩:=hSw;go_simp⟩);simp only [rwA]
  refine rwT 10 (.pointer (some ⟨sb,0,none⟩)) hHeld ?_;simp only [rwA]
  refine rwT 11 (.pointer (some ⟨sb,0,none⟩)) hHeld ?_;simp only [rwA]
  refine rwT 12 (.pointer (some ⟨sb,0,none⟩)) hHeld ?_;simp only [rwA]
  refine rwY 13 (.int .i64 me) hHeld ?_ (hy:=Or.inl ⟨by rfl,fun w' hSw=>by obtain⟨_,hc0,hc2,hc7,hcm⟩:=hSw;go_simp⟩);simp only [rwA]
  refine rwT 14 (.bool false) hHeld ?_;simp only [rwA]
  refine rwT 15 (.bool false) hHeld ?_;simp only [rwA]
  refine rwT 16 (.bool false) hHeld ?_;simp only [rwA]
  refine rwU 17 hHeld ?_;simp only [rwA]
  refine rwU 18 hHeld ?_;simp only [rwA]
  refine rwU 19 hHeld ?_;simp only [rwA]
  refine rwU 20 hHeld ?_;simp only [rwA]
  refine rwT 21 (.bool false) hHeld ?_;simp only [rwA]
  refine rwT 22 (.bool false) hHeld ?_;simp only [rwA]
  refine rwU 23 hHeld ?_;simp only [rwA]
  refine rwU 24 hHeld ?_;simp only [rwA]
  refine rwU 25 hHeld ?_;simp only [rwA]
  refine rwU 26 hHeld ?_;simp only [rwA]
  refine rwT 27 (.bool false) hHeld ?_;simp only [rwA]
  refine rwT 28 (.bool false) hHeld ?_;simp only [rwA]
  refine wpAnyH_done (by kernel_rfl) ?_ _
  clear hHeld
  go_wp2
  go_ret
  exact⟨rfl,dw⟩
 by_cases h3:1≤p.code
 case neg=>
  have hd:decide (takes σ p)=false:=by
   rw [decide_eq_false_iff_not,htk];exact fun hh=>h3 hh.2.2.2.1
  rw [hd]
  have g0:decide p.Right=true:=by simpa using hR
  simp only [g0] at hright
  have g1:(p.kind==1)=true:=by simpa using h1
  have e1:decide (p.kind=1)=true:=by simpa using h1
  have g2:(p.dst==me)=true:=by simpa using h2
  have e2:decide (p.dst=me)=true:=by simpa using h2
  have g3:decide (1≤p.code)=false:=by simpa using h3
  clear hd htk g0 h1 h2 h3
  go_enter Tryz.func60,Tryz.ntmps60
  go_wp2_with fail
  generalize w1.alloc (.cells (pkA p) 53)=W at *
  generalize w1.heap.size=q at *
  refine wp_region_held_drew (S:=fun w'=>w'.rangeAt q 0 (pkA p).toList∧w'.cell? ⟨q,0,none⟩=some (.int .i64 p.kind)∧w'.cell? ⟨q,2,none⟩=some (.int .i64 p.dst)∧w'.cell? ⟨q,7,none⟩=some (.int .i64 p.code)∧w'.cell? ⟨sb,0,none⟩=some (.int .i64 me)) (by kernel_rfl) ⟨r0,a0,a2,a7,m0⟩ (fun hHeld=> ?_)
  generalize W.drew=wd at *
  refine rwY 0 (pkV p) hHeld ?_ (hy:=yieldsIf_load_mid (by rfl) 53 (.tmp 3) rfl q 0 rfl (pkA p).toList _ (fun w' hSw=>hSw.1) Tryz.underlying53 rfl kH);simp only [rwA]
  refine ah 1 rfl (by kernel_rfl) (fun K hK=> ?_)
  go_simp
  refine (hright _).mono ?_;rintro e w2 ⟨rfl,k2⟩
  have x0:=k2.cell a0 (by simp);have x2:=k2.cell a2 (by simp);have x7:=k2.cell a7 (by simp);have xm:=k2.cell m0 (by simp)
  have dw:=kd.trans k2
  go_wp2_with fail
  refine hK.out _ _ ⟨fun j v hj=>k2.cell (r0 j v hj) (by simp),x0,x2,x7,xm⟩ (fun hHeld=> ?_)
  clear hK K
  refine rwT 2 (.bool true) hHeld ?_;simp only [rwA]
  refine rwT 3 (.pointer (some ⟨q,0,none⟩)) hHeld ?_;simp only [rwA]
  refine rwY 4 (.int .i64 p.kind) hHeld ?_ (hy:=Or.inl ⟨by rfl,fun w' hSw=>by obtain⟨_,hc0,hc2,hc7,hcm⟩:=hSw;go_simp⟩);simp only [rwA]
  refine rwT 5 (.bool true) hHeld ?_;simp only [rwA]
  refine rwT 6 (.bool true) hHeld ?_;simp only [rwA]
  refine rwT 7 (.bool true) hHeld ?_;simp only [rwA]
  refine rwT 8 (.pointer (some ⟨q,2,none⟩)) hHeld ?_;simp only [rwA]
  refine rwY 9 (.int .i64 p.dst) hHeld ?_ (hy:=Or.inl ⟨by rfl,fun w' hSw=>by obtain⟨_,hc0,hc2,hc7,hcm⟩:=hSw;go_simp⟩);simp only [rwA]
  refine rwT 10 (.pointer (some ⟨sb,0,none⟩)) hHeld ?_;simp only [rwA]
  refine rwT 11 (.pointer (some ⟨sb,0,none⟩)) hHeld ?_;simp only [rwA]
  refine rwT 12 (.pointer (some ⟨sb,0,none⟩)) hHeld ?_;simp only [rwA]
  refine rwY 13 (.int .i64 me) hHeld ?_ (hy:=Or.inl ⟨by rfl,fun w' hSw=>by obtain⟨_,hc0,hc2,hc7,hcm⟩:=hSw;go_simp⟩);simp only [rwA]
  refine rwT 14 (.bool true) hHeld ?_;simp only [rwA]
  refine rwT 15 (.bool true) hHeld ?_;simp only [rwA]
  refine rwT 16 (.bool true) hHeld ?_;simp only [rwA]
  refine rwT 17 (.pointer (some ⟨q,7,none⟩)) hHeld ?_;simp only [rwA]
  refine rwT 18 (.pointer (some ⟨q,7,none⟩)) hHeld ?_;simp only [rwA]
  refine rwY 19 (.int .i64 p.code) hHeld ?_ (hy:=Or.inl ⟨by rfl,fun w' hSw=>by obtain⟨_,hc0,hc2,hc7,hcm⟩:=hSw;go_simp⟩);simp only [rwA]
  refine rwT 20 (.bool false) hHeld ?_;simp only [rwA]
  refine rwT 21 (.bool false) hHeld ?_;simp only [rwA]
  refine rwT 22 (.bool false) hHeld ?_;simp only [rwA]
  refine rwU 23 hHeld ?_;simp only [rwA]
  refine rwU 24 hHeld ?_;simp only [rwA]
  refine rwU 25 hHeld ?_;simp only [rwA]
  refine rwU 26 hHeld ?_;simp only [rwA]
  refine rwT 27 (.bool false) hHeld ?_;simp only [rwA]
  refine rwT 28 (.bool false) hHeld ?_;simp only [rwA]
  refine wpAnyH_done (by kernel_rfl) ?_ _
  clear hHeld
  go_wp2
  go_ret
  exact⟨rfl,dw⟩
 by_cases h4:p.code≤5
 case neg=>
  have hd:decide (takes σ p)=false:=by
   rw [decide_eq_false_iff_not,htk];exact fun hh=>h4 hh.2.2.2.2
  rw [hd]
  have g0:decide p.Right=true:=by simpa using hR
  simp only [g0] at hright
  have g1:(p.kind==1)=true:=by simpa using h1
  have e1:decide (p.kind=1)=true:=by simpa using h1
  have g2:(p.dst==me)=true:=by simpa using h2
  have e2:decide (p.dst=me)=true:=by simpa using h2
  have g3:decide (1≤p.code)=true:=by simpa using h3
  have g4:decide (p.code≤5)=false:=by simpa using h4
  clear hd htk g0 h1 h2 h3 h4
  go_enter Tryz.func60,Tryz.ntmps60
  go_wp2_with fail
  generalize w1.alloc (.cells (pkA p) 53)=W at *
  generalize w1.heap.size=q at *
  refine wp_region_held_drew (S:=fun w'=>w'.rangeAt q 0 (pkA p).toList∧w'.cell? ⟨q,0,none⟩=some (.int .i64 p.kind)∧w'.cell? ⟨q,2,none⟩=some (.int .i64 p.dst)∧w'.cell? ⟨q,7,none⟩=some (.int .i64 p.code)∧w'.cell? ⟨sb,0,none⟩=some (.int .i64 me)) (by kernel_rfl) ⟨r0,a0,a2,a7,m0⟩ (fun hHeld=> ?_)
  generalize W.drew=wd at *
  refine rwY 0 (pkV p) hHeld ?_ (hy:=yieldsIf_load_mid (by rfl) 53 (.tmp 3) rfl q 0 rfl (pkA p).toList _ (fun w' hSw=>hSw.1) Tryz.underlying53 rfl kH);simp only [rwA]
  refine ah 1 rfl (by kernel_rfl) (fun K hK=> ?_)
  go_simp
  refine (hright _).mono ?_;rintro e w2 ⟨rfl,k2⟩
  have x0:=k2.cell a0 (by simp);have x2:=k2.cell a2 (by simp);have x7:=k2.cell a7 (by simp);have xm:=k2.cell m0 (by simp)
  have dw:=kd.trans k2
  go_wp2_with fail
  refine hK.out _ _ ⟨fun j v hj=>k2.cell (r0 j v hj) (by simp),x0,x2,x7,xm⟩ (fun hHeld=> ?_)
  clear hK K
  refine rwT 2 (.bool true) hHeld ?_;simp only [rwA]
  refine rwT 3 (.pointer (some ⟨q,0,none⟩)) hHeld ?_;simp only [rwA]
  refine rwY 4 (.int .i64 p.kind) hHeld ?_ (hy:=Or.inl ⟨by rfl,fun w' hSw=>by obtain⟨_,hc0,hc2,hc7,hcm⟩:=hSw;go_simp⟩);simp only [rwA]
  refine rwT 5 (.bool true) hHeld ?_;simp only [rwA]
  refine rwT 6 (.bool true) hHeld ?_;simp only [rwA]
  refine rwT 7 (.bool true) hHeld ?_;simp only [rwA]
  refine rwT 8 (.pointer (some ⟨q,2,none⟩)) hHeld ?_;simp only [rwA]
  refine rwY 9 (.int .i64 p.dst) hHeld ?_ (hy:=Or.inl ⟨by rfl,fun w' hSw=>by obtain⟨_,hc0,hc2,hc7,hcm⟩:=hSw;go_simp⟩);simp only [rwA]
  refine rwT 10 (.pointer (some ⟨sb,0,none⟩)) hHeld ?_;simp only [rwA]
  refine rwT 11 (.pointer (some ⟨sb,0,none⟩)) hHeld ?_;simp only [rwA]
  refine rwT 12 (.pointer (some ⟨sb,0,none⟩)) hHeld ?_;simp only [rwA]
  refine rwY 13 (.int .i64 me) hHeld ?_ (hy:=Or.inl ⟨by rfl,fun w' hSw=>by obtain⟨_,hc0,hc2,hc7,hcm⟩:=hSw;go_simp⟩);simp only [rwA]
  refine rwT 14 (.bool true) hHeld ?_;simp only [rwA]
  refine rwT 15 (.bool true) hHeld ?_;simp only [rwA]
  refine rwT 16 (.bool true) hHeld ?_;simp only [rwA]
  refine rwT 17 (.pointer (some ⟨q,7,none⟩)) hHeld ?_;simp only [rwA]
  refine rwT 18 (.pointer (some ⟨q,7,none⟩)) hHeld ?_;simp only [rwA]
  refine rwY 19 (.int .i64 p.code) hHeld ?_ (hy:=Or.inl ⟨by rfl,fun w' hSw=>by obtain⟨_,hc0,hc2,hc7,hcm⟩:=hSw;go_simp⟩);simp only [rwA]
  refine rwT 20 (.bool true) hHeld ?_;simp only [rwA]
  refine rwT 21 (.bool true) hHeld ?_;simp only [rwA]
  refine rwT 22 (.bool true) hHeld ?_;simp only [rwA]
  refine rwT 23 (.pointer (some ⟨q,7,none⟩)) hHeld ?_;simp only [rwA]
  refine rwT 24 (.pointer (some ⟨q,7,none⟩)) hHeld ?_;simp only [rwA]
  refine rwY 25 (.int .i64 p.code) hHeld ?_ (hy:=Or.inl ⟨by rfl,fun w' hSw=>by obtain⟨_,hc0,hc2,hc7,hcm⟩:=hSw;go_simp⟩);simp only [rwA]
  refine rwT 26 (.bool false) hHeld ?_;simp only [rwA]
  refine rwT 27 (.bool false) hHeld ?_;simp only [rwA]
  refine rwT 28 (.bool false) hHeld ?_;simp only [rwA]
  refine wpAnyH_done (by kernel_rfl) ?_ _
  clear hHeld
  go_wp2
  go_ret
  exact⟨rfl,dw⟩
 have hd:decide (takes σ p)=true:=by
  rw [decide_eq_true_eq,htk];exact⟨hR,h1,h2,h3,h4⟩
 rw [hd]
 have g0:decide p.Right=true:=by simpa using hR
 simp only [g0] at hright
 have g1:(p.kind==1)=true:=by simpa using h1
 have e1:decide (p.kind=1)=true:=by simpa using h1
 have g2:(p.dst==me)=true:=by simpa using h2
 have e2:decide (p.dst=me)=true:=by simpa using h2
 have g3:decide (1≤p.code)=true:=by simpa using h3
 have g4:decide (p.code≤5)=true:=by simpa using h4
 clear hd htk g0 h1 h2 h3 h4
 go_enter Tryz.func60,Tryz.ntmps60
 go_wp2_with fail
 generalize w1.alloc (.cells (pkA p) 53)=W at *
 generalize w1.heap.size=q at *
 refine wp_region_held_drew (S:=fun w'=>w'.rangeAt q 0 (pkA p).toList∧w'.cell? ⟨q,0,none⟩=some (.int .i64 p.kind)∧w'.cell? ⟨q,2,none⟩=some (.int .i64 p.dst)∧w'.cell? ⟨q,7,none⟩=some (.int .i64 p.code)∧w'.cell? ⟨sb,0,none⟩=some (.int .i64 me)) (by kernel_rfl) ⟨r0,a0,a2,a7,m0⟩ (fun hHeld=> ?_)
 generalize W.drew=wd at *
 refine rwY 0 (pkV p) hHeld ?_ (hy:=yieldsIf_load_mid (by rfl) 53 (.tmp 3) rfl q 0 rfl (pkA p).toList _ (fun w' hSw=>hSw.1) Tryz.underlying53 rfl kH);simp only [rwA]
 refine ah 1 rfl (by kernel_rfl) (fun K hK=> ?_)
 go_simp
 refine (hright _).mono ?_;rintro e w2 ⟨rfl,k2⟩
 have x0:=k2.cell a0 (by simp);have x2:=k2.cell a2 (by simp);have x7:=k2.cell a7 (by simp);have xm:=k2.cell m0 (by simp)
 have dw:=kd.trans k2
 go_wp2_with fail
 refine hK.out _ _ ⟨fun j v hj=>k2.cell (r0 j v hj) (by simp),x0,x2,x7,xm⟩ (fun hHeld=> ?_)
 clear hK K
 refine rwT 2 (.bool true) hHeld ?_;simp only [rwA]
 refine rwT 3 (.pointer (some ⟨q,0,none⟩)) hHeld ?_;simp only [rwA]
 refine rwY 4 (.int .i64 p.kind) hHeld ?_ (hy:=Or.inl ⟨by rfl,fun w' hSw=>by obtain⟨_,hc0,hc2,hc7,hcm⟩:=hSw;go_simp⟩);simp only [rwA]
 refine rwT 5 (.bool true) hHeld ?_;simp only [rwA]
 refine rwT 6 (.bool true) hHeld ?_;simp only [rwA]
 refine rwT 7 (.bool true) hHeld ?_;simp only [rwA]
 refine rwT 8 (.pointer (some ⟨q,2,none⟩)) hHeld ?_;simp only [rwA]
 refine rwY 9 (.int .i64 p.dst) hHeld ?_ (hy:=Or.inl ⟨by rfl,fun w' hSw=>by obtain⟨_,hc0,hc2,hc7,hcm⟩:=hSw;go_simp⟩);simp only [rwA]
 refine rwT 10 (.pointer (some ⟨sb,0,none⟩)) hHeld ?_;simp only [rwA]
 refine rwT 11 (.pointer (some ⟨sb,0,none⟩)) hHeld ?_;simp only [rwA]
 refine rwT 12 (.pointer (some ⟨sb,0,none⟩)) hHeld ?_;simp only [rwA]
 refine rwY 13 (.int .i64 me) hHeld ?_ (hy:=Or.inl ⟨by rfl,fun w' hSw=>by obtain⟨_,hc0,hc2,hc7,hcm⟩:=hSw;go_simp⟩);simp only [rwA]
 refine rwT 14 (.bool true) hHeld ?_;simp only [rwA]
 refine rwT 15 (.bool true) hHeld ?_;simp only [rwA]
 refine rwT 16 (.bool true) hHeld ?_;simp only [rwA]
 refine rwT 17 (.pointer (some ⟨q,7,none⟩)) hHeld ?_;simp only [rwA]
 refine rwT 18 (.pointer (some ⟨q,7,none⟩)) hHeld ?_;simp only [rwA]
 refine rwY 19 (.int .i64 p.code) hHeld ?_ (hy:=Or.inl ⟨by rfl,fun w' hSw=>by obtain⟨_,hc0,hc2,hc7,hcm⟩:=hSw;go_simp⟩);simp only [rwA]
 refine rwT 20 (.bool true) hHeld ?_;simp only [rwA]
 refine rwT 21 (.bool true) hHeld ?_;simp only [rwA]
 refine rwT 22 (.bool true) hHeld ?_;simp only [rwA]
 refine rwT 23 (.pointer (some ⟨q,7,none⟩)) hHeld ?_;simp only [rwA]
 refine rwT 24 (.pointer (some ⟨q,7,none⟩)) hHeld ?_;simp only [rwA]
 refine rwY 25 (.int .i64 p.code) hHeld ?_ (hy:=Or.inl ⟨by rfl,fun w' hSw=>by obtain⟨_,hc0,hc2,hc7,hcm⟩:=hSw;go_simp⟩);simp only [rwA]
 refine rwT 26 (.bool true) hHeld ?_;simp only [rwA]
 refine rwT 27 (.bool true) hHeld ?_;simp only [rwA]
 refine rwT 28 (.bool true) hHeld ?_;simp only [rwA]
 refine wpAnyH_done (by kernel_rfl) ?_ _
 clear hHeld
 go_wp2
 go_ret
 exact⟨rfl,dw⟩
end
end Go.Proofs.YtmelaiefbpdifaaGreatDoor.Srv
