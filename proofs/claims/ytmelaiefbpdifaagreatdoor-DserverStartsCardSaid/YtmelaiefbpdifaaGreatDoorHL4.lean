/- Joined: Sg13, Sh13 -/
import Derived.Test.YtmelaiefbpdifaaGreatDoorHL3
import Derived.Test.YtmelaiefbpdifaaGreatDoorHL1
namespace Go.Proofs.YtmelaiefbpdifaaGreatDoor.Srv
open Go.RowKit Go.Maps
set_option maxRecDepth 100000
theorem VI(w:World):Calls Tryz.prog 17 #[.pointer none,.pointer none] w fun e w'=>e = .returned (.bool true)∧Only [] w w':=by
 go_enter Tryz.func17,Tryz.ntmps17
 go_wp2_with fail
 refine (XI _).mono ?_;rintro e w1 ⟨rfl,rfl⟩
 go_wp2_with fail
 refine (X0 _).mono ?_;rintro e w2 ⟨rfl,rfl⟩
 go_wp2_with fail
 refine (VO _).mono ?_;rintro e w3 ⟨rfl,rfl⟩
 go_wp2_with fail
 refine (UA _ _).mono ?_;rintro e w4 ⟨rfl,rfl⟩
 go_wp2_with fail
 refine (PI _ _).mono ?_;rintro e w5 ⟨rfl,rfl⟩
 go_wp2_with fail
 refine (Vy _ _).mono ?_;rintro e w6 ⟨rfl,rfl⟩
 go_wp2_with fail
 go_ret
 exact⟨rfl,Only.refl [] _⟩
section
open Pgs (Pg pgE)
theorem Rz(w:World)(A B:Option Addr)(c d n m:Nat)(L:List Pg)(hn:n=L.length)(hm:m=L.length)(hA:Els pgE 2 w A L)(hB:Els pgE 2 w B L)(hl:L.length≤32):
  Calls Tryz.prog 24 #[.slice A n c,.slice B m d] w fun e w'=>e = .returned (.bool true)∧Only [] w w':=by
 refine (Pgs.VJ w A B c d _ _ L L hn hm hA hB (by omega)).mono ?_
 rintro e w1 ⟨⟨r,rfl,hr⟩,k,rfl⟩
 exact⟨by rw [hr.2 rfl],(Only.refl [] w).drewN k⟩
set_option maxHeartbeats 8000000 in
theorem VH(w:World)(sb xb:Nat)(b:Int)(rm:Int)(E:Nat→Nat)(O S:Nat→List Pg)
  (hO:∀ y,(O y).length≤32) (hS:∀ y,(S y).length≤32)
  (hb:∀ W,Only [] w W→Calls Tryz.prog 21 #[.pointer (some ⟨sb,0,none⟩)] W fun e w'=>e = .returned (.int .u32 b)∧w'=W)
  (hd:∀ W,Only [] w W→Calls Tryz.prog 30 #[.pointer (some ⟨sb,0,none⟩)] W fun e w'=>e = .returned (.bool false)∧w'=W)
  (hr:∀ W,Only [] w W→Calls Tryz.prog 28 #[.pointer (some ⟨sb,0,none⟩)] W fun e w'=>e = .returned (.int .i64 rm)∧Only [] W w')
  (hr':∀ W,Only [] w W→Calls Tryz.prog 53 #[.pointer (some ⟨xb,0,none⟩)] W fun e w'=>e = .returned (.int .i64 rm)∧Only [] W w')
  (he:∀ W,Only [] w W→∀ y:Nat,y<5→Calls Tryz.prog 18 #[.pointer (some ⟨sb,0,none⟩),.int .u32 (y:Int)] W fun e w'=>e = .returned (.int .u32 (E y:Int))∧Only [] W w')
  (he':∀ W,Only [] w W→∀ y:Nat,y<5→Calls Tryz.prog 54 #[.pointer (some ⟨xb,0,none⟩),.int .u32 (y:Int)] W fun e w'=>e = .returned (.int .u32 (E y:Int))∧Only [] W w')
  (ho:∀ W,Only [] w W→∀ y:Nat,y<5→Calls Tryz.prog 19 #[.pointer (some ⟨sb,0,none⟩),.int .u32 (y:Int)] W fun e w'=>∃ v,e = .returned v∧fV pgE 2 W w' v (O y))
  (ho':∀ W,Only [] w W→∀ y:Nat,y<5→Calls Tryz.prog 55 #[.pointer (some ⟨xb,0,none⟩),.int .u32 (y:Int)] W fun e w'=>∃ v,e = .returned v∧fV pgE 2 W w' v (O y))
  (hs:∀ W,Only [] w W→∀ y:Nat,y<5→Calls Tryz.prog 27 #[.pointer (some ⟨sb,0,none⟩),.int .u32 (y:Int)] W fun e w'=>∃ v,e = .returned v∧fV pgE 2 W w' v (S y))
  (hs':∀ W,Only [] w W→∀ y:Nat,y<5→Calls Tryz.prog 56 #[.pointer (some ⟨xb,0,none⟩),.int .u32 (y:Int)] W fun e w'=>∃ v,e = .returned v∧fV pgE 2 W w' v (S y))
  (c1:w.cell? ⟨xb,1,none⟩=some (.int .u32 b)) (c6:w.cell? ⟨xb,6,none⟩=some (.bool false)):
  Calls Tryz.prog 17 #[.pointer (some ⟨sb,0,none⟩),.pointer (some ⟨xb,0,none⟩)] w fun e w'=>e = .returned (.bool true)∧Only [] w w':=by
 replace hb:=Lib.hid hb
 replace hd:=Lib.hid hd
 replace hr:=Lib.hid hr
 replace hr':=Lib.hid hr'
 replace he:=Lib.hid he
 replace he':=Lib.hid he'
 replace ho:=Lib.hid ho
 replace ho':=Lib.hid ho'
 replace hs:=Lib.hid hs
 replace hs':=Lib.hid hs'
 replace hO:=Lib.hid hO
 replace hS:=Lib.hid hS
 go_enter Tryz.func17,Tryz.ntmps17
 go_wp2_with fail
 have kd:Only [] w w.drew:=(Only.refl [] w).drew
 have z1:=kd.cell c1 (by simp)
 have z6:=kd.cell c6 (by simp)
 refine wp_region_held_drew (S:=fun w'=>w'.cell? ⟨xb,1,none⟩=some (.int .u32 b)∧w'.cell? ⟨xb,6,none⟩=some (.bool false)) (by kernel_rfl) ⟨z1,z6⟩ (fun hHeld=> ?_)
 clear z1 z6
 generalize w.drew=wd at *
 refine rwT 0 (.pointer (some ⟨sb,0,none⟩)) hHeld ?_;simp only [rwA]
 refine rwT 2 (.pointer (some ⟨xb,0,none⟩)) hHeld ?_;simp only [rwA]
 refine rwT 3 (.pointer (some ⟨xb,0,none⟩)) hHeld ?_;simp only [rwA]
 refine rwT 4 (.pointer (some ⟨xb,1,none⟩)) hHeld ?_;simp only [rwA]
 refine rwY 5 (.int .u32 b) hHeld ?_ (hy:=Or.inl ⟨by rfl,fun w' hSw=>by obtain⟨hc,_⟩:=hSw;go_simp⟩);simp only [rwA]
 refine ah 1 rfl (by kernel_rfl) (fun K hK=> ?_)
 go_simp
 refine (hb.out _ kd).mono ?_;rintro e v1 ⟨rfl,rfl⟩
 go_wp2_with fail
 refine hK.out _ _ ⟨kd.cell c1 (by simp),kd.cell c6 (by simp)⟩ (fun hHeld=> ?_)
 clear hK K
 refine rwT 6 (.bool false) hHeld ?_;simp only [rwA]
 refine rwT 7 (.bool false) hHeld ?_;simp only [rwA]
 refine rwT 8 (.pointer (some ⟨sb,0,none⟩)) hHeld ?_;simp only [rwA]
 refine rwT 10 (.pointer (some ⟨xb,0,none⟩)) hHeld ?_;simp only [rwA]
 refine rwT 11 (.pointer (some ⟨xb,0,none⟩)) hHeld ?_;simp only [rwA]
 refine rwT 12 (.pointer (some ⟨xb,6,none⟩)) hHeld ?_;simp only [rwA]
 refine rwY 13 (.bool false) hHeld ?_ (hy:=Or.inl ⟨by rfl,fun w' hSw=>by obtain⟨_,hc⟩:=hSw;go_simp⟩);simp only [rwA]
 refine ah 9 rfl (by kernel_rfl) (fun K hK=> ?_)
 go_simp
 refine (hd.out _ kd).mono ?_;rintro e v2 ⟨rfl,rfl⟩
 go_wp2_with fail
 refine hK.out _ _ ⟨kd.cell c1 (by simp),kd.cell c6 (by simp)⟩ (fun hHeld=> ?_)
 clear hK K
 refine rwT 14 (.bool false) hHeld ?_;simp only [rwA]
 refine rwT 15 (.bool false) hHeld ?_;simp only [rwA]
 refine rwT 16 (.bool false) hHeld ?_;simp only [rwA]
 refine rwT 17 (.pointer (some ⟨sb,0,none⟩)) hHeld ?_;simp only [rwA]
 refine rwT 19 (.pointer (some ⟨xb,0,none⟩)) hHeld ?_;simp only [rwA]
 refine ah 18 rfl (by kernel_rfl) (fun K hK=> ?_)
 go_simp
 refine (hr.out _ kd).mono ?_;rintro e v3 ⟨rfl,k3⟩
 have q3:=kd.trans k3
 go_wp2_with fail
 refine hK.out _ _ ⟨q3.cell c1 (by simp),q3.cell c6 (by simp)⟩ (fun hHeld=> ?_)
 clear hK K
 refine ah 20 rfl (by kernel_rfl) (fun K hK=> ?_)
 go_simp
 refine (hr'.out _ q3).mono ?_;rintro e v4 ⟨rfl,k4⟩
 have q4:=q3.trans k4
 go_wp2_with fail
 refine hK.out _ _ ⟨q4.cell c1 (by simp),q4.cell c6 (by simp)⟩ (fun hHeld=> ?_)
 clear hK K
 refine rwT 21 (.bool false) hHeld ?_;simp only [rwA]
 refine rwT 22 (.bool false) hHeld ?_;simp only [rwA]
 refine wpAnyH_done (by kernel_rfl) ?_ _
 clear hHeld
 clear hb hd hr hr' c1 c6
 go_wp2_with fail
 go_loopw [5] (fun i wx=>∃ y:Nat,y≤5∧i = .int .u32 y∧Only [] w wx) (fun i _=>5-(intOf i).toNat)
 case atStart=>exact⟨0,by omega,rfl,q4⟩
 case round=>
  obtain⟨y,hy,rfl,kx⟩:=hrel
  by_cases hlt:y<5
  case neg=>
   obtain rfl:y=5:=by omega
   go_wp2_with fail
   go_ret
   exact⟨rfl,kx⟩
  have e1:=fun W kk=>he.out W kk y hlt
  have e2:=fun W kk=>he'.out W kk y hlt
  have o1:=fun W kk=>ho.out W kk y hlt
  have o2:=fun W kk=>ho'.out W kk y hlt
  have s1:=fun W kk=>hs.out W kk y hlt
  have s2:=fun W kk=>hs'.out W kk y hlt
  have lo:=hO.out y
  have ls:=hS.out y
  generalize E y=ey at *
  generalize O y=oy at *
  generalize S y=sy at *
  replace e1:=Lib.hid e1
  replace e2:=Lib.hid e2
  replace o1:=Lib.hid o1
  replace o2:=Lib.hid o2
  replace s1:=Lib.hid s1
  replace s2:=Lib.hid s2
  go_wp2_with fail
  refine (e1.out _ kx).mono ?_;rintro e w1 ⟨rfl,k1⟩
  have x1:=kx.trans k1
  go_wp2_with fail
  refine (e2.out _ x1).mono ?_;rintro e w2 ⟨rfl,k2⟩
  have x2:=x1.trans k2
  go_wp2_with fail
  refine (o1.out _ x2).mono ?_;rintro e w3 ⟨v,rfl,A,ca,rfl,_,hA,k3',_⟩
  have x3:=x2.trans k3'
  go_wp2_with fail
  refine (o2.out _ x3).mono ?_;rintro e w4 ⟨v,rfl,B,cb,rfl,_,hB,k4',_⟩
  have x4:=x3.trans k4'
  have hA':=hA.kept k4' (by simp)
  have hsm:=Rz w4 A B ca cb _ _ oy rfl rfl hA' hB lo
  clear hA hB hA'
  go_wp2_with fail
  refine hsm.mono ?_;rintro e w5 ⟨rfl,k5⟩
  have x5:=x4.trans k5
  clear hsm
  go_wp2_with fail
  refine (s1.out _ x5).mono ?_;rintro e w6 ⟨v,rfl,A1,ca1,rfl,_,hA,k6,_⟩
  have x6:=x5.trans k6
  go_wp2_with fail
  refine (s2.out _ x6).mono ?_;rintro e w7 ⟨v,rfl,B1,cb1,rfl,_,hB,k7,_⟩
  have x7:=x6.trans k7
  have hA':=hA.kept k7 (by simp)
  have hsm:=Rz w7 A1 B1 ca1 cb1 _ _ sy rfl rfl hA' hB ls
  clear hA hB hA'
  go_wp2_with fail
  refine hsm.mono ?_;rintro e w8 ⟨rfl,k8⟩
  have x8:=x7.trans k8
  clear hsm
  go_wp2_with fail
  go_roundw
  case rel=>exact⟨y+1,by omega,by go_num,x8⟩
  case measure=>simp [intOf];omega
end
end Go.Proofs.YtmelaiefbpdifaaGreatDoor.Srv
namespace Go.Proofs.YtmelaiefbpdifaaGreatDoor.Srv
open Go.RowKit Go.Maps
theorem Ref.lay{w:World}{p:Nat}{G:List Nat}{s:St}(h:Ref w p G s){k:Nat}(hk:k<s.aA.length)(b:List UInt8)(hb:b.length=256):
  ∃ gf cf,w.cell? ⟨p,0,none⟩=some (.slice (some ⟨gf,0,none⟩) s.aA.length cf)∧(∃ u,w.cell? ⟨gf,k,none⟩=some u)∧w.frozen? ⟨gf,k,none⟩=false∧gf<w.heap.size∧gf∈G∧Ref (w.setCell ⟨gf,k,none⟩ (.string (strOf b))) p G { s with aA:=s.aA.set k b }:=by
 obtain⟨vf,vl,hb1,of,ol,⟨n1,n2,n3⟩,⟨g1,g2,g3⟩,fine⟩:=h
 have c0:=(hb1.cell 0).trans rfl
 rcases id of.2 with⟨rfl,h0⟩ | ⟨gf,cf,cur,rfl,hcb,hg,r⟩
 ·have:=of.1
  omega
 have ks:Only [gf] w (w.setCell ⟨gf,k,none⟩ (.string (strOf b))):=Only.set w [gf] (by simp) _
 have hl:k<(strCells s.aA).length:=by rw [vU];exact hk
 refine⟨gf,cf,c0,⟨(strCells s.aA)[k],?_⟩,nC of k,(of.lt gf rfl).2,g2 gf rfl,.slice (some ⟨gf,0,none⟩) s.aA.length cf,vl,hb1.kept ks (by simpa using fun e=>n1 (by rw [←e];rfl)),?_,ay ol ks (fun i hi=>by simp;rintro rfl;exact n3 _ rfl hi),⟨n1,n2,n3⟩,⟨g1,g2,g3⟩,?_⟩
 ·have:=of.cells rfl k _ (List.getElem?_eq_getElem hl)
  rwa [addr_add,Nat.zero_add] at this
 ·have:=uQ (i:=k) of (.string (strOf b))
  rw [yO] at this
  simpa using this
 ·refine⟨by simpa using fine.pos,by simpa using fine.few,fun x hx=> ?_,fun x hx=>by simpa using fine.late x hx,fine.lo,fine.hi⟩
  rcases List.mem_or_eq_of_mem_set hx with hx | rfl
  ·exact fine.aA x hx
  ·exact hb
end Go.Proofs.YtmelaiefbpdifaaGreatDoor.Srv
