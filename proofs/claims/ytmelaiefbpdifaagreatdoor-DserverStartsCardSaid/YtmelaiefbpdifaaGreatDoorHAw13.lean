/- ask, alive. -/
import Derived.Test.YtmelaiefbpdifaaGreatDoorHL1
namespace Go.Proofs.YtmelaiefbpdifaaGreatDoor.Srv
open Go.RowKit Go.Maps
open Pgs (Pg)
theorem acW:al1.Ok∧al2.Ok∧al3.Ok∧al4.Ok:=by
 refine⟨?_,?_,?_,?_⟩<;>constructor<;>first | (show U _;unfold U;decide) | (show I _;unfold I;decide)
set_option maxRecDepth 100000 in
set_option maxHeartbeats 2000000 in
theorem Hw(w:World)(fr sq bo:Int)(o:Pk):
  Calls Tryz.prog 31 #[.int .i64 fr,.int .u32 sq,.int .u32 bo,opV o] w fun e w'=>e = .returned (pkV (aac fr sq bo o))∧Only [] w w':=by
 have b0:Blk ((w.alloc (.cells (opL o).toArray 51)).alloc (.cells pz 53)) w.heap.size 51 (opL o).toArray:=(Blk.new w _ _).alloc _
 have z1:Blk ((w.alloc (.cells (opL o).toArray 51)).alloc (.cells pz 53)) (w.heap.size+1) 53 (pkA zPk):=by
  have:=Blk.new (w.alloc (.cells (opL o).toArray 51)) 53 pz
  rwa [show (w.alloc (.cells (opL o).toArray 51)).heap.size=w.heap.size+1 by simp] at this
 have k1:Only [] w ((w.alloc (.cells (opL o).toArray 51)).alloc (.cells pz 53)):=((Only.refl [] w).alloc _).alloc _
 unfold aac
 obtain⟨x0,x1,x2,x3,x4,x5,x6,x7,x8,x9,x10,x11,x12,x13,x14,x15,x16,x17,x18,x19⟩:=o
 go_enter Tryz.func31,Tryz.ntmps31
 go_wp2_with (first
  | (refine bJ ⟨x0,x1,x2,x3,x4,x5,x6,x7,x8,x9,x10,x11,x12,x13,x14,x15,x16,x17,x18,x19⟩ rfl (.tmp 7) rfl w.heap.size rfl b0 ?_)
  | (refine aN ⟨1,fr,1,1,sq,bo,0,x7,x8,x9,x10,x11,x12,x13,x14,x15,x16,x17,x18,x19⟩ zPk rfl (.tmp 8) (.tmp 13) rfl (w.heap.size+1) rfl rfl z1 ?_;intro w2 b2 k2))
 refine bodyPost_ret (v:=pkV ⟨1,fr,1,1,sq,bo,0,x7,x8,x9,x10,x11,x12,x13,x14,x15,x16,x17,x18,x19⟩) (pR rfl _ _ (w.heap.size+1) rfl (pkA _).toList _ b2 Tryz.underlying53 rfl kH) rfl ?_
 exact⟨rfl,k1.then k2 (fun i hi=>.inr (by simp at hi;omega))⟩
theorem Aa(w:World):Blk (w.alloc (.cells pz 53)) w.heap.size 53 (pkA zPk):=Blk.new w _ _
theorem SG{R R':List Nat}{g m:Nat}(hg:g∉R)(hR:∀ j∈R',j∈R∨m≤j)(h:g<m):g∉R':=fun hm=>by
 rcases hR g hm with h' | h'
 ·exact hg h'
 ·omega
set_option maxRecDepth 100000 in
set_option maxHeartbeats 8000000 in
theorem alive_any(w:World):Calls Tryz.prog 9 #[] w fun e w'=>e = .returned (.bool true)∧Only [] w w':=by
 obtain⟨o1,o2,o3,o4⟩:=acW
 have hnew:=Ei w w 140 (by decide) (by decide) (Only.refl _ _)
 replace hnew:=Lib.hid hnew
 go_enter Tryz.func9,Tryz.ntmps9
 go_wp2_with fail
 refine hnew.out.mono ?_;rintro e w1 ⟨dp,F,rfl,hd1,_,_⟩
 clear hnew
 go_wp2_with fail
 refine (xH.aai (N:=99) hd1 (by decide) (by decide) 1 ⟨by decide,by decide⟩).mono ?_
 rintro e w2 ⟨sb,R0,M0,rfl,hl0,_,_,hG,hM⟩
 have hbt:=hl0.jC
 change Calls _ _ _ w2 fun e w'=>e = .returned (.int .u32 1)∧w'=w2 at hbt
 clear hd1
 replace hG:=Lib.hid hG
 replace hM:=Lib.hid hM
 go_wp2_with fail
 refine hbt.mono ?_;rintro e w3 ⟨rfl,rfl⟩
 clear hbt
 go_wp2_with fail
 refine (Hw _ 0 1 1 (opP 4 7 1 0 0 1024 ⟨#[]⟩)).mono ?_;rintro e s1 ⟨rfl,ks1⟩
 have hk1:=hl0.keep ks1
 go_wp2_with fail
 refine (hk1.handle (by decide) al1 o1).mono ?_;rintro e t1 ⟨r1,ok1,σ1,R1,rfl,h1,hl1,kt1,hR1⟩
 have z1:=Aa t1
 have kz1:Only [] t1 (t1.alloc (.cells pz 53)):=(Only.refl [] t1).alloc _
 have adz:∀ j∈R1,j<t1.heap.size:=fun j hj=>(hl1.new j hj).2
 go_wp2_with (refine aN r1 zPk rfl (.tmp 3) (.tmp 32) rfl t1.heap.size rfl rfl z1 ?_;intro u1 b1 ku1)
 replace hl1:=hl1.keep (kz1.then ku1 (fun j hj=>.inr (by simp at hj;omega)))
 have c1:=b1.cell 8
 simp only [List.getElem?_toArray,List.getElem?_cons_zero,List.getElem?_cons_succ] at c1
 have acz:t1.heap.size<u1.heap.size:=b1.lt
 obtain⟨g1,hg1⟩:∃ g,g=t1.heap.size:=⟨_,rfl⟩
 rw [←hg1] at c1 acz
 have g1R:g1∉R1:=fun hm=>by have:=adz _ hm;omega
 have g1t:=Lib.hid acz
 simp only [←hg1]
 replace hg1:=Lib.hid hg1
 replace h1:=Lib.hid h1
 clear b1 z1 kz1 ku1 kt1 ks1 hk1 hR1 adz acz  hl0
 go_wp2_with fail
 refine (Hw _ 17 1 1 (opP 1 7 2 0 0 0 ⟨#[120]⟩)).mono ?_;rintro e s2 ⟨rfl,ks2⟩
 have hk2:=hl1.keep ks2
 go_wp2_with fail
 refine (hk2.handle (by decide) al2 o2).mono ?_;rintro e t2 ⟨r2,ok2,σ2,R2,rfl,h2,hl2,kt2,hR2⟩
 have z2:=Aa t2
 have kz2:Only [] t2 (t2.alloc (.cells pz 53)):=(Only.refl [] t2).alloc _
 have acf:∀ j∈R2,j<t2.heap.size:=fun j hj=>(hl2.new j hj).2
 have hq12:¬g1=t2.heap.size:=by have:=g1t.out;have:=ks2.size;have:=kt2.size;omega
 replace c1:=(kz2.cell (kt2.cell (ks2.cell c1 (by simp)) g1R) (by simp))
 go_wp2_with (refine aN r2 zPk rfl (.tmp 5) (.tmp 39) rfl t2.heap.size rfl rfl z2 ?_;intro u2 b2 ku2)
 replace hl2:=hl2.keep (kz2.then ku2 (fun j hj=>.inr (by simp at hj;omega)))
 have c2:=b2.cell 8
 simp only [List.getElem?_toArray,List.getElem?_cons_zero,List.getElem?_cons_succ] at c2
 have acy:t2.heap.size<u2.heap.size:=b2.lt
 replace c1:=ku2.cell c1 (by simp;exact hq12)
 replace g1R:g1∉R2:=SG g1R hR2 (by have:=g1t.out;have:=ks2.size;omega)
 replace g1t:=Lib.hid (show g1<u2.heap.size by have:=g1t.out;have:=ks2.size;have:=kt2.size;omega)
 obtain⟨g2,hg2⟩:∃ g,g=t2.heap.size:=⟨_,rfl⟩
 rw [←hg2] at c2 acy
 have g2R:g2∉R2:=fun hm=>by have:=acf _ hm;omega
 have g2t:=Lib.hid acy
 simp only [←hg2]
 replace hg2:=Lib.hid hg2
 replace h2:=Lib.hid h2
 clear b2 z2 kz2 ku2 kt2 ks2 hk2 hR2 acf acy hq12 hl1
 go_wp2_with fail
 refine (Hw _ 17 2 1 (opP 1 7 1 3 0 0 ⟨#[97,98,99]⟩)).mono ?_;rintro e s3 ⟨rfl,ks3⟩
 have hk3:=hl2.keep ks3
 go_wp2_with fail
 refine (hk3.handle (by decide) al3 o3).mono ?_;rintro e t3 ⟨r3,ok3,σ3,R3,rfl,h3,hl3,kt3,hR3⟩
 have z3:=Aa t3
 have kz3:Only [] t3 (t3.alloc (.cells pz 53)):=(Only.refl [] t3).alloc _
 have ady:∀ j∈R3,j<t3.heap.size:=fun j hj=>(hl3.new j hj).2
 have adt:¬g1=t3.heap.size:=by have:=g1t.out;have:=ks3.size;have:=kt3.size;omega
 replace c1:=(kz3.cell (kt3.cell (ks3.cell c1 (by simp)) g1R) (by simp))
 have ads:¬g2=t3.heap.size:=by have:=g2t.out;have:=ks3.size;have:=kt3.size;omega
 replace c2:=(kz3.cell (kt3.cell (ks3.cell c2 (by simp)) g2R) (by simp))
 go_wp2_with (refine aN r3 zPk rfl (.tmp 7) (.tmp 46) rfl t3.heap.size rfl rfl z3 ?_;intro u3 b3 ku3)
 replace hl3:=hl3.keep (kz3.then ku3 (fun j hj=>.inr (by simp at hj;omega)))
 have c3:=b3.cell 8
 simp only [List.getElem?_toArray,List.getElem?_cons_zero,List.getElem?_cons_succ] at c3
 have acw:t3.heap.size<u3.heap.size:=b3.lt
 replace c1:=ku3.cell c1 (by simp;exact adt)
 replace g1R:g1∉R3:=SG g1R hR3 (by have:=g1t.out;have:=ks3.size;omega)
 replace g1t:=Lib.hid (show g1<u3.heap.size by have:=g1t.out;have:=ks3.size;have:=kt3.size;omega)
 replace c2:=ku3.cell c2 (by simp;exact ads)
 replace g2R:g2∉R3:=SG g2R hR3 (by have:=g2t.out;have:=ks3.size;omega)
 replace g2t:=Lib.hid (show g2<u3.heap.size by have:=g2t.out;have:=ks3.size;have:=kt3.size;omega)
 obtain⟨g3,hg3⟩:∃ g,g=t3.heap.size:=⟨_,rfl⟩
 rw [←hg3] at c3 acw
 have g3R:g3∉R3:=fun hm=>by have:=ady _ hm;omega
 have g3t:=Lib.hid acw
 simp only [←hg3]
 replace hg3:=Lib.hid hg3
 replace h3:=Lib.hid h3
 clear b3 z3 kz3 ku3 kt3 ks3 hk3 hR3 ady acw adt ads hl2
 go_wp2_with fail
 refine (Hw _ 17 3 1 (opP 2 7 1 2 5 0 ⟨#[]⟩)).mono ?_;rintro e s4 ⟨rfl,ks4⟩
 have hk4:=hl3.keep ks4
 go_wp2_with fail
 refine (hk4.handle (by decide) al4 o4).mono ?_;rintro e t4 ⟨r4,ok4,σ4,R4,rfl,h4,hl4,kt4,hR4⟩
 have z4:=Aa t4
 have kz4:Only [] t4 (t4.alloc (.cells pz 53)):=(Only.refl [] t4).alloc _
 have afk:∀ j∈R4,j<t4.heap.size:=fun j hj=>(hl4.new j hj).2
 have aev:¬g1=t4.heap.size:=by have:=g1t.out;have:=ks4.size;have:=kt4.size;omega
 replace c1:=(kz4.cell (kt4.cell (ks4.cell c1 (by simp)) g1R) (by simp))
 have aeu:¬g2=t4.heap.size:=by have:=g2t.out;have:=ks4.size;have:=kt4.size;omega
 replace c2:=(kz4.cell (kt4.cell (ks4.cell c2 (by simp)) g2R) (by simp))
 have aes:¬g3=t4.heap.size:=by have:=g3t.out;have:=ks4.size;have:=kt4.size;omega
 replace c3:=(kz4.cell (kt4.cell (ks4.cell c3 (by simp)) g3R) (by simp))
 obtain⟨⟨rfl,hr1⟩,⟨rfl,hr2⟩,⟨rfl,hr3⟩,⟨rfl,hr4⟩,hs7,aew,adP⟩:=Qz hG.out hM.out h1.out h2.out h3.out h4
 rw [hr1] at c1
 rw [hr2] at c2
 rw [hr3] at c3
 have uX:=fun W (k:Only [] t4 W)=>(hl4.keep k).sure 7 7 rfl (by decide)
 have zL:=fun W (k:Only [] t4 W)=>(hl4.keep k).object 7 7 rfl (by decide)
 have aaV:=fun W (k:Only [] t4 W)=>(hl4.keep k).epoch 7 (by unfold U;decide)
 change ∀ W,Only [] t4 W→Calls _ _ _ W fun e w'=>e = .returned (.int .u32 (epN σ4.M 7:Int))∧Only [] W w' at aaV
 rw [adP] at aaV
 have aek:(dU σ4.M 7).length=0:=by rw [hs7];rfl
 generalize dU σ4.M 7=so at *
 generalize vM σ4 7=oo at *
 replace hr4:=Lib.hid hr4
 clear hr1 hr2 hr3 hG hM h1 h2 h3 h4 adP hs7
 replace uX:=Lib.hid uX
 replace zL:=Lib.hid zL
 replace aaV:=Lib.hid aaV
 go_wp2_with ((refine aN r4 zPk rfl (.tmp 9) (.tmp 53) rfl t4.heap.size rfl rfl z4 ?_;intro u4 b4 ku4;have y1:=ku4.cell c1 (by simp;exact aev);have y2:=ku4.cell c2 (by simp;exact aeu);have y3:=ku4.cell c3 (by simp;exact aes);have y4:u4.cell? ⟨t4.heap.size,19,none⟩=some (.string ⟨#[0,97,98,99,0]⟩):=(b4.cell 19).trans (by rw [←hr4.out];rfl)))
 have abl:Only [] t4 u4:=kz4.then ku4 (fun j hj=>.inr (by simp at hj;omega))
 have kw:=hl4.only.trans abl
 clear c1 c2 c3 z4 b4 kt4 kz4 ku4
 refine (uX.out _ abl).mono ?_;rintro e v1 ⟨v,rfl,A,ka,rfl,_,_,kv1,_⟩
 rw [aek]
 go_wp2_with fail
 refine (zL.out _ (abl.trans kv1)).mono ?_;rintro e v2 ⟨v,rfl,B,kb,rfl,_,_,kv2,_⟩
 rw [aew]
 have abR:=kv1.trans kv2
 go_wp2_with fail
 refine (aaV.out _ (abl.trans abR)).mono ?_;rintro e v3 ⟨rfl,kv3⟩
 have dw:=(kw.trans abR).trans kv3
 clear kv1 kv2 abR kv3 kw
 go_wp2
 go_ret
 exact⟨rfl,dw⟩
end Go.Proofs.YtmelaiefbpdifaaGreatDoor.Srv
