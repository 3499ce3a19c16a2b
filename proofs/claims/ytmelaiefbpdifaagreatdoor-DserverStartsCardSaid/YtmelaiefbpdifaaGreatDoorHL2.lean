/- Joined: Sa13, Sb13, Sc13 -/
import Derived.Test.YtmelaiefbpdifaaGreatDoorHK4
import Derived.Test.YtmelaiefbpdifaaGreatDoorHK5
import Derived.Test.YtmelaiefbpdifaaGreatDoorHRload7
import Derived.Test.YtmelaiefbpdifaaGreatDoorHL1
import Derived.Test.YtmelaiefbpdifaaGreatDoorHL0
namespace Go.Proofs.YtmelaiefbpdifaaGreatDoor.Srv
open Go.RowKit Go.Maps
def rP(s:List UInt8):Nat:=if s.length=4 then numOf s else 0
theorem ad8(v:List UInt8)(h:v.length=4):∃ a b c d:UInt8,v = [a,b,c,d]:=by
 match v,h with
 | [a,b,c,d],_=>exact⟨a,b,c,d,rfl⟩
theorem PL(a b c d:UInt8):numOf [a,b,c,d]=a.toNat*16777216+b.toNat*65536+c.toNat*256+d.toNat:=by
 unfold numOf bP
 rfl
set_option maxRecDepth 100000 in
set_option maxHeartbeats 2000000 in
theorem AP(w:World)(s:List UInt8)(h:s.length≤1048576):
  Calls Tryz.prog 104 #[.string (strOf s)] w fun e w'=>e = .returned (.tuple #[.int .u32 (rP s:Int),.bool (decide (s.length=4))])∧∃ k,w'=w.drewN k:=by
 by_cases h4:s.length=4
 case neg=>
  have hl:(strOf s).size=s.length:=aj s
  have hne:((s.length:Int) != 4)=true:=by rw [bne_iff_ne];omega
  have he:rP s=0:=by unfold rP;rw [if_neg h4]
  rw [he,decide_eq_false h4]
  generalize strOf s=ss at *
  go_enter Tryz.func104,Tryz.ntmps104
  go_wp2
  go_ret2
  exact⟨rfl,0,rfl⟩
 obtain⟨a,b,c,d,rfl⟩:=ad8 s h4
 have he:rP [a,b,c,d]=a.toNat*16777216+b.toNat*65536+c.toNat*256+d.toNat:=by unfold rP;rw [if_pos h4,PL]
 rw [he,decide_eq_true h4]
 have hl:(strOf [a,b,c,d]).size=4:=rfl
 have hne:((4:Int) != 4)=false:=rfl
 have i0:=bQ (P:=Tryz.prog) 9 Tryz.underlying9 [a,b,c,d] 0 0 .i64 rfl (by simp)
 have i1:=bQ (P:=Tryz.prog) 9 Tryz.underlying9 [a,b,c,d] 1 1 .i64 rfl (by simp)
 have i2:=bQ (P:=Tryz.prog) 9 Tryz.underlying9 [a,b,c,d] 2 2 .i64 rfl (by simp)
 have i3:=bQ (P:=Tryz.prog) 9 Tryz.underlying9 [a,b,c,d] 3 3 .i64 rfl (by simp)
 simp only [List.getD_cons_zero,List.getD_cons_succ] at i0 i1 i2 i3
 have ha:=a.toNat_lt
 have hb:=b.toNat_lt
 have hc:=c.toNat_lt
 have hd:=d.toNat_lt
 generalize strOf [a,b,c,d]=ss at *
 go_enter Tryz.func104,Tryz.ntmps104
 go_wp2
 go_quiet (fail)
 go_wp2
 go_ret2
 have e:((a.toNat*16777216+b.toNat*65536+c.toNat*256+d.toNat:Nat):Int)=(a.toNat:Int)*16777216+(b.toNat:Int)*65536+(c.toNat:Int)*256+(d.toNat:Int):=by omega
 exact⟨by rw [e];rfl,_,rfl⟩
set_option maxRecDepth 100000 in
set_option maxHeartbeats 2000000 in
theorem yS(w:World)(A:Option Addr)(c:Nat)(M:List Rw)(hA:Els rwE 3 w A M)(hM:M.length≤100000):
  Calls Tryz.prog 106 #[.slice A M.length c] w fun e w'=>∃ v,e = .returned v∧fV chE 3 w w' v (M.map oU):=by
 obtain⟨m,hm⟩:∃ m,m=M.length:=⟨_,rfl⟩
 rw [←hm]
 have hmb:m≤100000:=by omega
 replace hm:=Lib.hid hm
 go_enter Tryz.func106,Tryz.ntmps106
 go_wp2_with fail
 go_loopw [3,4] (fun v i wr=>∃ n:Nat,n≤m∧i = .int .i64 n∧Mine chE 3 133 w wr v ((M.take n).map oU)) (fun _ i _=>m-(intOf i).toNat)
 case atStart=>exact⟨0,Nat.zero_le _,rfl,Mine.start _ _ _ (Only.refl _ _)⟩
 case round=>
  obtain⟨n,hn,rfl,aG⟩:=hrel
  by_cases hlt:n<m
  ·have hlM:n<M.length:=by have:=hm.out;omega
   obtain⟨g,o,rfl,hg,hat⟩:=hA.get hlM
   obtain⟨e0,e1,e2⟩:=wo (hat.kept aG.only (by simp)) hlM
   have hnext:(M.take (n+1)).map oU=(M.take n).map oU++[oU M[n]]:=by
    rw [List.take_add_one,List.getElem?_eq_getElem hlM,List.map_append]
    rfl
   have hlen:((M.take n).map oU).length=n:=by simp;omega
   generalize (M.take n).map oU=L at *
   generalize hL2:(M.take (n+1)).map oU=L2 at *
   generalize M[n]=x at *
   have hch:chE (oU x) = [.string (strOf x.key),.string (strOf x.val),.bool false]:=rfl
   generalize oU x=y at *
   generalize strOf x.key=ks at *
   generalize strOf x.val=vs at *
   replace hL2:=Lib.hid hL2
   replace hnext:=Lib.hid hnext
   replace hch:=Lib.hid hch
   clear hat e2
   go_wp2_with fail
   have hmd:=aG.keep (Only.refl [] wr).drew
   refine wp_region_held_drew (S:=fun w'=>w'.cell? ⟨g,o+n*3,none⟩=some (.string ks)∧w'.cell? ⟨g,o+n*3+1,none⟩=some (.string vs)) (by kernel_rfl) ⟨e0,e1⟩ (fun hHeld=> ?_)
   generalize wr.drew=wd at *
   refine rwT 0 (u3) hHeld ?_;simp only [rwA]
   refine rwT 1 (.slice (some ⟨g,o,none⟩) m c) hHeld ?_;simp only [rwA]
   refine rwT 2 (.int .i64 (n:Int)) hHeld ?_;simp only [rwA]
   refine rwT 3 (.pointer (some ⟨g,o+n*3,none⟩)) hHeld ?_;simp only [rwA]
   refine rwT 4 (.pointer (some ⟨g,o+n*3,none⟩)) hHeld ?_;simp only [rwA]
   refine rwY 5 (.string ks) hHeld ?_ (hy:=Or.inl ⟨by rfl,fun w' hSw=>by obtain⟨hc0,hc1⟩:=hSw;go_simp⟩);simp only [rwA]
   refine rwT 6 (.slice (some ⟨g,o,none⟩) m c) hHeld ?_;simp only [rwA]
   refine rwT 7 (.int .i64 (n:Int)) hHeld ?_;simp only [rwA]
   refine rwT 8 (.pointer (some ⟨g,o+n*3,none⟩)) hHeld ?_;simp only [rwA]
   refine rwT 9 (.pointer (some ⟨g,o+n*3+1,none⟩)) hHeld ?_;simp only [rwA]
   refine rwY 10 (.string vs) hHeld ?_ (hy:=Or.inl ⟨by rfl,fun w' hSw=>by obtain⟨hc0,hc1⟩:=hSw;go_simp⟩);simp only [rwA]
   refine ah 11 rfl (by kernel_rfl) (fun K hK=> ?_)
   go_simp
   go_wp2_with fail
   refine hK.out _ _ hHeld (fun hHeld=> ?_)
   clear hK K
   refine ah 12 rfl (by kernel_rfl) (fun K hK=> ?_)
   go_simp
   have k7:Only [] wd (wd.alloc (.cells #[.string ks,.string vs,.bool false] 133)):=(Only.refl [] wd).alloc _
   have hm7:=hmd.keep k7
   have b7:Blk (wd.alloc (.cells #[.string ks,.string vs,.bool false] 133)) wd.heap.size 133 (chE y).toArray:=by rw [hch.out];exact Blk.new wd _ _
   have r7:=And.intro (k7.cell hHeld.1 (by simp)) (k7.cell hHeld.2 (by simp))
   go_wp2_with fail
   refine hK.out _ _ r7 (fun hHeld=> ?_)
   clear hK K
   refine ah 13 rfl (by kernel_rfl) (fun K hK=> ?_)
   refine oz rfl _ _ 22 rfl 133 _ 40 eH (by decide) vw Tryz.underlying22 yh rfl u3 L.length L rfl hm7.own wd.heap.size y _ rfl b7 (by unfold maxLen;omega) (by omega) ?_
   intro vv w8 h8 g8 a8
   have hm8:=hm7.pushed h8 g8 a8
   have hgl:g<(wd.alloc (.cells #[.string ks,.string vs,.bool false] 133)).heap.size:=by have:=hmd.only.size;have:=k7.size;omega
   have adO:¬some g=u3.ownBlock:=fun e=>by have:=hm7.new g e.symm;omega
   have r8:=And.intro ((g8.cell_far ⟨g,o+n*3,none⟩ hgl adO).trans hHeld.1) ((g8.cell_far ⟨g,o+n*3+1,none⟩ hgl adO).trans hHeld.2)
   go_wp2_with fail
   refine hK.out _ _ r8 (fun hHeld=> ?_)
   clear hK K
   refine ah 14 rfl (by kernel_rfl) (fun K hK=> ?_)
   go_simp
   go_wp2_with fail
   refine hK.out _ _ r8 (fun hHeld=> ?_)
   clear hK K
   refine wpAnyH_done (by kernel_rfl) ?_ _
   clear hHeld
   rw [←hnext.out] at hm8
   replace hm8:=Lib.hid hm8
   clear hm7 b7 h8 g8 a8 r7 r8 k7
   go_wp2
   go_roundw
   case rel=>exact⟨n+1,by omega,by go_num,by rw [hL2.out];exact hm8.out⟩
   case measure=>simp [intOf];omega
  ·obtain rfl:n=m:=by omega
   have hln:M.take n=M:=List.take_of_length_le (by have:=hm.out;omega)
   rw [hln] at aG
   have hfin:=aG.els eH
   replace hfin:=Lib.hid hfin
   clear aG hln
   go_wp2
   go_ret
   exact⟨_,rfl,hfin.out⟩
end Go.Proofs.YtmelaiefbpdifaaGreatDoor.Srv
namespace Go.Proofs.YtmelaiefbpdifaaGreatDoor.Srv
open Go.RowKit Go.Maps
open Pgs (Pg pgE jm headB ldL mV)
def rowOk(M:List Rw)(r:Rw):Bool:=(!(r.key==bK) || decide (r.val.length=4)) && ((!(r.key.getD 0 0==69) || Kv (oU r)) && (!(r.key.getD 0 0==80) || qH M (oU r)))
def uj(M:List Rw)(b:Nat):Nat:=M.foldl (fun b r=>if r.key=bK then rP r.val else b) b
theorem FU{k:List UInt8}(c:UInt8)(h:1≤k.length):um [c] k=(k.getD 0 0==c):=by
 match k,h with
 | x :: t,_=>
  unfold um Lib.hasPrefix
  simp [List.isPrefixOf,Bool.beq_comm]
theorem imp_or(a b:Bool):((!a || b)=true)↔(a=true→b=true):=by cases a<;>cases b<;>simp
theorem AB{M:List Rw}{r:Rw}:rowOk M r=true↔(r.key=bK→r.val.length=4)∧(r.key.getD 0 0=69→Kv (oU r)=true)∧(r.key.getD 0 0=80→qH M (oU r)=true):=by
 unfold rowOk
 rw [Bool.and_eq_true,Bool.and_eq_true,imp_or,imp_or,imp_or,beq_iff_eq,beq_iff_eq,beq_iff_eq,decide_eq_true_eq]
theorem Aq{M:List Rw}(hS:Sorted M)(hk:∀ r∈M,1≤r.key.length):gI M=M.all (rowOk M):=by
 rw [Bool.eq_iff_iff]
 unfold gI LD
 simp only [Bool.and_eq_true,List.all_eq_true,AB]
 constructor
 ·rintro⟨h1,h2,h3⟩ r hr
  refine⟨fun e=> ?_,fun e=>h2 (oU r) (List.mem_map.2 ⟨r,List.mem_filter.2 ⟨hr,by rw [FU _ (hk r hr),e];rfl⟩,rfl⟩),fun e=>h3 (oU r) (List.mem_map.2 ⟨r,List.mem_filter.2 ⟨hr,by rw [FU _ (hk r hr),e];rfl⟩,rfl⟩)⟩
  have hf:=nM hS hr
  rw [e] at hf
  unfold kF at h1
  rw [hf] at h1
  simpa using h1
 ·intro h
  refine⟨?_,fun c hc=> ?_,fun c hc=> ?_⟩
  ·unfold kF
   cases hf:aK M bK with
   | none=>simp
   | some r=>
    obtain⟨hm,e⟩:=bC hf
    have:=(h r hm).1 e
    simp [this]
  ·obtain⟨r,hr,rfl⟩:=List.mem_map.1 hc
   obtain⟨hm,hp⟩:=List.mem_filter.1 hr
   rw [FU _ (hk r hm)] at hp
   exact (h r hm).2.1 (by simpa using hp)
  ·obtain⟨r,hr,rfl⟩:=List.mem_map.1 hc
   obtain⟨hm,hp⟩:=List.mem_filter.1 hr
   rw [FU _ (hk r hm)] at hp
   exact (h r hm).2.2 (by simpa using hp)
theorem Fa{b:Nat}:∀ {M:List Rw},(∀ r∈M,r.key≠bK)→uj M b=b
 | [],_=>rfl
 | r :: t,h=>by
  have:uj (r :: t) b=uj t (if r.key=bK then rP r.val else b):=rfl
  rw [this,if_neg (h r (by simp))]
  exact Fa fun x hx=>h x (by simp [hx])
theorem Fb{b:Nat}:∀ {M:List Rw},Sorted M→uj M b=match aK M bK with
  | some r=>rP r.val
  | none=>b
 | [],_=>rfl
 | r :: t,h=>by
  have e:uj (r :: t) b=uj t (if r.key=bK then rP r.val else b):=rfl
  obtain⟨h1,h2⟩:=List.pairwise_cons.1 h
  rw [e]
  by_cases hr:r.key=bK
  ·rw [if_pos hr,Fa fun x hx hk=>U7 (h1 x hx) (hr.trans hk.symm)]
   have:aK (r :: t) bK=some r:=by unfold aK;rw [List.find?_cons_of_pos (by simpa using hr)]
   rw [this]
  ·rw [if_neg hr,Fb h2]
   have:aK (r :: t) bK=aK t bK:=by unfold aK;rw [List.find?_cons_of_neg (by simpa using hr)]
   rw [this]
theorem Qv{M:List Rw}(hS:Sorted M)(h:gI M=true):uj M 0=eu M:=by
 rw [Fb hS]
 unfold eu kF
 unfold gI at h
 rw [Bool.and_eq_true] at h
 have h1:=h.1
 unfold kF at h1
 cases hf:aK M bK with
 | none=>rfl
 | some r=>
  rw [hf] at h1
  have h4:r.val.length=4:=by simpa using h1
  show rP r.val=numOf r.val
  unfold rP
  rw [if_pos h4]
theorem Qu(M:List Rw)(r:Rw)(b:Nat):uj (M++[r]) b=if r.key=bK then rP r.val else uj M b:=by
 unfold uj
 rw [List.foldl_append]
 rfl
theorem CU(M:List Rw)(x:Nat):(M.map oU).filter (Pgs.inU x)=aP M (headB x):=by
 unfold aP
 rw [List.filter_map]
 rfl
theorem Tc{P:Program}(t:TypeId)(ht:P.underlying t=some .string)(bs:List UInt8)(i j:Nat)(x y:Int)(k k':IntKind)(hx:x=i)(hy:y=j)(hij:i≤j)(h:j≤bs.length):
  ∀ W:World,(Instr.slice t (.string (strOf bs)) (some (.int k x)) (some (.int k' y)) none).run P W = .ok (.string (strOf ((bs.take j).drop i))) W:=by
 intro W
 subst hx
 subst hy
 have hs:=aj bs
 rw [run_slice_string _ t _ k k' i j ht (by omega) (by omega) (by omega)]
 congr 2
 show (ByteArray.mk bs.toArray).extract _ _=_
 rw [ByteArray.extract_mk,Int.toNat_natCast,Int.toNat_natCast]
 simp [strOf,List.drop_take]
set_option maxRecDepth 100000 in
set_option maxHeartbeats 4000000 in
theorem O9(w:World)(A:Option Addr)(c:Nat)(M:List Rw)(hA:Els rwE 3 w A M)(hS:Sorted M)(hM:M.length≤1024)(hsm:∀ r∈M,1≤r.key.length∧r.key.length≤16∧r.val.length≤200):
  Calls Tryz.prog 50 #[.slice A M.length c] w fun e w'=>e = .returned (.tuple #[.int .u32 (if gI M then (eu M:Int) else 0),.bool (gI M)])∧Only [] w w':=by
 have hrows:=Aq hS (fun r hr=>(hsm r hr).1)
 have Zv:=Qv hS
 have hbad:∀ r∈M,rowOk M r=false→gI M=false:=fun r hr h=>by rw [hrows];exact Gf hr h
 have P9:=fun W (k:Only [] w W)=>yS W A c M (hA.kept k (by simp)) (by omega)
 have hload:=fun W B d (h:Els chE 3 W B (M.map oU)) x (hx:x<4294967296)=>Pgs.IQ W B d (M.map oU) h (by simpa using hM) (fun e he=>by obtain⟨r,hr,rfl⟩:=List.mem_map.1 he;exact (hsm r hr).2.1) x hx
 obtain⟨m,hm⟩:∃ m,m=M.length:=⟨_,rfl⟩
 simp only [←hm] at P9
 rw [←hm]
 have hmb:m≤1024:=by omega
 generalize hres:gI M=res at *
 replace hm:=Lib.hid hm
 replace hrows:=Lib.hid hrows
 replace Zv:=Lib.hid Zv
 replace hbad:=Lib.hid hbad
 replace P9:=Lib.hid P9
 replace hload:=Lib.hid hload
 replace hres:=Lib.hid hres
 replace hS:=Lib.hid hS
 replace hsm:=Lib.hid hsm
 go_enter Tryz.func50,Tryz.ntmps50
 go_wp2_with fail
 go_loopw [4,5] (fun b i wr=>∃ n:Nat,n≤m∧b = .int .u32 (uj (M.take n) 0:Int)∧i = .int .i64 n∧Hid ((M.take n).all (rowOk M)=true)∧Only [] w wr) (fun _ i _=>m-(intOf i).toNat)
 case atStart=>exact⟨0,Nat.zero_le _,rfl,rfl,Lib.hid rfl,Only.refl _ _⟩
 case round=>
  obtain⟨n,hn,rfl,rfl,hall,kx⟩:=hrel
  by_cases hlt:n<m
  case neg=>
   obtain rfl:n=m:=by omega
   have hln:M.take n=M:=List.take_of_length_le (by have:=hm.out;omega)
   have hall':=hall.out
   rw [hln] at hall'
   have hso:res=true:=by rw [hrows.out];exact hall'
   have hbn:uj (M.take n) 0=eu M:=by rw [hln];exact Zv.out hso
   rw [hbn]
   subst hso
   go_wp2_with fail
   go_ret2
   exact⟨rfl,kx⟩
  have hlM:n<M.length:=by have:=hm.out;omega
  obtain⟨g,o,rfl,hg,hat⟩:=hA.get hlM
  obtain⟨e0,e1,_⟩:=wo (hat.kept kx (by simp)) hlM
  have fZ:=fun W=>AP W (M[n]).val (by have:=(hsm.out _ (List.getElem_mem hlM)).2.2;omega)
  have hxm:M[n]∈M:=List.getElem_mem hlM
  have Xt:(M.take (n+1)).all (rowOk M)=rowOk M M[n]:=by
   rw [List.take_add_one,List.getElem?_eq_getElem hlM,List.all_append,hall.out]
   simp
  have iF:uj (M.take (n+1)) 0=if (M[n]).key=bK then rP (M[n]).val else uj (M.take n) 0:=by
   rw [List.take_add_one,List.getElem?_eq_getElem hlM]
   exact Qu _ _ _
  have hx1:=hsm.out _ hxm
  generalize M[n]=x at *
  generalize hB2:uj (M.take (n+1)) 0=b2 at *
  generalize uj (M.take n) 0=b1 at *
  have hri:=@AB M x
  have hb:=hbad.out x hxm
  generalize rowOk M x=rx at *
  have hks:(strOf x.key).size=x.key.length:=aj _
  have hkl:=beq_toList x.key bK
  generalize hkk:strOf x.key=ks at *
  generalize strOf x.val=vs at *
  replace hB2:=Lib.hid hB2
  replace Xt:=Lib.hid Xt
  replace hkk:=Lib.hid hkk
  replace hb:=Lib.hid hb
  obtain⟨z,t,hzt⟩:∃ z t,x.key=z :: t:=by
   match hk:x.key with
   | []=>rw [hk] at hx1;simp at hx1
   | z :: t=>exact⟨z,t,rfl⟩
  have hz0:x.key.getD 0 0=z:=by rw [hzt];rfl
  obtain⟨zi,hzi⟩:∃ zi:Int,zi=((z.toNat:Nat):Int):=⟨_,rfl⟩
  have i0:∀ W:World,(Instr.index 9 (.string ks) (.int .i64 0)).run Tryz.prog W = .ok (.int .u8 zi) W:=fun W=>by
   have:=bQ (P:=Tryz.prog) 9 Tryz.underlying9 x.key 0 0 .i64 rfl (by omega) W
   rw [hkk.out,hz0,←hzi] at this
   exact this
  have mid:5≤x.key.length→∀ W:World,(Instr.slice 9 (.string ks) (some (.int .i64 1)) (some (.int .i64 5)) none).run Tryz.prog W = .ok (.string (strOf ((x.key.take 5).drop 1))) W:=fun h5 W=>by
   have:=Tc (P:=Tryz.prog) 9 Tryz.underlying9 x.key 1 5 1 5 .i64 .i64 rfl rfl (by omega) h5 W
   rw [hkk.out] at this
   exact this
  have hkB:(ks.toList==[66])=(x.key==bK):=by rw [←hkl];rw [show (strOf bK).toList = [66] from by simp [strOf,bK]]
  obtain⟨kl,Zj⟩:∃ kl,kl=x.key.length:=⟨_,rfl⟩
  rw [←Zj] at hks
  rw [hz0] at hri
  replace Zj:=Lib.hid Zj
  replace hzi:=Lib.hid hzi
  replace mid:=Lib.hid mid
  clear hkl hat
  have fin:∀ W,Only [] w W→rx=true→∀ bn:Nat,bn=b2→∃ n':Nat,n'=n+1:=fun _ _ _ _ _=>⟨_,rfl⟩
  clear fin
  have hok:rx=true→(M.take (n+1)).all (rowOk M)=true:=fun h=>by rw [Xt.out];exact h
  clear Xt
  by_cases hB:x.key=bK
  ·have hcB:(ks.toList==[66])=true:=by rw [hkB,beq_iff_eq];exact hB
   have abU:z=66:=by rw [←hz0,hB];rfl
   obtain rfl:zi=66:=by rw [hzi.out,abU];rfl
   rw [if_pos hB] at iF
   have hr:rx=true↔x.val.length=4:=by
    rw [hri]
    exact⟨fun h=>h.1 hB,fun h=>⟨fun _=>h,fun e=>by rw [abU] at e;exact absurd e (by decide),fun e=>by rw [abU] at e;exact absurd e (by decide)⟩⟩
   clear hri hkB
   by_cases h4:x.val.length=4
   ·have hrx:=hok (hr.2 h4)
    rw [decide_eq_true h4] at fZ
    replace fZ:=Lib.hid fZ
    replace iF:=Lib.hid iF
    replace hrx:=Lib.hid hrx
    replace hr:=Lib.hid hr
    replace hok:=Lib.hid hok
    replace hzt:=Lib.hid hzt
    replace hz0:=Lib.hid hz0
    go_wp2_with fail
    refine (fZ.out _).mono ?_;rintro e w2 ⟨rfl,k2,rfl⟩
    have kx2:=kx.drewN k2
    go_wp2_with fail
    go_roundw
    case rel=>exact⟨n+1,by omega,by rw [hB2.out,iF.out],by go_num,hrx,kx2⟩
    case measure=>simp [intOf];omega
   ·have hrx:res=false:=hb.out (by cases hh:rx;rfl;exact absurd (hr.1 hh) h4)
    rw [decide_eq_false h4] at fZ
    subst hrx
    replace fZ:=Lib.hid fZ
    replace iF:=Lib.hid iF
    replace hr:=Lib.hid hr
    replace hok:=Lib.hid hok
    replace hzt:=Lib.hid hzt
    replace hz0:=Lib.hid hz0
    go_wp2_with fail
    refine (fZ.out _).mono ?_;rintro e w2 ⟨rfl,k2,rfl⟩
    have kx2:=kx.drewN k2
    go_wp2_with fail
    go_ret2
    exact⟨rfl,kx2⟩
  have hcB:(ks.toList==[66])=false:=by rw [hkB,beq_eq_false_iff_ne];exact hB
  rw [if_neg hB] at iF
  clear hkB
  by_cases hE:z=69
  ·obtain rfl:zi=69:=by rw [hzi.out,hE];rfl
   have hr:rx=true↔kl=5∧x.val.length=4:=by
    rw [hri]
    have:Kv (oU x)=true↔kl=5∧x.val.length=4:=by
     unfold Kv
     rw [Bool.and_eq_true,decide_eq_true_eq,decide_eq_true_eq,Zj.out]
     rfl
    rw [←this]
    exact⟨fun h=>h.2.1 hE,fun h=>⟨fun e=>absurd e hB,fun _=>h,fun e=>by rw [hE] at e;exact absurd e (by decide)⟩⟩
   clear hri
   by_cases h5:kl=5
   ·rw [h5] at hks
    by_cases h4:x.val.length=4
    ·have hrx:=hok (hr.2 ⟨h5,h4⟩)
     rw [decide_eq_true h4] at fZ
     replace fZ:=Lib.hid fZ
     replace iF:=Lib.hid iF
     replace hrx:=Lib.hid hrx
     replace hr:=Lib.hid hr
     replace hok:=Lib.hid hok
     replace hzt:=Lib.hid hzt
     replace hz0:=Lib.hid hz0
     go_wp2_with fail
     refine (fZ.out _).mono ?_;rintro e w2 ⟨rfl,k2,rfl⟩
     have kx2:=kx.drewN k2
     go_wp2_with fail
     go_roundw
     case rel=>exact⟨n+1,by omega,by rw [hB2.out,iF.out],by go_num,hrx,kx2⟩
     case measure=>simp [intOf];omega
    ·have hrx:res=false:=hb.out (by cases hh:rx;rfl;exact absurd (hr.1 hh).2 h4)
     rw [decide_eq_false h4] at fZ
     subst hrx
     replace fZ:=Lib.hid fZ
     replace iF:=Lib.hid iF
     replace hr:=Lib.hid hr
     replace hok:=Lib.hid hok
     replace hzt:=Lib.hid hzt
     replace hz0:=Lib.hid hz0
     go_wp2_with fail
     refine (fZ.out _).mono ?_;rintro e w2 ⟨rfl,k2,rfl⟩
     have kx2:=kx.drewN k2
     go_wp2_with fail
     go_ret2
     exact⟨rfl,kx2⟩
   ·have hrx:res=false:=hb.out (by cases hh:rx;rfl;exact absurd (hr.1 hh).1 h5)
    have h5':((kl:Int) != 5)=true:=by rw [bne_iff_ne];omega
    generalize decide (x.val.length=4)=d4 at fZ
    subst hrx
    replace fZ:=Lib.hid fZ
    replace iF:=Lib.hid iF
    replace hr:=Lib.hid hr
    replace hok:=Lib.hid hok
    replace hzt:=Lib.hid hzt
    replace hz0:=Lib.hid hz0
    go_wp2_with fail
    refine (fZ.out _).mono ?_;rintro e w2 ⟨rfl,k2,rfl⟩
    have kx2:=kx.drewN k2
    go_wp2_with fail
    go_ret2
    exact⟨rfl,kx2⟩
  have afm:¬zi=69:=fun h=>hE (by rw [hzi.out] at h;exact UInt8.toNat_inj.1 (show z.toNat=69 by omega))
  by_cases hP:z=80
  case neg=>
   have afl:(zi==80)=false:=by rw [beq_eq_false_iff_ne];exact fun h=>hP (by rw [hzi.out] at h;exact UInt8.toNat_inj.1 (show z.toNat=80 by omega))
   have hrx:=hok (hri.2 ⟨fun e=>absurd e hB,fun e=>absurd e hE,fun e=>absurd e hP⟩)
   generalize decide (x.val.length=4)=d4 at fZ
   clear hri
   replace fZ:=Lib.hid fZ
   replace iF:=Lib.hid iF
   replace hrx:=Lib.hid hrx
   replace hok:=Lib.hid hok
   replace hzt:=Lib.hid hzt
   replace hz0:=Lib.hid hz0
   go_wp2_with fail
   refine (fZ.out _).mono ?_;rintro e w2 ⟨rfl,k2,rfl⟩
   have kx2:=kx.drewN k2
   go_wp2_with fail
   go_roundw
   case rel=>exact⟨n+1,by omega,by rw [hB2.out,iF.out],by go_num,hrx,kx2⟩
   case measure=>simp [intOf];omega
  obtain rfl:zi=80:=by rw [hzi.out,hP];rfl
  have hr:rx=true↔5≤kl∧mV ((M.map oU).filter (Pgs.inU (fileOf x.key)))=true:=by
   rw [hri]
   have:qH M (oU x)=true↔5≤kl∧mV ((M.map oU).filter (Pgs.inU (fileOf x.key)))=true:=by
    unfold qH
    rw [Bool.and_eq_true,decide_eq_true_eq,Zj.out,CU]
    rfl
   rw [←this]
   exact⟨fun h=>h.2.2 hP,fun h=>⟨fun e=>absurd e hB,fun e=>absurd e hE,fun _=>h⟩⟩
  clear hri
  generalize decide (x.val.length=4)=d4 at fZ
  by_cases h5:5≤kl
  case neg=>
   have hrx:res=false:=hb.out (by cases hh:rx;rfl;exact absurd (hr.1 hh).1 h5)
   have h5':(kl:Int)<5:=by omega
   subst hrx
   replace fZ:=Lib.hid fZ
   replace iF:=Lib.hid iF
   replace hr:=Lib.hid hr
   replace hok:=Lib.hid hok
   replace hzt:=Lib.hid hzt
   replace hz0:=Lib.hid hz0
   go_wp2_with fail
   refine (fZ.out _).mono ?_;rintro e w2 ⟨rfl,k2,rfl⟩
   have kx2:=kx.drewN k2
   go_wp2_with fail
   go_ret2
   exact⟨rfl,kx2⟩
  have h5':¬(kl:Int)<5:=by omega
  have hmid:=mid.out (by have:=Zj.out;omega)
  have N8:=fun W=>AP W ((x.key.take 5).drop 1) (by rw [List.length_drop,List.length_take];omega)
  have hl4:((x.key.take 5).drop 1).length=4:=by rw [List.length_drop,List.length_take];have:=Zj.out;omega
  have hfn:rP ((x.key.take 5).drop 1)=fileOf x.key:=by unfold rP fileOf;rw [if_pos hl4]
  rw [hfn,decide_eq_true hl4] at N8
  have hfl:fileOf x.key<4294967296:=zQ _
  generalize fileOf x.key=fi at *
  generalize strOf ((x.key.take 5).drop 1)=ms at *
  have hld:=fun W B d (h:Els chE 3 W B (M.map oU))=>hload.out W B d h fi hfl
  generalize mV ((M.map oU).filter (Pgs.inU fi))=lk at *
  generalize ldL ((M.map oU).filter (Pgs.inU fi))=ll at *
  replace N8:=Lib.hid N8
  replace hld:=Lib.hid hld
  replace hfl:=Lib.hid hfl
  clear hfn hl4
  replace fZ:=Lib.hid fZ
  replace iF:=Lib.hid iF
  replace hzt:=Lib.hid hzt
  replace hz0:=Lib.hid hz0
  go_wp2_with fail
  refine (fZ.out _).mono ?_;rintro e w2 ⟨rfl,k2,rfl⟩
  have kx2:=kx.drewN k2
  generalize wr.drewN k2=wA at *
  go_wp2_with fail
  refine (N8.out _).mono ?_;rintro e w3 ⟨rfl,k3,rfl⟩
  have kx3:=kx2.drewN k3
  generalize wA.drewN k3=wB at *
  go_wp2_with fail
  refine (P9.out _ kx3).mono ?_;rintro e w4 ⟨v,rfl,hne⟩
  obtain⟨B,cb,rfl,hcb,hBe,k4,_⟩:=hne
  have kx4:=kx3.trans k4
  rw [show (M.map oU).length=m by rw [List.length_map];exact hm.out.symm]
  have acu:=hld.out w4 B cb hBe
  rw [show (M.map oU).length=m by rw [List.length_map];exact hm.out.symm] at acu
  go_wp2_with fail
  refine acu.mono ?_;rintro e w5 ⟨v5,rfl,hmi⟩
  have kx5:=kx4.trans hmi.only
  clear acu hBe hmi
  cases lk with
  | true=>
   have hrx:=hok (hr.2 ⟨h5,rfl⟩)
   replace hr:=Lib.hid hr
   go_wp2_with fail
   go_roundw
   case rel=>exact⟨n+1,by omega,by rw [hB2.out,iF.out],by go_num,Lib.hid hrx,kx5⟩
   case measure=>simp [intOf];omega
  | false=>
   have hrx:res=false:=hb.out (by cases hh:rx;rfl;exact absurd (hr.1 hh).2 (by simp))
   subst hrx
   replace hr:=Lib.hid hr
   go_wp2_with fail
   go_ret2
   exact⟨rfl,kx5⟩
end Go.Proofs.YtmelaiefbpdifaaGreatDoor.Srv
namespace Go.Proofs.YtmelaiefbpdifaaGreatDoor.Srv
open Go.RowKit Go.Maps
theorem Ol{α:Type}{enc:α→List Value}{k:Nat}{w w':World}{A:Option Addr}{l:List α}{S:List Nat}(h:Els enc k w A l)(kk:Only S w w')(ha:l≠[]→∀ a,A=some a→a.block∉S):Els enc k w' A l:=by
 by_cases hl:l = []
 ·exact .inl hl
 ·exact h.kept kk (ha hl)
theorem UD{α:Type}{enc:α→List Value}{k:Nat}{w:World}{A:Option Addr}{l:List α}(h:Els enc k w A l)(hl:l≠[]):∀ a,A=some a→a.block<w.heap.size:=by
 rcases h with h | ⟨g,o,rfl,hg,_⟩
 ·exact absurd h hl
 ·intro a ha
  obtain rfl:=Option.some.inj ha
  exact hg
structure RSv(w:World)(G:List Nat)(sb lp p:Nat)(me b:Int)(s:St)(n:Nat)(f:Bool)(M:List Rw):Prop where
 blk:∃ A c,Blk w sb 130 #[.int .i64 me,.int .u32 b,.pointer (some ⟨lp,0,none⟩),.slice A M.length c,.slice none 0 0,.slice none 0 0,.bool false]∧Els rwE 3 w A M∧(M≠[]→∀ a,A=some a→a.block∉G∧a.block≠sb∧a.block≠lp)
 log:jB w lp p n f
 dev:Ref w p G s
 apart:sb∉G∧lp∉G∧lp≠sb
def QC(N:Nat)(M:List Rw)(s:St)(n:Nat)(l:List Ch)(x:Int)(M':List Rw)(s':St)(n':Nat)(f':Bool):Prop:=
 (tZ N M l=none∧x=6∧M'=M∧s'=s∧n'=n∧f'=false) ∨
 ∃ now out,tZ N M l=some (now,out)∧((out = []∧x=0∧M'=now∧s'=s∧n'=n∧f'=false)∨(out≠[]∧bV s n false out x s' n' f'∧M'=if x=0 then now else M))
def yM(w w':World)(G:List Nat)(sb lp p N:Nat)(me b:Int)(s:St)(n:Nat)(M:List Rw)(l:List Ch)(e:Ending):Prop:=
 ∃ x M' s' n' f' G',e = .returned (.int .i64 x)∧QC N M s n l x M' s' n' f'∧RSv w' G' sb lp p me b s' n' f' M'∧Only (sb :: lp :: G) w w'∧∀ j∈G',j∈G∨w.heap.size≤j
section
variable {w w':World}{G:List Nat}{sb lp p n:Nat}{me b:Int}{s:St}{f:Bool}{M M':List Rw}
theorem RSv.keep(h:RSv w G sb lp p me b s n f M)(k:Only [] w w'):RSv w' G sb lp p me b s n f M:=by
 obtain⟨⟨A,c,h1,h2,h3⟩,h4,h5,h6⟩:=h
 exact⟨⟨A,c,h1.kept k (by simp),h2.kept k (by simp),h3⟩,Blk.kept h4 k (by simp),h5.kept k (by simp),h6⟩
abbrev aap(me b:Int)(lp:Nat)(v:Value):Array Value:=#[.int .i64 me,.int .u32 b,.pointer (some ⟨lp,0,none⟩),v,.slice none 0 0,.slice none 0 0,.bool false]
theorem RSv.put{v:Value}{A:Option Addr}{c:Nat}(blk:Blk w sb 130 (aap me b lp v))(els:Els rwE 3 w A M')(new:M'≠[]→∀ a,A=some a→a.block∉G∧a.block≠sb∧a.block≠lp)(log:jB w lp p n f)(dev:Ref w p G s)(ap:sb∉G∧lp∉G∧lp≠sb):
  RSv (w.setCell ⟨sb,3,none⟩ (.slice A M'.length c)) G sb lp p me b s n f M':=by
 have k:Only [sb] w (w.setCell ⟨sb,3,none⟩ (.slice A M'.length c)):=(Only.refl [sb] w).setCell (.inl (by simp)) _
 refine⟨⟨A,c,?_,Ol els k (fun hl a ha=>by simpa using (new hl a ha).2.1),new⟩,Blk.kept log k (by simpa using ap.2.2),dev.kept k (fun i hi=>by simp;rintro rfl;exact ap.1 hi),ap⟩
 have:=blk.set 3 (.slice A M'.length c)
 simpa [aap] using this
end
theorem ZP{w:World}{A:Option Addr}{l:List Bk}(h:Els bkE 2 w A l)(ho:∀ x∈l,x.okay):Fq w A l:=by
 refine⟨?_,ho⟩
 rcases h with h | ⟨g,o,h1,h2,h3⟩
 ·exact .inl h
 ·refine .inr ⟨g,o,h1,h2,fun i hi=> ?_⟩
  have e0:=h3 i hi 0 _ rfl
  have e1:=h3 i hi 1 _ rfl
  exact⟨e0,e1⟩
set_option maxRecDepth 100000 in
set_option maxHeartbeats 8000000 in
theorem VW(w:World)(G:List Nat)(sb lp p N n:Nat)(me b:Int)(s:St)(M:List Rw)(h:RSv w G sb lp p me b s n false M)(B:Option Addr)(d:Nat)(l:List Ch)(hb:Els chE 3 w B l)(hl:l.length≤40)(hsm:oD l)
  (hN:s.aA.length=41+N) (hN1:1≤N) (hN2:N≤1024) (hS:Sorted M) (hat:∀ r∈M,r.at_<N) (hMN:M.length≤N) (hok:∀ now out,tZ N M l=some (now,out)→(∀ x∈out,x.okay)∧out.length≤40) (hn:n<4294967296) (bY:s.late.length+200≤1048576):
  Calls Tryz.prog 51 #[.pointer (some ⟨sb,0,none⟩),.slice B l.length d] w fun e w'=>yM w w' G sb lp p N me b s n M l e:=by
 obtain⟨A,c,hblk,hA,acO⟩:=h.blk
 have tu:=h.log
 obtain⟨G0,Xq,hsub,hG0⟩:=h.dev.trim
 refine Calls.mono (R:=fun e w'=>yM w w' G0 sb lp p N me b s n M l e) ?_ (fun e w' ⟨x,M',s',n',f',G',h1,h2,h3,h4,h5⟩=>⟨x,M',s',n',f',G',h1,h2,h3,h4.more (fun i hi=>.inl (by rcases List.mem_cons.1 hi with rfl | hi;simp;rcases List.mem_cons.1 hi with rfl | hi;simp;simp [hsub _ hi])),fun j hj=>(h5 j hj).imp (hsub j) id⟩)
 have hap:M≠[]→∀ a,A=some a→a.block∉G0∧a.block≠sb∧a.block≠lp:=fun hl a ha=>⟨fun hm=>(acO hl a ha).1 (hsub _ hm),(acO hl a ha).2⟩
 have a1:sb∉G0:=fun hm=>h.apart.1 (hsub _ hm)
 have a2:lp∉G0:=fun hm=>h.apart.2.1 (hsub _ hm)
 have a3:=h.apart.2.2
 have ae8:=hblk.lt
 have JD:lp<w.heap.size:=Blk.lt tu
 clear h acO hsub
 have P5:=fun W (k:Only [] w W)=>RH W A B c d N M l (hA.kept k (by simp)) hS hat hN2 hMN (hb.kept k (by simp)) hl hsm
 obtain⟨l0,_,_⟩:=tu.cells
 obtain⟨gf,cf,A1,cl,c0,_,_,_,_⟩:=Xq.cells (by omega)
 obtain⟨nF,hnF⟩:∃ nF,nF=s.aA.length:=⟨_,rfl⟩
 rw [←hnF] at c0
 have hwN:IntKind.i64.wrap ((nF:Int)-41)=(N:Int):=by rw [IntKind.wrap_i64];omega
 have b2:w.cell? ⟨sb,2,none⟩=some (.pointer (some ⟨lp,0,none⟩)):=(hblk.cell 2).trans rfl
 have b3:w.cell? ⟨sb,3,none⟩=some (.slice A M.length c):=(hblk.cell 3).trans rfl
 have hkeep:∀ W x,tZ N M l=none→x=6→Only [] w W→yM w W G0 sb lp p N me b s n M l (.returned (.int .i64 x)):=fun W x h1 h2 k=>
  ⟨x,M,s,n,false,G0,rfl,.inl ⟨h1,h2,rfl,rfl,rfl,rfl⟩,⟨⟨A,c,hblk.kept k (by simp),hA.kept k (by simp),hap⟩,Blk.kept tu k (by simp),Xq.kept k (by simp),a1,a2,a3⟩,k.more (by simp),fun j hj=>.inl hj⟩
 obtain⟨m,hm⟩:∃ m,m=M.length:=⟨_,rfl⟩
 obtain⟨nl,hnl⟩:∃ nl,nl=l.length:=⟨_,rfl⟩
 rw [←hm] at b3 P5
 rw [←hnl] at P5
 rw [←hnl]
 generalize hpl:tZ N M l=pl at *
 replace P5:=Lib.hid P5
 replace hkeep:=Lib.hid hkeep
 replace hnF:=Lib.hid hnF
 replace hpl:=Lib.hid hpl
 replace hm:=Lib.hid hm
 replace hnl:=Lib.hid hnl
 replace hsm:=Lib.hid hsm
 replace hS:=Lib.hid hS
 replace hat:=Lib.hid hat
 replace hok:=Lib.hid hok
 replace hap:=Lib.hid hap
 go_enter Tryz.func51,Tryz.ntmps51
 go_wp2_with fail
 have kd:Only [] w w.drew:=(Only.refl [] w).drew
 have z0:=kd.cell b3 (by simp)
 have z1:=kd.cell b2 (by simp)
 have z2:=kd.cell l0 (by simp)
 have z3:=kd.cell c0 (by simp)
 refine wp_region_held_drew (S:=fun w'=>w'.cell? ⟨sb,3,none⟩=some (.slice A m c)∧w'.cell? ⟨sb,2,none⟩=some (.pointer (some ⟨lp,0,none⟩))∧w'.cell? ⟨lp,0,none⟩=some (.pointer (some ⟨p,0,none⟩))∧w'.cell? ⟨p,0,none⟩=some (.slice (some ⟨gf,0,none⟩) nF cf)) (by kernel_rfl) ⟨z0,z1,z2,z3⟩ (fun hHeld=> ?_)
 clear z0 z1 z2 z3
 generalize w.drew=wd at *
 refine rwT 0 (.pointer (some ⟨sb,0,none⟩)) hHeld ?_;simp only [rwA]
 refine rwT 1 (.pointer (some ⟨sb,0,none⟩)) hHeld ?_;simp only [rwA]
 refine rwT 2 (.pointer (some ⟨sb,3,none⟩)) hHeld ?_;simp only [rwA]
 refine rwY 3 (.slice A m c) hHeld ?_ (hy:=Or.inl ⟨by rfl,fun w' hSw=>by obtain⟨hc,_,_,_⟩:=hSw;go_simp⟩);simp only [rwA]
 refine rwT 4 (.pointer (some ⟨sb,0,none⟩)) hHeld ?_;simp only [rwA]
 refine rwT 5 (.pointer (some ⟨sb,0,none⟩)) hHeld ?_;simp only [rwA]
 refine rwT 6 (.pointer (some ⟨sb,2,none⟩)) hHeld ?_;simp only [rwA]
 refine rwY 7 (.pointer (some ⟨lp,0,none⟩)) hHeld ?_ (hy:=Or.inl ⟨by rfl,fun w' hSw=>by obtain⟨_,hc,_,_⟩:=hSw;go_simp⟩);simp only [rwA]
 refine rwT 8 (.pointer (some ⟨lp,0,none⟩)) hHeld ?_;simp only [rwA]
 refine rwT 9 (.pointer (some ⟨lp,0,none⟩)) hHeld ?_;simp only [rwA]
 refine rwY 10 (.pointer (some ⟨p,0,none⟩)) hHeld ?_ (hy:=Or.inl ⟨by rfl,fun w' hSw=>by obtain⟨_,_,hc,_⟩:=hSw;go_simp⟩);simp only [rwA]
 refine rwT 11 (.pointer (some ⟨p,0,none⟩)) hHeld ?_;simp only [rwA]
 refine rwT 12 (.pointer (some ⟨p,0,none⟩)) hHeld ?_;simp only [rwA]
 refine rwY 13 (.slice (some ⟨gf,0,none⟩) nF cf) hHeld ?_ (hy:=Or.inl ⟨by rfl,fun w' hSw=>by obtain⟨_,_,_,hc⟩:=hSw;go_simp⟩);simp only [rwA]
 refine rwT 14 (.int .i64 (nF:Int)) hHeld ?_;simp only [rwA]
 refine rwT 15 (.int .i64 (N:Int)) hHeld ?_;simp only [rwA]
 refine rwT 16 (.slice B nl d) hHeld ?_;simp only [rwA]
 refine ah 17 rfl (by kernel_rfl) (fun K hK=> ?_)
 go_simp
 refine (P5.out _ kd).mono ?_;intro e v1 hpi
 cases pl with
 | none=>
  obtain⟨rfl,k1⟩:=hpi
  have q1:=kd.trans k1
  go_wp2_with fail
  refine hK.out _ _ ⟨q1.cell b3 (by simp),q1.cell b2 (by simp),q1.cell l0 (by simp),q1.cell c0 (by simp)⟩ (fun hHeld=> ?_)
  clear hK K
  refine rwT 18 (.tuple #[.slice none 0 0,.slice none 0 0,.bool false]) hHeld ?_;simp only [rwA]
  refine rwT 19 (.slice none 0 0) hHeld ?_;simp only [rwA]
  refine rwT 20 (.slice none 0 0) hHeld ?_;simp only [rwA]
  refine rwT 21 (.bool false) hHeld ?_;simp only [rwA]
  refine rwT 22 (.slice none 0 0) hHeld ?_;simp only [rwA]
  refine rwT 23 (.slice none 0 0) hHeld ?_;simp only [rwA]
  refine rwT 24 (.bool false) hHeld ?_;simp only [rwA]
  refine wpAnyH_done (by kernel_rfl) ?_ _
  clear hHeld
  go_wp2_with fail
  go_ret
  exact hkeep.out _ _ (by simp) rfl q1
 | some x=>
  obtain⟨now,out⟩:=x
  obtain⟨v,u,rfl,aG,hnew⟩:=hpi
  obtain⟨A2,cn,rfl,hcn,hE,k1,hAn⟩:=aG.els bH
  obtain⟨A3,cu,rfl,hcu,hO,_,hOn⟩:=hnew
  have q1:=kd.trans k1
  have hsz:=kd.size
  have hA2:∀ a,A2=some a→w.heap.size≤a.block:=fun a ha=>Nat.le_trans hsz (hAn a ha)
  have hA3:∀ a,A3=some a→w.heap.size≤a.block:=fun a ha=>Nat.le_trans hsz (hOn a ha)
  have hout:=hok.out now out rfl
  obtain⟨nw,hnw⟩:∃ nw,nw=now.length:=⟨_,rfl⟩
  obtain⟨no,hno⟩:∃ no,no=out.length:=⟨_,rfl⟩
  rw [←hnw,←hno]
  replace hnw:=Lib.hid hnw
  clear aG hAn hOn
  go_wp2_with fail
  refine hK.out _ _ ⟨q1.cell b3 (by simp),q1.cell b2 (by simp),q1.cell l0 (by simp),q1.cell c0 (by simp)⟩ (fun hHeld=> ?_)
  clear hK K
  refine rwT 18 (.tuple #[.slice A2 nw cn,.slice A3 no cu,.bool true]) hHeld ?_;simp only [rwA]
  refine rwT 19 (.slice A2 nw cn) hHeld ?_;simp only [rwA]
  refine rwT 20 (.slice A3 no cu) hHeld ?_;simp only [rwA]
  refine rwT 21 (.bool true) hHeld ?_;simp only [rwA]
  refine rwT 22 (.slice A2 nw cn) hHeld ?_;simp only [rwA]
  refine rwT 23 (.slice A3 no cu) hHeld ?_;simp only [rwA]
  refine rwT 24 (.bool true) hHeld ?_;simp only [rwA]
  refine wpAnyH_done (by kernel_rfl) ?_ _
  clear hHeld
  have hb1:=hblk.kept q1 (by simp)
  have hl1:jB v1 lp p n false:=Blk.kept tu q1 (by simp)
  have hd1:=Xq.kept q1 (by simp)
  have e2:=q1.cell b2 (by simp)
  clear b2 b3 l0 c0 P5
  by_cases ho:out = []
  ·obtain rfl:no=0:=by rw [hno,ho];rfl
   clear hno
   have e3:v1.cell? ⟨sb,3,none⟩=some (.slice A M.length c):=(hb1.cell 3).trans rfl
   have e4:=hb1.free 3
   have e5:=hb1.lt
   have hfin:RSv (v1.setCell ⟨sb,3,none⟩ (.slice A2 nw cn)) G0 sb lp p me b s n false now:=by
    rw [hnw.out]
    exact RSv.put hb1 hE (fun _ a ha=>⟨fun hm=>by have:=hA2 a ha;have:=hG0 _ hm;omega,by have:=hA2 a ha;omega,by have:=hA2 a ha;omega⟩) hl1 hd1 ⟨a1,a2,a3⟩
   have kf:Only (sb :: lp :: G0) w (v1.setCell ⟨sb,3,none⟩ (.slice A2 nw cn)):=(q1.more (by simp)).setCell (.inl (by simp)) _
   have hres:QC N M s n l 0 now s n false:=.inr ⟨now,out,hpl.out,.inl ⟨ho,rfl,rfl,rfl,rfl,rfl⟩⟩
   replace hfin:=Lib.hid hfin
   replace hres:=Lib.hid hres
   clear hE hO hout hb1 hl1 hd1
   go_wp2_with fail
   go_ret
   exact⟨0,now,s,n,false,G0,rfl,hres.out,hfin.out,kf,fun j hj=>.inl hj⟩
  ·have Z4:0<no:=by
    rw [hno]
    exact List.length_pos_iff.2 ho
   have abx:(0:Int)<no:=by omega
   have hcom:=Lc v1 lp p n false G0 s A3 cu out hn hl1 hd1 a2 (ZP hO hout.1) (fun _ a ha hm=>by have:=hA3 a ha;have:=hG0 _ hm;omega) (by have:=hout.2;omega) (by omega) bY
   rw [←hno] at hcom
   replace hcom:=Lib.hid hcom
   replace hno:=Lib.hid hno
   replace hout:=Lib.hid hout
   go_wp2_with fail
   refine hcom.out.mono ?_;rintro e v2 ⟨x,s',n',f',rfl,hc,G',hd',hl',k2,hG'⟩
   have hb2:=hb1.kept k2 (by simp;exact⟨fun e=>a3 e.symm,a1⟩)
   have hE2:=hE.kept k2 (fun a ha=>by have:=hA2 a ha;simp;exact⟨by omega,fun hm=>by have:=hG0 _ hm;omega⟩)
   have hv1:=q1.size
   have ap':sb∉G'∧lp∉G'∧lp≠sb:=⟨fun hm=>by rcases (hG' _ hm).1 with h | h;exact a1 h;omega,fun hm=>by rcases (hG' _ hm).1 with h | h;exact a2 h;omega,a3⟩
   have kq:Only (sb :: lp :: G0) w v2:=(q1.more (T:=sb :: lp :: G0) (by simp)).then k2 (fun i hi=>.inl (by simp at hi ⊢;exact .inr hi))
   have hj:∀ j∈G',j∈G0∨w.heap.size≤j:=fun j hj=>(hG' j hj).1.imp id (fun h=>by omega)
   clear hcom
   by_cases hx:x=0
   ·subst hx
    have e3:v2.cell? ⟨sb,3,none⟩=some (.slice A M.length c):=(hb2.cell 3).trans rfl
    have e4:=hb2.free 3
    have e5:=hb2.lt
    have hfin:RSv (v2.setCell ⟨sb,3,none⟩ (.slice A2 nw cn)) G' sb lp p me b s' n' f' now:=by
     rw [hnw.out]
     exact RSv.put hb2 hE2 (fun hl a ha=>⟨fun hm=>by have:=hA2 a ha;have:=UD hE hl a ha;rcases (hG' _ hm).1 with h | h;have:=hG0 _ h;omega;omega,by have:=hA2 a ha;omega,by have:=hA2 a ha;omega⟩) hl' hd' ap'
    have kf:Only (sb :: lp :: G0) w (v2.setCell ⟨sb,3,none⟩ (.slice A2 nw cn)):=kq.setCell (.inl (by simp)) _
    have hres:QC N M s n l 0 now s' n' f':=.inr ⟨now,out,hpl.out,.inr ⟨ho,hc,rfl⟩⟩
    replace hfin:=Lib.hid hfin
    replace hres:=Lib.hid hres
    replace hj:=Lib.hid hj
    clear hE hE2 hO hb1 hl1 hd1 hb2 hl' hd' hc hG'
    go_wp2_with fail
    go_ret
    exact⟨0,now,s',n',f',G',rfl,hres.out,hfin.out,kf,hj.out⟩
   ·have hx':(x != 0)=true:=by rw [bne_iff_ne];exact hx
    have hA':=Ol hA kq (fun hl a ha=>by have:=hap.out hl a ha;simp;exact⟨this.2.1,this.2.2,this.1⟩)
    have hfin:RSv v2 G' sb lp p me b s' n' f' M:=⟨⟨A,c,hb2,hA',fun hl a ha=>⟨fun hm=>by rcases (hG' _ hm).1 with h | h;exact (hap.out hl a ha).1 h;have:=UD hA hl a ha;omega,(hap.out hl a ha).2⟩⟩,hl',hd',ap'⟩
    have hres:QC N M s n l x M s' n' f':=.inr ⟨now,out,hpl.out,.inr ⟨ho,hc,by rw [if_neg hx]⟩⟩
    replace hfin:=Lib.hid hfin
    replace hres:=Lib.hid hres
    replace hj:=Lib.hid hj
    replace hx:=Lib.hid hx
    clear hE hE2 hO hb1 hl1 hd1 hb2 hl' hd' hc hG' hA'
    go_wp2_with fail
    go_ret
    exact⟨x,M,s',n',f',G',rfl,hres.out,hfin.out,kq,hj.out⟩
end Go.Proofs.YtmelaiefbpdifaaGreatDoor.Srv
