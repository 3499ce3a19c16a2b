/- Joined: Hr13, Hc13, Hf13 -/
import Derived.Test.YtmelaiefbpdifaaGreatDoorHK7
namespace Go.Proofs.YtmelaiefbpdifaaGreatDoor.Srv
open Go.RowKit Go.Maps
open Pgs (Pg pgE cO jm headB find lD sU QJ oV jM wK wL Ia)
section
variable {w w1:World}{R:List Nat}{sb dp n c rp mb lp lb:Nat}{σ:Sv}{s:St}{F:List Nat}{vs:Nat→Value}{D:DataW Value}
set_option maxRecDepth 100000 in
set_option maxHeartbeats 2000000 in
theorem dA.read(h:dA w w1 R sb dp σ s n false c rp mb lp lb F vs D)(p:Pk)(hp:p.Ok):
  Calls Tryz.prog 159 #[.pointer (some ⟨sb,0,none⟩),pkV p] w1 fun e w'=>e = .returned (.tuple #[.string (strOf (rdD σ p)),.int .i64 (rdE σ p)])∧Only [] w1 w':=by
 have hcur:=fun W (k:Only [] w1 W)=>(h.keep k).current p hp.file
 obtain⟨f0,f1⟩:=hp.file
 obtain⟨o0,o1⟩:=hp.off
 obtain⟨l0,l1⟩:=hp.len
 have b0:Blk (w1.alloc (.cells (pkA p) 53)) w1.heap.size 53 (pkA p):=Blk.new w1 _ _
 have k0:Only [] w1 (w1.alloc (.cells (pkA p) 53)):=(Only.refl [] w1).alloc _
 have z1:Blk ((w1.alloc (.cells (pkA p) 53)).alloc (.cells dS 51)) (w1.heap.size+1) 51 dS:=by
  have:=Blk.new (w1.alloc (.cells (pkA p) 53)) 51 dS
  rwa [show (w1.alloc (.cells (pkA p) 53)).heap.size=w1.heap.size+1 by simp] at this
 have k1:=k0.alloc (.cells dS 51)
 have hwi:=fun W=>jI W p.off p.len ⟨by omega,by omega⟩ ⟨by omega,by omega⟩
 have hu:IntKind.u64.wrap p.len=p.len:=by rw [IntKind.wrap_u64];omega
 cases hc:cur σ.M p.file.toNat p.epoch with
 | false=>
  have e1:rdE σ p=17:=by unfold rdE;rw [if_pos hc]
  have e2:rdD σ p = []:=by unfold rdD;rw [if_neg (by rw [e1];decide)]
  rw [e1,e2]
  rw [hc] at hcur
  clear h hc e1 e2 hwi hu
  go_enter Tryz.func159,Tryz.ntmps159
  go_wp2_with (first
   | (refine bG p rfl (.tmp 7) rfl w1.heap.size rfl b0 ?_)
   | (refine aW p dS rfl rfl (.tmp 6) (.tmp 8) rfl (w1.heap.size+1) rfl rfl z1 ?_;intro w2 b2 k2)
   | (refine bJ p rfl (.tmp 6) rfl (w1.heap.size+1) rfl b2 ?_))
  have k12:Only [] w1 w2:=k1.then k2 (fun i hi=>.inr (by simp at hi;omega))
  have o2:OpB w2 (w1.heap.size+1) p:=⟨b2⟩
  refine (hcur _ k12).mono ?_;rintro e w3 ⟨rfl,k3⟩
  have k13:=k12.trans k3
  have o3:=o2.kept k3 (by simp)
  clear k2 k3 o2 b2 k12 hcur b0 z1 k0 k1
  go_wp2
  go_ret2
  exact⟨rfl,k13⟩
 | true=>
  rw [hc] at hcur
  have hcN:¬cur σ.M p.file.toNat p.epoch=false:=by rw [hc];simp
  by_cases hr:p.off+p.len≤1024
  ·have d1:decide (p.off+p.len≤1024)=true:=by simpa using hr
   simp only [d1] at hwi
   by_cases hl:128<p.len
   ·have d2:decide (128<p.len)=true:=by simpa using hl
    have e1:rdE σ p=15:=by unfold rdE;rw [if_neg hcN,if_pos (.inr hl)]
    have e2:rdD σ p = []:=by unfold rdD;rw [if_neg (by rw [e1];decide)]
    rw [e1,e2]
    clear h hc e1 e2 hcN hr hl d1
    go_enter Tryz.func159,Tryz.ntmps159
    go_wp2_with (first
     | (refine bG p rfl (.tmp 7) rfl w1.heap.size rfl b0 ?_)
     | (refine aW p dS rfl rfl (.tmp 6) (.tmp 8) rfl (w1.heap.size+1) rfl rfl z1 ?_;intro w2 b2 k2)
     | (refine bJ p rfl (.tmp 6) rfl (w1.heap.size+1) rfl b2 ?_))
    have k12:Only [] w1 w2:=k1.then k2 (fun i hi=>.inr (by simp at hi;omega))
    have o2:OpB w2 (w1.heap.size+1) p:=⟨b2⟩
    refine (hcur _ k12).mono ?_;rintro e w3 ⟨rfl,k3⟩
    have k13:=k12.trans k3
    have o3:=o2.kept k3 (by simp)
    clear k2 k3 o2 b2 k12 hcur b0 z1 k0 k1
    obtain⟨_,_,c4,c5,_⟩:=o3.cells
    go_wp2_with fail
    refine (hwi _).mono ?_;rintro e w4 ⟨rfl,rfl⟩
    go_wp2
    go_ret2
    exact⟨rfl,k13⟩
   ·have d2:decide (128<p.len)=false:=by simpa using hl
    have e1:rdE σ p=0:=by unfold rdE;rw [if_neg hcN,if_neg (by omega)]
    have e2:rdD σ p=oV (Dc σ p) p.off p.len:=by unfold rdD;rw [if_pos e1]
    have zL:=fun W (k:Only [] w1 W)=>(h.keep k).object p.file p.file.toNat (by omega) (by omega)
    have hrt:=oJ h.ok p.file.toNat
    have hb:=fun W A k (hA:Els pgE 2 W A (vM σ p.file.toNat))=>Pgs.mJ W A k _ (vM σ p.file.toNat) rfl hA (by have:=Pgs.eU hrt;omega) p.off p.len (by omega)
    rw [lD hrt o0 l0 hr] at hb
    unfold Dc at e2
    rw [e1,e2]
    have hv1:IntKind.i64.wrap p.off=p.off:=by rw [IntKind.wrap_i64];omega
    have hv2:IntKind.i64.wrap p.len=p.len:=by rw [IntKind.wrap_i64];omega
    clear h hc e1 e2 hcN hr hl d1 hrt
    generalize vM σ p.file.toNat=ob at *
    generalize strOf (oV ob p.off p.len)=bs at *
    replace zL:=Lib.hid zL
    replace hb:=Lib.hid hb
    go_enter Tryz.func159,Tryz.ntmps159
    go_wp2_with (first
     | (refine bG p rfl (.tmp 7) rfl w1.heap.size rfl b0 ?_)
     | (refine aW p dS rfl rfl (.tmp 6) (.tmp 8) rfl (w1.heap.size+1) rfl rfl z1 ?_;intro w2 b2 k2)
     | (refine bJ p rfl (.tmp 6) rfl (w1.heap.size+1) rfl b2 ?_))
    have k12:Only [] w1 w2:=k1.then k2 (fun i hi=>.inr (by simp at hi;omega))
    have o2:OpB w2 (w1.heap.size+1) p:=⟨b2⟩
    refine (hcur _ k12).mono ?_;rintro e w3 ⟨rfl,k3⟩
    have k13:=k12.trans k3
    have o3:=o2.kept k3 (by simp)
    clear k2 k3 o2 b2 k12 hcur b0 z1 k0 k1
    obtain⟨c2,_,c4,c5,_⟩:=o3.cells
    go_wp2_with fail
    refine (hwi _).mono ?_;rintro e w4 ⟨rfl,rfl⟩
    clear hwi
    generalize w1.heap.size+1=g at *
    go_wp2_with fail
    have kd:Only [] w1 w4.drew:=k13.drew
    have od:=o3.kept ((Only.refl [] w4).drew) (by simp)
    obtain⟨c2,_,c4,c5,_⟩:=od.cells
    refine wp_region_held_drew (S:=fun w'=>w'.cell? ⟨g,2,none⟩=some (.int .u32 p.file)∧w'.cell? ⟨g,4,none⟩=some (.int .u32 p.off)∧w'.cell? ⟨g,5,none⟩=some (.int .u32 p.len)) (by kernel_rfl) ⟨c2,c4,c5⟩ (fun hHeld=> ?_)
    generalize w4.drew=wd at *
    refine rwT 0 (.pointer (some ⟨sb,0,none⟩)) hHeld ?_;simp only [rwA]
    refine rwT 1 (.pointer (some ⟨g,2,none⟩)) hHeld ?_;simp only [rwA]
    refine rwY 2 (.int .u32 p.file) hHeld ?_ (hy:=Or.inl ⟨by rfl,fun w' hSw=>by obtain⟨hc,_,_⟩:=hSw;go_simp⟩);simp only [rwA]
    refine rwT 4 (.pointer (some ⟨g,4,none⟩)) hHeld ?_;simp only [rwA]
    refine rwY 5 (.int .u32 p.off) hHeld ?_ (hy:=Or.inl ⟨by rfl,fun w' hSw=>by obtain⟨_,hc,_⟩:=hSw;go_simp⟩);simp only [rwA]
    refine rwT 6 (.int .i64 p.off) hHeld ?_;simp only [rwA]
    refine rwT 7 (.pointer (some ⟨g,5,none⟩)) hHeld ?_;simp only [rwA]
    refine rwY 8 (.int .u32 p.len) hHeld ?_ (hy:=Or.inl ⟨by rfl,fun w' hSw=>by obtain⟨_,_,hc⟩:=hSw;go_simp⟩);simp only [rwA]
    refine rwT 9 (.int .i64 p.len) hHeld ?_;simp only [rwA]
    refine ah 3 rfl (by kernel_rfl) (fun K hK=> ?_)
    go_simp
    refine (zL.out _ kd).mono ?_;rintro e w5 ⟨v,rfl,A,k,rfl,_,hE,k5,_⟩
    obtain⟨x2,_,x4,x5,_⟩:=(od.kept k5 (by simp)).cells
    have k15:=kd.trans k5
    go_wp2_with fail
    refine hK.out _ _ ⟨x2,x4,x5⟩ (fun hHeld=> ?_)
    clear hK K
    refine ah 10 rfl (by kernel_rfl) (fun K hK=> ?_)
    go_simp
    refine (hb.out _ A k hE).mono ?_;rintro e w6 ⟨rfl,k6⟩
    obtain⟨y2,_,y4,y5,_⟩:=((od.kept k5 (by simp)).kept k6 (by simp)).cells
    have dw:=k15.trans k6
    go_wp2_with fail
    refine hK.out _ _ ⟨y2,y4,y5⟩ (fun hHeld=> ?_)
    clear hK K
    refine rwT 11 (.string bs) hHeld ?_;simp only [rwA]
    refine rwT 12 (.int .i64 (QJ true)) hHeld ?_;simp only [rwA]
    refine rwT 13 (.string bs) hHeld ?_;simp only [rwA]
    refine rwT 14 (.int .i64 (QJ true)) hHeld ?_;simp only [rwA]
    refine wpAnyH_done (by kernel_rfl) ?_ _
    clear hHeld
    replace dw:=Lib.hid dw
    go_wp2
    go_ret2
    exact⟨rfl,dw.out⟩
  ·have d1:decide (p.off+p.len≤1024)=false:=by simpa using hr
   simp only [d1] at hwi
   have e1:rdE σ p=15:=by unfold rdE;rw [if_neg hcN,if_pos (.inl (by omega))]
   have e2:rdD σ p = []:=by unfold rdD;rw [if_neg (by rw [e1];decide)]
   rw [e1,e2]
   clear h hc e1 e2 hcN hr d1
   go_enter Tryz.func159,Tryz.ntmps159
   go_wp2_with (first
    | (refine bG p rfl (.tmp 7) rfl w1.heap.size rfl b0 ?_)
    | (refine aW p dS rfl rfl (.tmp 6) (.tmp 8) rfl (w1.heap.size+1) rfl rfl z1 ?_;intro w2 b2 k2)
    | (refine bJ p rfl (.tmp 6) rfl (w1.heap.size+1) rfl b2 ?_))
   have k12:Only [] w1 w2:=k1.then k2 (fun i hi=>.inr (by simp at hi;omega))
   have o2:OpB w2 (w1.heap.size+1) p:=⟨b2⟩
   refine (hcur _ k12).mono ?_;rintro e w3 ⟨rfl,k3⟩
   have k13:=k12.trans k3
   have o3:=o2.kept k3 (by simp)
   clear k2 k3 o2 b2 k12 hcur b0 z1 k0 k1
   obtain⟨_,_,c4,c5,_⟩:=o3.cells
   go_wp2_with fail
   refine (hwi _).mono ?_;rintro e w4 ⟨rfl,rfl⟩
   go_wp2
   go_ret2
   exact⟨rfl,k13⟩
end
end Go.Proofs.YtmelaiefbpdifaaGreatDoor.Srv
namespace Go.Proofs.YtmelaiefbpdifaaGreatDoor.Srv
open Go.RowKit Go.Maps
open Pgs (Pg pgE cO jm headB find lD sU QJ oV jM wK wL Ia)
def NoC:Com:=fun _ _ _ _=>False
def C5(N:Nat)(s:St)(n:Nat)(s':St)(n':Nat)(f':Bool):Com:=fun M l e M'=>dN N M s n false l e M' s' n' f'
def ac1(σ:Sv)(s:St)(n:Nat)(p:Pk)(d:List UInt8)(er:Int)(σ':Sv)(s':St)(n':Nat)(f':Bool):Prop:=
 (Did NoC σ p d er σ'∧s'=s∧n'=n∧f'=false)∨(Did (C5 σ.N s n s' n' f') σ p d er σ'∧∃ l,dN σ.N σ.M s n false l er σ'.M s' n' f')
def YF(w w1 w':World)(R:List Nat)(sb dp:Nat)(σ:Sv)(s:St)(n c:Nat)(p:Pk)(e:Ending):Prop:=
 ∃ d er σ' s' n' f' R',e = .returned (.tuple #[.string (strOf d),.int .i64 er])∧ac1 σ s n p d er σ' s' n' f'∧vO w w' R' sb dp σ' s' n' f' (c+1)∧Only R w1 w'∧(∀ j∈R',j∈R∨w1.heap.size≤j)∧d.length≤128
theorem Sv.Ok.mono{σ:Sv}{c d:Nat}(h:σ.Ok c)(hd:c≤d):σ.Ok d:=⟨h.good,h.few,h.uniq,h.loose,Nat.le_trans h.len hd,h.seat,h.me,h.jC⟩
theorem vO.mono{w w1:World}{R:List Nat}{sb p n c d:Nat}{σ:Sv}{s:St}{f:Bool}(h:vO w w1 R sb p σ s n f c)(hd:c≤d)(h2:d≤1000000):vO w w1 R sb p σ s n f d:=by
 obtain⟨rp,mb,lp,lb,F,vs,D,h⟩:=h
 exact⟨rp,mb,lp,lb,F,vs,D,h.own,h.hdr,h.loose.mono hd,h.lists,h.ap1,h.ap2,h.ap3,h.inR,h.new,h.len,h.ok.mono hd,h2⟩
theorem rZ{w w1 w':World}{R:List Nat}{sb dp n c:Nat}{σ:Sv}{s:St}{p:Pk}{d:List UInt8}{er:Int}(h:vO w w1 R sb dp σ s n false c)(hc:c<1000000)(k:Only [] w1 w')(hd:Did NoC σ p d er σ)(hl:d.length≤128):YF w w1 w' R sb dp σ s n c p (.returned (.tuple #[.string (strOf d),.int .i64 er])):=
 ⟨d,er,σ,s,n,false,R,rfl,.inl ⟨hd,rfl,rfl,rfl⟩,(h.keep k).mono (by omega) (by omega),k.more (by simp),fun j hj=>.inl hj,hl⟩
theorem vk{w w1 w5 w':World}{R:List Nat}{sb dp n c x:Nat}{σ:Sv}{s:St}{p:Pk}{o:List Pg}{ch:List Ch}{er:Int}{e:Ending}(hc:c<1000000)(k:Only [] w1 w5)(h:Ox w w5 w' R sb dp σ s n c x o ch e)(he:e = .returned (.int .i64 er))
  (hd:∀ C:Com,∀ σ',iH C σ x o ch er σ'→Did C σ p [] er σ'):YF w w1 w' R sb dp σ s n c p (.returned (.tuple #[.string ⟨#[]⟩,.int .i64 er])):=by
 obtain⟨er',M',s',n',f',R',rfl,hcm,hm,kR,hR⟩:=h
 injection he with he
 injection he with _ he
 subst he
 refine⟨[],er',turned σ x er' M',s',n',f',R',rfl,.inr ⟨hd _ _ ⟨M',hcm,rfl⟩,_,hcm⟩,hm.mono (by omega) (by omega),(k.more (by simp)).then kR (fun i hi=>.inl hi),fun j hj=> ?_,by simp⟩
 rcases hR j hj with h' | h'
 ·exact .inl h'
 ·exact .inr (Nat.le_trans k.size h')
section
variable {w w1:World}{R:List Nat}{sb dp n c rp mb lp lb:Nat}{σ:Sv}{s:St}{F:List Nat}{vs:Nat→Value}{D:DataW Value}
set_option maxRecDepth 100000 in
set_option maxHeartbeats 2000000 in
theorem dA.ZL(h:dA w w1 R sb dp σ s n false c rp mb lp lb F vs D)(hcc:c<1000000)(hn:n<4294967296)(bY:s.late.length+200≤1048576)(p:Pk)(hp:p.Ok)(hcode:p.code=3):
  Calls Tryz.prog 160 #[.pointer (some ⟨sb,0,none⟩),pkV p] w1 fun e w'=>YF w w1 w' R sb dp σ s n c p e:=by
 have hcur:=fun W (k:Only [] w1 W)=>(h.keep k).current p hp.file
 have hM:vO w w1 R sb dp σ s n false c:=⟨rp,mb,lp,lb,F,vs,D,h⟩
 have hgR:w1.heap.size+1∉R:=fun hm=>by have:=(h.new _ hm).2;omega
 obtain⟨f0,f1⟩:=hp.file
 have b0:Blk (w1.alloc (.cells (pkA p) 53)) w1.heap.size 53 (pkA p):=Blk.new w1 _ _
 have k0:Only [] w1 (w1.alloc (.cells (pkA p) 53)):=(Only.refl [] w1).alloc _
 have z1:Blk ((w1.alloc (.cells (pkA p) 53)).alloc (.cells dS 51)) (w1.heap.size+1) 51 dS:=by
  have:=Blk.new (w1.alloc (.cells (pkA p) 53)) 51 dS
  rwa [show (w1.alloc (.cells (pkA p) 53)).heap.size=w1.heap.size+1 by simp] at this
 have k1:=k0.alloc (.cells dS 51)
 cases hc:cur σ.M p.file.toNat p.epoch with
 | false=>
  have hd:Did NoC σ p [] 17 σ:=by
   unfold Did
   rw [if_neg (by omega),if_neg (by omega),if_pos hcode,if_pos hc]
   exact⟨rfl,rfl,rfl⟩
  have hfin:=fun W (k:Only [] w1 W)=>rZ hM hcc k hd (by simp)
  rw [hc] at hcur
  replace hfin:=Lib.hid hfin
  clear h hc hd hM hcode
  go_enter Tryz.func160,Tryz.ntmps160
  go_wp2_with (first
   | (refine bG p rfl (.tmp 7) rfl w1.heap.size rfl b0 ?_)
   | (refine aW p dS rfl rfl (.tmp 6) (.tmp 8) rfl (w1.heap.size+1) rfl rfl z1 ?_;intro w2 b2 k2)
   | (refine bJ p rfl (.tmp 6) rfl (w1.heap.size+1) rfl b2 ?_))
  have k12:Only [] w1 w2:=k1.then k2 (fun i hi=>.inr (by simp at hi;omega))
  have o2:OpB w2 (w1.heap.size+1) p:=⟨b2⟩
  refine (hcur _ k12).mono ?_;rintro e w3 ⟨rfl,k3⟩
  have k13:=k12.trans k3
  have o3:=o2.kept k3 (by simp)
  clear k2 k3 o2 b2 k12 hcur b0 z1 k0 k1
  go_wp2
  go_ret2
  exact hfin.out _ k13
 | true=>
  rw [hc] at hcur
  have zL:=fun W (k:Only [] w1 W)=>(h.keep k).object p.file p.file.toNat (by omega) (by omega)
  have hrt:=oJ h.ok p.file.toNat
  have hset:=fun W (k:Only [] w1 W) A j (hA:Els pgE 2 W A (vM σ p.file.toNat))=>(h.keep k).settle hn bY p.file p.file.toNat (by omega) (by omega) A j _ (vM σ p.file.toNat) rfl hA hrt none 0 0 [] rfl (.inl rfl) (by simp) (by simp [wJ])
  have wS:∀ (er:Int) (C:Com) σ',iH C σ p.file.toNat (vM σ p.file.toNat) [] er σ'→Did C σ p [] er σ':=fun er C σ' hs=>by
   unfold Did
   rw [if_neg (by omega),if_neg (by omega),if_pos hcode,if_neg (by rw [hc];simp)]
   exact⟨rfl,hs⟩
  clear h hc hM hrt hcode
  generalize vM σ p.file.toNat=ob at *
  replace zL:=Lib.hid zL
  replace hset:=Lib.hid hset
  replace wS:=Lib.hid wS
  go_enter Tryz.func160,Tryz.ntmps160
  go_wp2_with (first
   | (refine bG p rfl (.tmp 7) rfl w1.heap.size rfl b0 ?_)
   | (refine aW p dS rfl rfl (.tmp 6) (.tmp 8) rfl (w1.heap.size+1) rfl rfl z1 ?_;intro w2 b2 k2)
   | (refine bJ p rfl (.tmp 6) rfl (w1.heap.size+1) rfl b2 ?_))
  have k12:Only [] w1 w2:=k1.then k2 (fun i hi=>.inr (by simp at hi;omega))
  have o2:OpB w2 (w1.heap.size+1) p:=⟨b2⟩
  refine (hcur _ k12).mono ?_;rintro e w3 ⟨rfl,k3⟩
  have k13:=k12.trans k3
  have o3:=o2.kept k3 (by simp)
  clear k2 k3 o2 b2 k12 hcur b0 z1 k0 k1
  obtain⟨m,hm⟩:∃ m,m=ob.length:=⟨_,rfl⟩
  replace hm:=Lib.hid hm
  go_wp2_with fail
  have kd:Only [] w1 w3.drew:=k13.drew
  have od:=o3.kept ((Only.refl [] w3).drew) (by simp)
  generalize w1.heap.size+1=g at *
  obtain⟨c2,_⟩:=od.cells
  refine wp_region_held_drew (S:=fun w'=>w'.cell? ⟨g,2,none⟩=some (.int .u32 p.file)) (by kernel_rfl) c2 (fun hHeld=> ?_)
  generalize w3.drew=wd at *
  refine rwT 0 (.pointer (some ⟨sb,0,none⟩)) hHeld ?_;simp only [rwA]
  refine rwT 1 (.pointer (some ⟨g,2,none⟩)) hHeld ?_;simp only [rwA]
  refine rwT 2 (.int .u32 p.file) hHeld ?_;simp only [rwA]
  refine rwT 3 (.pointer (some ⟨sb,0,none⟩)) hHeld ?_;simp only [rwA]
  refine rwT 4 (.pointer (some ⟨g,2,none⟩)) hHeld ?_;simp only [rwA]
  refine rwT 5 (.int .u32 p.file) hHeld ?_;simp only [rwA]
  refine ah 6 rfl (by kernel_rfl) (fun K hK=> ?_)
  go_simp
  refine (zL.out _ kd).mono ?_;rintro e w5 ⟨v,rfl,A,k,rfl,_,hE,k5,_⟩
  have x2:=k5.cell c2 (by simp)
  have k15:=kd.trans k5
  rw [←hm.out]
  go_wp2_with fail
  refine hK.out _ _ x2 (fun hHeld=> ?_)
  clear hK K
  refine ah 7 rfl (by kernel_rfl) (fun K hK=> ?_)
  go_simp
  rw [hm.out]
  refine (hset.out _ k15 A k hE).mono ?_
  intro e w6 hse
  have aaE:=hse
  obtain⟨er,_,_,_,_,_,rfl,_,_,kR6,_⟩:=aaE
  have x6:=kR6.cell x2 hgR
  have hfin:=vk hcc k15 hse rfl (wS.out er)
  replace hfin:=Lib.hid hfin
  clear hse
  clear kR6
  go_wp2_with fail
  refine hK.out _ _ x6 (fun hHeld=> ?_)
  clear hK K
  refine rwT 8 (.string ⟨#[]⟩) hHeld ?_;simp only [rwA]
  refine rwT 9 (.int .i64 er) hHeld ?_;simp only [rwA]
  refine wpAnyH_done (by kernel_rfl) ?_ _
  clear hHeld
  go_wp2
  go_ret2
  exact hfin.out
end
end Go.Proofs.YtmelaiefbpdifaaGreatDoor.Srv
namespace Go.Proofs.YtmelaiefbpdifaaGreatDoor.Srv
open Go.RowKit Go.Maps
open Pgs (Pg pgE cO jm headB find lD sU QJ oV jM wK wL Ia)
section
variable {w w1:World}{R:List Nat}{sb dp n c rp mb lp lb:Nat}{σ:Sv}{s:St}{F:List Nat}{vs:Nat→Value}{D:DataW Value}
theorem MW{w:World}{ks vs:ByteArray}{gn:Bool}{kl vl:List UInt8}(h1:strOf kl=ks)(h2:strOf vl=vs):Els chE 3 (w.alloc (.cells #[.string ks,.string vs,.bool gn] 133)) (some ⟨w.heap.size,0,none⟩) [⟨kl,vl,gn⟩]:=by
 refine ZI (ty:=133) ?_
 have:=Blk.new w 133 #[.string ks,.string vs,.bool gn]
 rw [←h1,←h2] at this
 rw [←h1,←h2]
 exact this
set_option maxRecDepth 100000 in
set_option maxHeartbeats 2000000 in
theorem dA.acT(h:dA w w1 R sb dp σ s n false c rp mb lp lb F vs D)(hcc:c<1000000)(hn:n<4294967296)(bY:s.late.length+200≤1048576)(p:Pk)(hp:p.Ok)(hcode:p.code=5):
  Calls Tryz.prog 162 #[.pointer (some ⟨sb,0,none⟩),pkV p] w1 fun e w'=>YF w w1 w' R sb dp σ s n c p e:=by
 have hM:vO w w1 R sb dp σ s n false c:=⟨rp,mb,lp,lb,F,vs,D,h⟩
 obtain⟨f0,f1⟩:=hp.file
 have b0:Blk (w1.alloc (.cells (pkA p) 53)) w1.heap.size 53 (pkA p):=Blk.new w1 _ _
 have k0:Only [] w1 (w1.alloc (.cells (pkA p) 53)):=(Only.refl [] w1).alloc _
 have c1:=b0.cell 1
 have c9:=b0.cell 9
 simp only [List.getElem?_toArray,List.getElem?_cons_zero,List.getElem?_cons_succ] at c1 c9
 by_cases hz:p.frm=0
 ·have hset:=fun W (k:Only [] w1 W) B (hB:Els chE 3 W B (YA p))=>(h.keep k).settle hn bY p.file p.file.toNat (by omega) (by omega) none 0 0 [] rfl (.inl rfl) rfl B 1 1 (YA p) rfl hB (by simp [YA]) (by simp [wJ,YA,wZ])
  have wS:∀ (er:Int) (C:Com) σ',iH C σ p.file.toNat [] (YA p) er σ'→Did C σ p [] er σ':=fun er C σ' hs=>by
   unfold Did
   rw [if_neg (by omega),if_neg (by omega),if_neg (by omega),if_neg (by omega),if_neg (by rw [hz];simp)]
   exact⟨rfl,hs⟩
  have hkey:=fun W=>rV W p.file p.file.toNat (by omega) (by omega)
  have hfr:YA p = [⟨eK p.file.toNat,[],true⟩]:=rfl
  obtain⟨ks,hks⟩:∃ ks,strOf (eK p.file.toNat)=ks:=⟨_,rfl⟩
  simp only [hks] at hkey
  replace hset:=Lib.hid hset
  replace wS:=Lib.hid wS
  replace hkey:=Lib.hid hkey
  replace hfr:=Lib.hid hfr
  replace hks:=Lib.hid hks
  replace b0:=Lib.hid b0
  clear h hM hcode
  have c1':(w1.alloc (.cells (pkA p) 53)).cell? ⟨w1.heap.size,1,none⟩=some (.int .i64 0):=by rw [c1,hz]
  clear c1 hz
  go_enter Tryz.func162,Tryz.ntmps162
  go_wp2_with fail
  refine (hkey.out _).mono ?_;rintro e w2 ⟨rfl,k2⟩
  have k12:=k0.trans k2
  have k3:Only [] w1 (w2.alloc (.cells #[.string ks,.string ⟨#[]⟩,.bool true] 133)):=k12.alloc _
  have hE:=MW (w:=w2) (gn:=true) hks.out (vl:=[]) rfl
  rw [←hfr.out] at hE
  replace hE:=Lib.hid hE
  clear k2 k12 k0 c1' c9
  go_wp2_with fail
  refine (hset.out _ k3 _ hE.out).mono ?_
  intro e w6 hse
  have aaE:=hse
  obtain⟨er,_,_,_,_,_,rfl,_,_,kR6,_⟩:=aaE
  have hfin:=vk hcc k3 hse rfl (wS.out er)
  replace hfin:=Lib.hid hfin
  clear hse kR6
  go_wp2
  go_ret2
  exact hfin.out
 ·have hd:Did NoC σ p [] 1 σ:=by
   unfold Did
   rw [if_neg (by omega),if_neg (by omega),if_neg (by omega),if_neg (by omega),if_pos hz]
   exact⟨rfl,rfl,rfl⟩
  have hfin:=rZ hM hcc k0 hd (by simp)
  replace hfin:=Lib.hid hfin
  have hz2:(p.frm != 0)=true:=by rw [bne_iff_ne];exact hz
  clear h hd hM hcode b0
  go_enter Tryz.func162,Tryz.ntmps162
  go_wp2
  go_ret2
  exact hfin.out
end
end Go.Proofs.YtmelaiefbpdifaaGreatDoor.Srv
