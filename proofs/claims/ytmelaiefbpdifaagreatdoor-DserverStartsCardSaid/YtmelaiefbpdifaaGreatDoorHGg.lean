/- Joined: Free5, Sort, Under, Steps5. -/
import Derived.Test.YtmelaiefbpdifaaGreatDoorHGf
import Derived.Shelf.SlSortCmp.NoneTotal
/- free: the home blocks that new rows may take. -/
namespace Go.Proofs.YtmelaiefbpdifaaGreatDoor
open Go.RowKit Go.Maps
def oZ(B:List Bool):Array Value:=(B.map Value.bool).toArray
theorem tK(B:List Bool)(i:Nat)(b:Bool):(oZ B).setIfInBounds i (.bool b)=oZ (B.set i b):=by simp [oZ,List.map_set]
theorem su(B:List Bool)(i:Nat)(h:i<B.length):(oZ B)[i]?=some (.bool B[i]):=by simp [oZ,h]
theorem Jv:(Tryz.prog.info? 4).map (fun i=>(i.zero,i.size,i.bytes))=some (some (.bool false),1,1):=by kernel_rfl
theorem WS:(Tryz.prog.info? 3).map (fun i=>(i.zero,i.size,i.bytes))=some (some (.int .i64 0),1,8):=by kernel_rfl
def Dz(l:List Rw)(i:Nat):Bool:=l.any fun r=>r.at_==i
def jF(M:List Rw)(l:List Ch)(i:Nat):Bool:=l.any fun c=>c.gone && atL M c.key==i
def tkL(N:Nat)(l:List Rw):List Bool:=(List.range N).map (Dz l)
def tgL(M:List Rw)(N:Nat)(l:List Ch):List Bool:=(List.range N).map fun i=>Dz M i && !jF M l i
def lY(M:List Rw)(l:List Ch)(i:Nat):Bool:=!(Dz M i && !jF M l i)
def cZ(M:List Rw)(N:Nat)(l:List Ch):List Nat:=(List.range N).filter (lY M l)
theorem jw{N:Nat}{p q:Nat→Bool}{i:Nat}{b:Bool}(hi:i<N)(h:∀ j,j<N→q j=if j=i then b else p j):((List.range N).map p).set i b=(List.range N).map q:=by
 apply List.ext_getElem?
 intro j
 rw [List.getElem?_set]
 by_cases hj:j<N
 ·by_cases hij:i=j
  ·subst hij
   simp [hi,h i hi]
  ·rw [if_neg hij]
   simp [hj,h j hj,Ne.symm hij]
 ·rw [List.getElem?_eq_none (by simp;omega)]
  split
  ·omega
  ·rw [List.getElem?_eq_none (by simp;omega)]
theorem QT(N:Nat):List.replicate N (Value.bool false)=((tkL N []).map Value.bool):=by
 apply List.ext_getElem?
 intro i
 by_cases h:i<N
 ·simp [tkL,h,Dz]
 ·rw [List.getElem?_eq_none (by simp;omega),List.getElem?_eq_none (by simp [tkL];omega)]
theorem Ny(N:Nat)(l:List Rw)(r:Rw)(h:r.at_<N):(tkL N l).set r.at_ true=tkL N (l++[r]):=by
 refine jw h (fun j _=> ?_)
 simp only [Dz,List.any_append,List.any_cons,List.any_nil,Bool.or_false]
 by_cases hj:j=r.at_
 ·subst hj;simp
 ·rw [if_neg hj]
  simp [Ne.symm hj]
theorem QU{N:Nat}{l l':List Rw}(h:∀ r,r∈l↔r∈l'):tkL N l=tkL N l':=by
 unfold tkL
 apply List.map_congr_left
 intro i _
 unfold Dz
 rw [Bool.eq_iff_iff,List.any_eq_true,List.any_eq_true]
 constructor
 ·rintro⟨r,h1,h2⟩;exact⟨r,(h r).1 h1,h2⟩
 ·rintro⟨r,h1,h2⟩;exact⟨r,(h r).2 h1,h2⟩
theorem QV(M:List Rw)(N:Nat):tgL M N []=tkL N M:=by simp [tgL,tkL,jF]
theorem lX(M:List Rw)(l:List Ch)(c:Ch)(i:Nat):jF M (l++[c]) i=(jF M l i || (c.gone && atL M c.key==i)):=by simp [jF]
theorem Vt(M:List Rw)(N:Nat)(l:List Ch)(k:Nat)(h:k<l.length)(hN:l[k].gone=true→atL M l[k].key<N):
  tgL M N (l.take (k+1))=if l[k].gone then (tgL M N (l.take k)).set (atL M l[k].key) false else tgL M N (l.take k):=by
 have e:l.take (k+1)=l.take k++[l[k]]:=by rw [List.take_add_one,List.getElem?_eq_getElem h];rfl
 rw [e]
 by_cases hg:l[k].gone=true
 ·rw [if_pos hg]
  symm
  refine jw (hN hg) (fun j _=> ?_)
  rw [lX,hg]
  by_cases hj:j=atL M l[k].key
  ·rw [if_pos hj,hj];simp
  ·rw [if_neg hj]
   have hj':(atL M l[k].key==j)=false:=by simpa using Ne.symm hj
   rw [hj']
   simp
 ·have hg':l[k].gone=false:=by simpa using hg
  rw [if_neg hg]
  unfold tgL
  apply List.map_congr_left
  intro i _
  rw [lX,hg']
  simp
theorem DN(M:List Rw)(N:Nat)(l:List Ch):(tgL M N l).length=N:=by simp [tgL]
theorem DL(N:Nat)(l:List Rw):(tkL N l).length=N:=by simp [tkL]
theorem aa2(M:List Rw)(l:List Ch)(k:Nat):(List.range (k+1)).filter (lY M l)=if lY M l k then (List.range k).filter (lY M l)++[k] else (List.range k).filter (lY M l):=by
 rw [List.range_succ,List.filter_append]
 simp only [List.filter_cons,List.filter_nil]
 split<;>simp
theorem Qe(M:List Rw)(l:List Ch)(k:Nat):((List.range k).filter (lY M l)).length≤k:=by
 have:=List.length_filter_le (lY M l) (List.range k)
 simpa using this
def Vk(n:Nat):List Value:=[.int .i64 (n:Int)]
theorem BJ(n:Nat):(Vk n).length=1:=rfl
theorem WR(n:Nat):∀ v∈Vk n,v.oneCell'=true:=by
 intro v hv
 simp [Vk] at hv
 subst hv
 rfl
theorem JU(a:Int)(s:ByteArray)(W:World):(Instr.field 165 (.agg #[.int .i64 a,.string s]) 0).run Tryz.prog W = .ok (.int .i64 a) W:=by kernel_rfl
theorem fV.from{α:Type}{enc:α→List Value}{k:Nat}{w w0 w':World}{v:Value}{l:List α}(kk:Only [] w w0)(h:fV enc k w0 w' v l):fV enc k w w' v l:=by
 obtain⟨A,c,h1,h2,h3,h4,h5⟩:=h
 exact⟨A,c,h1,h2,h3,kk.trans h4,fun a ha=>Nat.le_trans kk.size (h5 a ha)⟩
set_option maxRecDepth 100000 in
set_option maxHeartbeats 4000000 in
theorem Ur(w:World)(rp mb lp p n:Nat)(f:Bool)(F:List Nat)(s:St)(N:Nat)(M:List Rw)(A:Option Addr)(c:Nat)(l:List Ch)(hr:gy w rp mb lp M)(tu:oh w lp p n f)(hd:Dev w p F s)(hN:s.aA.length=41+N)
  (hM:Sorted M) (hat:∀ r∈M,r.at_<N) (hb:Els chE 3 w A l) (hs:oD l) (hl:l.length≤40) (hnews:∀ x∈l,x.gone=true→(aK M x.key).isSome=true):
  Calls Tryz.prog 82 #[.pointer (some ⟨rp,0,none⟩),.slice A l.length c] w fun e w'=>∃ v,e = .returned v∧fV Vk 1 w w' v (cZ M N l):=by
 have hfew:=hd.fine.few
 have hN1:N≤1024:=by omega
 have ae0:(N:Int)≤1024:=by omega
 have hlI:(l.length:Int)≤40:=by omega
 have hsize:=size_any w lp p n f F s tu hd
 rw [show (s.aA.length:Int)-41=(N:Int) by omega] at hsize
 obtain⟨c0,c1⟩:=hr.cells
 replace hsize:=Lib.hid hsize
 replace hM:=Lib.hid hM
 clear hfew tu hd hN
 go_enter Tryz.func82,Tryz.ntmps82
 go_wp2_with fail
 refine hsize.out.mono ?_
 rintro e w1 ⟨rfl,rfl⟩
 obtain⟨C,hC⟩:∃ C,(List.replicate N (Value.bool false)).toArray=C:=⟨_,rfl⟩
 have hCt:C=oZ (tkL N []):=by rw [←hC,QT N];rfl
 replace hC:=Lib.hid hC
 replace hCt:=Lib.hid hCt
 have kt:Only [] w1 (w1.alloc (.cells C 4)):=(Only.refl [] w1).alloc _
 have bt:=Blk.new w1 4 C
 have c1':=kt.cell c1 (by simp)
 have hr':=hr.kept kt (by simp) (by simp)
 go_wp2_with (first | (refine gY _ rfl _ _ 243 rfl 4 (.bool false) 1 Tryz.underlying243 Jv rfl .i64 .i64 N N N rfl rfl rfl rfl (by omega) (by omega) ?_;rw [hC.out]) | (at_range;refine oq rfl _ rfl rfl hr'.map ?_;intro w3 hrg3 k3))
 go_frame
 have bt3:=bt.kept k3 (by simp)
 have k13:=kt.trans k3
 have hne:w1.heap.size≠(w1.alloc (.cells C 4)).heap.size:=by simp
 obtain⟨rb,hrb⟩:∃ rb,rb=(w1.alloc (.cells C 4)).heap.size:=⟨_,rfl⟩
 have aaF:w1.heap.size<rb:=by rw [hrb];simp
 rw [←hrb] at hrg3 hne
 simp only [←hrb]
 obtain⟨tb,htb⟩:∃ tb,tb=w1.heap.size:=⟨_,rfl⟩
 rw [←htb] at bt3 hne aaF
 simp only [←htb]
 rw [hCt.out] at bt3
 have kY:Coll M (has (mapD M)) []:=Coll.start hM.out
 have hmb:mb<w1.heap.size:=hr.map.lt
 replace htb:=Lib.hid htb
 replace hrb:=Lib.hid hrb
 clear bt c1' hr' kt k3
 go_loopw [24] (fun _ wr=>∃ left cnt done,sH wr rb mb M left cnt∧Coll M left done∧Blk wr tb 4 (oZ (tkL N done))∧Only [] w1 wr) (fun _ w'=>w'.rangeLeft mb rb)
 case atStart=>exact⟨_,_,[],hrg3,kY,bt3,k13⟩
 case round=>
  clear hrg3 kY bt3 k13
  obtain⟨left,cnt,done,hrg,kY,btr,kr⟩:=hrel
  go_wp2_with (at_next;refine qA rfl _ rfl rfl hrg ?_ ?_)
  ·intro hleft
   have htk:=QU (N:=N) (kY.done hleft)
   rw [htk,←QV] at btr
   clear hrg kY htk hleft
   go_wp2_with fail
   go_loopw [34] (fun i wr=>∃ k:Nat,k≤l.length∧i = .int .i64 k∧Blk wr tb 4 (oZ (tgL M N (l.take k)))∧Only [] w1 wr) (fun i _=>l.length-(intOf i).toNat)
   case atStart=>exact⟨0,Nat.zero_le _,rfl,btr,kr⟩
   case round=>
    clear btr kr
    obtain⟨k,hk,rfl,bk,kr⟩:=hrel
    by_cases hlt:k<l.length
    ·obtain⟨g,o,rfl,hg,QI⟩:=hb.get hlt
     obtain⟨d0,d1,d2⟩:=kT QI hlt
     have c0:=kr.cell d0 (by simp)
     have c1:=kr.cell d1 (by simp)
     have c2:=kr.cell d2 (by simp)
     have hmem:=List.getElem_mem hlt
     have hsm:=hs l[k] hmem
     have hlook:=fun W (kW:Only [] w1 W)=>(hr.kept kW (by simp) (by simp)).map.look l[k].key (by omega)
     have hcl:=fun W (kW:Only [] w1 W)=>(hr.kept kW (by simp) (by simp)).cells.2
     have haN:l[k].gone=true→atL M l[k].key<N:=fun hg=>by
      obtain⟨r,hf⟩:=Option.isSome_iff_exists.1 (hnews l[k] hmem hg)
      rw [fO hf]
      exact hat r (bC hf).1
     have htk:=Vt M N l k hlt haN
     have hlen:=DN M N (l.take k)
     generalize l[k]=x at *
     obtain⟨key,val,gone⟩:=x
     simp only at c0 c1 c2 hlook haN htk
     generalize hB':tgL M N (l.take (k+1))=B' at *
     generalize tgL M N (l.take k)=B at *
     generalize atL M key=a at *
     generalize strOf (kF M key)=ov at *
     generalize strOf key=ks at *
     generalize strOf val=vs at *
     replace hB':=Lib.hid hB'
     have kal:=kr.alloc (.cells #[.string ks,.string vs,.bool gone] 133)
     have ka1:=(Only.refl [] wr).alloc (.cells #[.string ks,.string vs,.bool gone] 133)
     have bal:=Blk.new wr 133 #[.string ks,.string vs,.bool gone]
     have bk2:=bk.kept ka1 (by simp)
     have ada:tb≠wr.heap.size:=by have:=bk.lt;omega
     cases gone with
     | false=>
      have Gs:B'=B:=by rw [htk];rfl
      rw [←Gs] at bk2
      have dw:=kal
      replace bk2:=Lib.hid bk2
      clear bk htk hlook hcl kal ka1 bal
      go_wp2
      go_roundw
      case rel=>exact⟨k+1,by omega,by go_num,by rw [hB'.out];exact bk2.out,dw⟩
      case measure=>simp [intOf];omega
     | true=>
      have Gs:B'=B.set a false:=by rw [htk];rfl
      have adV:=haN rfl
      clear htk haN
      go_wp2_with fail
      generalize hw2:wr.alloc (.cells #[.string ks,.string vs,.bool true] 133)=w2 at *
      obtain⟨q,hq⟩:∃ q,q=wr.heap.size:=⟨_,rfl⟩
      rw [←hq] at bal ada
      simp only [←hq]
      replace hq:=Lib.hid hq
      replace hw2:=Lib.hid hw2
      have q0:=bal.cell 0
      simp only [List.getElem?_toArray,List.getElem?_cons_zero] at q0
      have kd:Only [] w2 w2.drew:=(Only.refl [] w2).drew
      have hS:w2.drew.cell? ⟨rp,1,none⟩=some (.map (some mb))∧w2.drew.cell? ⟨q,0,none⟩=some (.string ks)∧(Instr.lookup 89 (.map (some mb)) (.string ks) false).run Tryz.prog w2.drew = .ok (.agg #[.int .i64 (a:Int),.string ov]) w2.drew:=
       ⟨hcl _ (kal.trans kd),kd.cell q0 (by simp),hlook _ (kal.trans kd)⟩
      have bd:=bk2.kept kd (by simp)
      have u1:=bd.cell a
      rw [su _ _ (by rw [hlen];exact adV)] at u1
      generalize B[a]'(by rw [hlen];exact adV)=ub at *
      have f1:=bd.free a
      have hb7:=bd.set a (.bool false)
      rw [tK,←Gs] at hb7
      have ug:Only [tb] w2.drew (w2.drew.setCell ⟨tb,a,none⟩ (.bool false)):=(Only.refl [tb] _).setCell (.inl (by simp)) _
      have dw:=(kal.trans kd).then ug (by simp;have:=htb.out;omega)
      have haI:(a:Int)<(N:Int):=by omega
      have hS7:(w2.drew.setCell ⟨tb,a,none⟩ (.bool false)).cell? ⟨rp,1,none⟩=some (.map (some mb))∧(w2.drew.setCell ⟨tb,a,none⟩ (.bool false)).cell? ⟨q,0,none⟩=some (.string ks)∧(Instr.lookup 89 (.map (some mb)) (.string ks) false).run Tryz.prog (w2.drew.setCell ⟨tb,a,none⟩ (.bool false)) = .ok (.agg #[.int .i64 (a:Int),.string ov]) (w2.drew.setCell ⟨tb,a,none⟩ (.bool false)):=
       ⟨hcl _ dw,ug.cell hS.2.1 (by simpa using fun h=>ada h.symm),hlook _ dw⟩
      have Yw:=fun W=>JU (a:Int) ov W
      replace hb7:=Lib.hid hb7
      replace hS7:=Lib.hid hS7
      replace hlook:=Lib.hid hlook
      replace hcl:=Lib.hid hcl
      replace Gs:=Lib.hid Gs
      replace hlen:=Lib.hid hlen
      clear bk bk2 ka1 bal kal c0 c1 c2 ug bd
      refine wp_region_held_drew (S:=fun w'=>w'.cell? ⟨rp,1,none⟩=some (.map (some mb))∧w'.cell? ⟨q,0,none⟩=some (.string ks)∧(Instr.lookup 89 (.map (some mb)) (.string ks) false).run Tryz.prog w' = .ok (.agg #[.int .i64 (a:Int),.string ov]) w') (by kernel_rfl) hS (fun hHeld=> ?_)
      refine rwT 0 (.slice (some ⟨tb,0,none⟩) N N) hHeld ?_;simp only [rwA]
      refine rwT 1 (.pointer (some ⟨rp,0,none⟩)) hHeld ?_;simp only [rwA]
      refine rwT 2 (.pointer (some ⟨rp,0,none⟩)) hHeld ?_;simp only [rwA]
      refine rwT 3 (.pointer (some ⟨rp,1,none⟩)) hHeld ?_;simp only [rwA]
      refine rwT 4 (.map (some mb)) hHeld ?_;simp only [rwA]
      refine rwT 5 (.pointer (some ⟨q,0,none⟩)) hHeld ?_;simp only [rwA]
      refine rwT 6 (.string ks) hHeld ?_;simp only [rwA]
      refine rwT 7 (.agg #[.int .i64 (a:Int),.string ov]) hHeld ?_;simp only [rwA]
      refine rwT 8 (.int .i64 (a:Int)) hHeld ?_;simp only [rwA]
      refine rwT 9 (.pointer (some ⟨tb,a,none⟩)) hHeld ?_;simp only [rwA]
      refine ah 10 rfl (by kernel_rfl) (fun K hK=> ?_)
      go_simp
      refine hK.out _ _ hS7.out (fun hHeld=> ?_)
      clear hK K
      refine wpAnyH_done (by kernel_rfl) ?_ _
      clear hHeld
      clear hS q0 u1 f1
      go_wp2
      go_roundw
      case rel=>exact⟨k+1,by omega,by go_num,by rw [hB'.out];exact hb7.out,dw⟩
      case measure=>simp [intOf];omega
    ·have hkl:k=l.length:=by omega
     subst hkl
     rw [List.take_of_length_le (Nat.le_refl _)] at bk
     have hlen:=DN M N l
     have hfr:∀ k (h:k<N),(tgL M N l)[k]'(by rw [hlen];exact h) = !lY M l k:=fun k h=>by simp [tgL,lY]
     generalize hB:tgL M N l=B at *
     replace hB:=Lib.hid hB
     replace hfr:=Lib.hid hfr
     replace hlen:=Lib.hid hlen
     go_wp2_with fail
     obtain⟨wB,hwB⟩:∃ wB:World,wB=wr:=⟨_,rfl⟩
     rw [←hwB] at bk kr
     rw [←hwB]
     replace hwB:=Lib.hid hwB
     go_loopw [10,53] (fun v i wr=>∃ k:Nat,k≤N∧i = .int .i64 k∧Mine Vk 1 3 wB wr v ((List.range k).filter (lY M l))) (fun _ i _=>N-(intOf i).toNat)
     case atStart=>exact⟨0,Nat.zero_le _,rfl,Mine.start _ _ _ (Only.refl _ _)⟩
     case round=>
      obtain⟨k,hk,rfl,aG⟩:=hrel
      by_cases hlt:k<N
      ·have u1:=(bk.kept aG.only (by simp)).cell k
       rw [su _ _ (by rw [hlen.out];exact hlt),hfr.out k hlt] at u1
       have hup:=aa2 M l k
       have hul:=Qe M l k
       generalize hL':(List.range (k+1)).filter (lY M l)=L' at *
       generalize (List.range k).filter (lY M l)=L at *
       replace hL':=Lib.hid hL'
       cases hfp:lY M l k with
       | false=>
        rw [hfp] at u1
        have hLL:L'=L:=by rw [hup,hfp];rfl
        rw [←hLL] at aG
        replace hLL:=Lib.hid hLL
        clear hup hfp
        simp only [Bool.not_false] at u1
        go_wp2
        go_roundw
        case rel=>exact⟨k+1,by omega,by go_num,by rw [hL'.out];exact aG⟩
        case measure=>simp [intOf];omega
       | true=>
        rw [hfp] at u1
        have hLL:L'=L++[k]:=by rw [hup,hfp];rfl
        simp only [Bool.not_true] at u1
        have ka:=(Only.refl [] wr).alloc (.cells #[.int .i64 (k:Int)] 3)
        have m3:=aG.keep ka
        have b3:Blk (wr.alloc (.cells #[.int .i64 (k:Int)] 3)) wr.heap.size 3 (Vk k).toArray:=Blk.new _ _ _
        replace hLL:=Lib.hid hLL
        clear hup hfp aG
        go_wp2_with (at_builtin;go_must (refine dH rfl _ _ 81 rfl 3 _ 8 BJ (by decide) WR Tryz.underlying81 WS rfl _ L.length L rfl m3.own wr.heap.size k _ rfl b3 (by unfold maxLen;omega) (by omega) ?_);intro vv' w5 h5 g5 a5)
        have m5:=m3.pushed h5 g5 a5
        rw [←hLL.out] at m5
        clear h5 g5 a5 m3 b3 ka u1
        go_wp2
        go_roundw
        case rel=>exact⟨k+1,by omega,by go_num,by rw [hL'.out];exact m5⟩
        case measure=>simp [intOf];omega
      ·have hkN:k=N:=by omega
       subst hkN
       have hfin:=(aG.els BJ).from kr
       replace hfin:=Lib.hid hfin
       clear aG bk
       go_wp2
       go_ret
       exact⟨_,rfl,hfin.out⟩
  ·intro r w5 ZM hrM hlr Yn Kz k5 hent
   have acN:=hat r hrM
   have kr5:=kr.then k5 (by simp;have:=htb.out;omega)
   have uw:=kY.step hM.out hrM hlr
   have PZ:=Ny N done r acN
   have QH:=hrg.left_eq
   have k6:Only [] w5 (w5.alloc (.cells #[.int .i64 (r.at_:Int),.string (strOf r.val)] 165)):=(Only.refl [] w5).alloc _
   have b6:=(btr.kept k5 (by simp;omega)).kept k6 (by simp)
   have q1:=b6.cell r.at_
   rw [su _ _ (by rw [DL];exact acN)] at q1
   have f1:=b6.free r.at_
   have hb7:=b6.set r.at_ (.bool true)
   rw [tK,PZ] at hb7
   have Vm:=Yn.kept k6 (by simp) (by simp)
   have ug:Only [tb] (w5.alloc (.cells #[.int .i64 (r.at_:Int),.string (strOf r.val)] 165)) ((w5.alloc (.cells #[.int .i64 (r.at_:Int),.string (strOf r.val)] 165)).setCell ⟨tb,r.at_,none⟩ (.bool true)):=(Only.refl [tb] _).setCell (.inl (by simp)) _
   have Y9:=Vm.kept ug (by simp;omega) (by simp;have:=htb.out;omega)
   have kr7:=(kr5.trans k6).then ug (by simp;have:=htb.out;omega)
   have acn:=Y9.left_eq
   have hI:(r.at_:Int)<(N:Int):=by omega
   generalize (tkL N done)[r.at_]'(by rw [DL];exact acN)=u at *
   generalize strOf r.key=ks at *
   generalize strOf r.val=vs at *
   replace hb7:=Lib.hid hb7
   replace Y9:=Lib.hid Y9
   replace kr7:=Lib.hid kr7
   replace uw:=Lib.hid uw
   replace QH:=Lib.hid QH
   replace acn:=Lib.hid acn
   replace PZ:=Lib.hid PZ
   clear hrg Yn Vm kr5 kr k5 k6 ug b6 btr kY hlr
   go_wp2
   go_roundw
   case rel=>exact⟨_,ZM,done++[r],Y9.out,uw.out,hb7.out,kr7.out⟩
   case measure=>rw [acn.out,QH.out];exact Kz
end Go.Proofs.YtmelaiefbpdifaaGreatDoor
/- slices.SortFunc at changes and at steps, over a slice of the call's own. -/
namespace Go.Proofs.YtmelaiefbpdifaaGreatDoor
open Go.RowKit Go.Sort Go.Shelf
section
variable {α:Type}[Inhabited α]{enc:α→List Value}{k:Nat}
theorem Xz(hk:∀ x,(enc x).length=k)(l:List α)(j:Nat)(hj:j<l.length*k):(encs enc l)[j]?=some ((flatK enc k l.toArray)[j]!):=by
 have hk0:0<k:=by
  rcases Nat.eq_zero_or_pos k with h | h
  ·subst h;simp at hj
  ·exact h
 have hi:j / k<l.length:=(Nat.div_lt_iff_lt_mul hk0).2 hj
 have e:j=j / k*k+j % k:=by rw [Nat.mul_comm];exact (Nat.div_add_mod j k).symm
 rw [get_flatK enc k l.toArray j (by simpa using hj)]
 have hm:j % k<(enc l[j / k]).length:=by rw [hk];exact Nat.mod_lt _ hk0
 have h1:=rW (enc:=enc) hk l (j / k) hi (j % k) ((enc l[j / k])[j % k]) (List.getElem?_eq_getElem hm)
 rw [←e] at h1
 rw [h1]
 have h2:l.toArray[j / k]! = l[j / k]:=by simp [hi]
 rw [h2]
 simp [hm]
theorem Bh{W:World}{g n off:Nat}{os:Array Obj}(d:Array α):Only [g] W (sortWorldK enc k W g off n d os):=by
 unfold sortWorldK putRowK
 refine⟨rfl,rfl,rfl,by simp [grow,putRow,mapBlock],fun i hi hn=> ?_⟩
 have:g≠i:=fun e=>hn (by simp [e])
 rw [heap_grow_old _ _ (by simpa [putRow,mapBlock] using hi)]
 simp [putRow,mapBlock,Array.getElem?_modify,this]
theorem Py{d d':Array α}(h:PermIn 0 d.size d d'):d'.toList.Perm d.toList:=by
 obtain⟨h1,_,h3⟩:=h
 rw [Array.extract_eq_self_of_le (by omega),Array.extract_eq_self_of_le (by omega)] at h3
 exact h3
theorem Dp{lt:α→α→Bool}{d:Array α}(h:SortedIn lt 0 d.size d):d.toList.Pairwise (fun a b=>lt b a=false):=by
 rw [List.pairwise_iff_getElem]
 intro i j hi hj hij
 have:=h i j (Nat.zero_le _) hij (by simpa using hj)
 rw [getElem!_pos d j (by simpa using hj),getElem!_pos d i (by simpa using hi)] at this
 simpa using this
def acZ(k:Nat)(w:World)(v:Value)(n:Nat):Prop:=∀ g o m c,v = .slice (some ⟨g,o,none⟩) m c→∀ i j,i<n→j<k→w.frozen? ⟨g,o+i*k+j,none⟩=false
theorem Jg{P:Program}{e:TypeId}{w W:World}{v fv:Value}{l:List α}{f:Nat}{lt:α→α→Bool}(hk:∀ x,(enc x).length=k)(h:Mine enc k e w W v l)(hl:l.length≤1048576)
  (hcall:∀ blk off cap (d:Array α),HoldsK enc k W blk off d→blk<W.heap.size→d.size<4611686018427387904→Calls P f #[.slice (some ⟨blk,off,none⟩) d.size cap,fv] W fun e w'=>e = .returned (.tuple #[])∧∃ d' n os,PermIn 0 d.size d d'∧SortedIn lt 0 d.size d'∧w'=sortWorldK enc k W blk off n d' os)
  (hnone:∀ p cap,Calls P f #[.slice p 0 cap,fv] W fun e w'=>e = .returned (.tuple #[])∧w'=W):
  Calls P f #[v,fv] W fun e w'=>e = .returned (.tuple #[])∧∃ l',l'.Perm l∧l'.Pairwise (fun a b=>lt b a=false)∧fV enc k w w' v l'∧acZ k w' v l'.length:=by
 obtain⟨A,c,hv,hc,hels,aF,hnew⟩:=h.els hk
 by_cases h0:l = []
 ·subst h0
  rw [hv]
  exact (hnone A c).mono fun e w' ⟨he,hw⟩=>⟨he,[],List.Perm.refl _,List.Pairwise.nil,⟨A,c,rfl,hc,.inl rfl,by rw [hw];exact aF,hnew⟩,fun g o m c _ i j hi=>absurd hi (Nat.not_lt_zero _)⟩
 ·have hlen:0<l.length:=List.length_pos_iff.2 h0
  rcases id h.own.2 with⟨hv',hx⟩ | ⟨g,cap,cur,hv',_,hb,hnc,hcm,hcs,htake⟩
  ·exact absurd hx (by omega)
  ·have hgW:g<W.heap.size:=(Array.getElem?_eq_some_iff.1 hb).1
   have hgw:w.heap.size≤g:=h.new g (by rw [hv'];rfl)
   have hH:HoldsK enc k W g 0 l.toArray:=by
    intro j hj
    have hj':j<l.length*k:=by simpa using hj
    refine⟨?_,by simp [World.frozen?,hb]⟩
    have h1:=Xz (enc:=enc) hk l j hj'
    rw [←htake,List.getElem?_take_of_lt hj'] at h1
    simp only [World.cell?,hb,Nat.zero_add,Option.isSome_none,Bool.false_eq_true,if_false]
    rw [←Array.getElem?_toList,h1]
    rfl
   rw [hv']
   refine (hcall g 0 cap l.toArray hH hgW (by simp;omega)).mono ?_
   rintro e w' ⟨he,d',n,os,hp,hs,rfl⟩
   have hp':=Py hp
   have hsz:d'.size=l.toArray.size:=hp.1
   rw [←hsz] at hs
   have hdl:d'.toList.length=l.length:=by simpa using hsz
   refine⟨he,d'.toList,by simpa using hp',Dp hs,⟨some ⟨g,0,none⟩,cap,by rw [hdl],by rw [hdl];exact hnc,.inr ⟨g,0,rfl,?_,?_⟩,h.only.then (Bh d') (fun i hi=> ?_),fun a ha=>by injection ha with ha;subst ha;exact hgw⟩,?_⟩
   ·exact Nat.lt_of_lt_of_le hgW (Bh (enc:=enc) (k:=k) (W:=W) (g:=g) (n:=n) (off:=0) (os:=os) d').size
   ·have hH':=holdsK_sortWorldK enc k W g 0 n l.toArray d' os hgW hH hsz
    intro i hi j u hu
    have hi':i<d'.size:=by simpa using hi
    have hju:j<k:=by have:=(List.getElem?_eq_some_iff.1 hu).1;rwa [hk] at this
    have:=(hH'.cell hi' hju).1
    rw [this,getElem!_pos d' i hi']
    have e2:d'.toList[i]=d'[i]:=by simp
    rw [e2] at hu
    obtain⟨hj2,hu2⟩:=List.getElem?_eq_some_iff.1 hu
    rw [getElem!_pos _ j hj2,hu2]
   ·simp only [List.mem_singleton] at hi
    subst hi
    exact .inr hgw
   ·intro g' o' m' c' e i j hi hj
    injection e with e
    injection e with e
    injection e with e1 e2
    subst e1
    subst e2
    have hH':=holdsK_sortWorldK enc k W g 0 n l.toArray d' os hgW hH hsz
    exact (hH'.cell (by simpa using hi) hj).2
end
theorem DJ(W:World)(o o':Obj):∃ q os',(W.alloc o).alloc o'=grow (W.drewN q) os':=⟨0,#[o] ++ #[o'],by rw [←grow_grow,←alloc_eq_grow,←alloc_eq_grow];rfl⟩
theorem UR(W:World)(x y:Ch):Calls Tryz.prog 128 #[.agg (chE x).toArray,.agg (chE y).toArray] W fun e w'=>e = .returned (.int .i64 (Lib.compareBytes x.key y.key))∧∃ q os',w'=grow (W.drewN q) os':=by
 obtain⟨k1,v1,g1⟩:=x
 obtain⟨k2,v2,g2⟩:=y
 have hc:=fun W=>Tryz.strings_Compare (strOf k1) (strOf k2) W
 rw [dh,dh] at hc
 show Calls Tryz.prog _ #[.agg #[.string (strOf k1),.string (strOf v1),.bool g1],.agg #[.string (strOf k2),.string (strOf v2),.bool g2]] W _
 have h2:=DJ W (.cells #[.string (strOf k1),.string (strOf v1),.bool g1] 133) (.cells #[.string (strOf k2),.string (strOf v2),.bool g2] 133)
 generalize Lib.compareBytes k1 k2=r at *
 generalize strOf k1=s1 at *
 generalize strOf k2=s2 at *
 generalize strOf v1=t1 at *
 generalize strOf v2=t2 at *
 replace hc:=Lib.hid hc
 replace h2:=Lib.hid h2
 go_enter Tryz.func128,Tryz.ntmps128
 go_wp2_with fail
 refine (hc.out _).mono ?_
 rintro e w1 ⟨rfl,rfl⟩
 go_wp2
 go_ret
 exact⟨rfl,h2.out⟩
theorem UQ(W:World)(x y:Sp):Calls Tryz.prog 85 #[.agg (spE x).toArray,.agg (spE y).toArray] W fun e w'=>e = .returned (.int .i64 (Lib.compareInt (x.at_:Int) (y.at_:Int)))∧∃ q os',w'=grow (W.drewN q) os':=by
 obtain⟨a1,k1,v1,g1⟩:=x
 obtain⟨a2,k2,v2,g2⟩:=y
 have hc:=fun W=>Tryz.cmp_Compare_int (a1:Int) (a2:Int) W
 show Calls Tryz.prog _ #[.agg #[.int .i64 (a1:Int),.string (strOf k1),.string (strOf v1),.bool g1],.agg #[.int .i64 (a2:Int),.string (strOf k2),.string (strOf v2),.bool g2]] W _
 simp only
 have h2:=DJ W (.cells #[.int .i64 (a1:Int),.string (strOf k1),.string (strOf v1),.bool g1] 173) (.cells #[.int .i64 (a2:Int),.string (strOf k2),.string (strOf v2),.bool g2] 173)
 generalize (a1:Int)=b1 at *
 generalize (a2:Int)=b2 at *
 generalize Lib.compareInt b1 b2=r at *
 generalize strOf k1=s1 at *
 generalize strOf k2=s2 at *
 generalize strOf v1=t1 at *
 generalize strOf v2=t2 at *
 replace hc:=Lib.hid hc
 replace h2:=Lib.hid h2
 go_enter Tryz.func85,Tryz.ntmps85
 go_wp2_with fail
 refine (hc.out _).mono ?_
 rintro e w1 ⟨rfl,rfl⟩
 go_wp2
 go_ret
 exact⟨rfl,h2.out⟩
def ltC(x y:Ch):Bool:=bytesBefore x.key y.key
def ltS(x y:Sp):Bool:=decide (x.at_<y.at_)
theorem Yl:ltOf (fun x y:Ch=>Lib.compareBytes x.key y.key)=ltC:=by
 funext x y
 exact YC _ _
theorem Yk:ltOf (fun x y:Sp=>Lib.compareInt (x.at_:Int) (y.at_:Int))=ltS:=by
 funext x y
 unfold ltOf ltS Lib.compareInt
 by_cases h1:x.at_<y.at_
 ·have:(x.at_:Int)<y.at_:=by omega
  simp [h1]
 ·by_cases h2:y.at_<x.at_
  ·simp [h1,h2]
  ·simp [h1,h2]
theorem ad7:SWO ltC where
 irrefl x:=xC _
 trans x y z:=xA _ _ _
 ntrans x y z h1 h2:=by
  unfold ltC at *
  cases h:bytesBefore x.key z.key
  ·rfl
  ·by_cases hxy:x.key=y.key
   ·rw [hxy,h2] at h;cases h
   ·rcases xB _ _ hxy with h3 | h3
    ·rw [h1] at h3;cases h3
    ·have:=xA _ _ _ h3 h
     rw [h2] at this;cases this
theorem ad6:SWO ltS where
 irrefl x:=by simp [ltS]
 trans x y z h1 h2:=by simp [ltS] at *;omega
 ntrans x y z h1 h2:=by simp [ltS] at *;omega
set_option maxRecDepth 100000 in
theorem OU{w W:World}{v:Value}{l:List Ch}(h:Mine chE 3 133 w W v l)(hl:l.length≤1048576):
  Calls Tryz.prog 127 #[v,.func (.func 128) #[] #[]] W fun e w'=>e = .returned (.tuple #[])∧∃ l',l'.Perm l∧l'.Pairwise (fun a b=>ltC b a=false)∧fV chE 3 w w' v l'∧acZ 3 w' v l'.length:=by
 refine Jg eH h hl (fun blk off cap d hH hb hd=> ?_) (fun p cap=> ?_)
 ·have eg:∀ args w,(callFunc 128 args).run Tryz.prog w = .ok (.enter 128 args) w:=enters_of Tryz.func128 (by kernel_rfl) rfl
  have:=AnyQ.slices_SortFunc Tryz.Yb 3 Tryz.isAgg133 Tryz.sizeOf133 chE eH vw (fun x y:Ch=>Lib.compareBytes x.key y.key) (by rw [Yl];exact ad7) 128 #[] blk off cap d W eg (fun m os dk _ x y=>UR _ x y) hH hb hd
  rw [Yl] at this
  exact this
 ·have:=AnyF.slices_SortFunc_none Tryz.Yb p cap (.func (.func 128) #[] #[]) W
  exact this
set_option maxRecDepth 100000 in
theorem OQ{w W:World}{v:Value}{l:List Sp}(h:Mine spE 4 173 w W v l)(hl:l.length≤1048576):
  Calls Tryz.prog 84 #[v,.func (.func 85) #[] #[]] W fun e w'=>e = .returned (.tuple #[])∧∃ l',l'.Perm l∧l'.Pairwise (fun a b=>ltS b a=false)∧fV spE 4 w w' v l':=by
 refine (Jg (lt:=ltS) oC h hl (fun blk off cap d hH hb hd=> ?_) (fun p cap=> ?_)).mono (fun e w' ⟨he,l',h1,h2,h3,_⟩=>⟨he,l',h1,h2,h3⟩)
 ·have eg:∀ args w,(callFunc 85 args).run Tryz.prog w = .ok (.enter 85 args) w:=enters_of Tryz.func85 (by kernel_rfl) rfl
  have:=AnyQ.slices_SortFunc Tryz.Nz 4 Tryz.isAgg173 Tryz.sizeOf173 spE oC FI (fun x y:Sp=>Lib.compareInt (x.at_:Int) (y.at_:Int)) (by rw [Yk];exact ad6) 85 #[] blk off cap d W eg (fun m os dk _ x y=>UQ _ x y) hH hb hd
  rw [Yk] at this
  exact this
 ·have:=AnyF.slices_SortFunc_none Tryz.Nz p cap (.func (.func 85) #[] #[]) W
  exact this
end Go.Proofs.YtmelaiefbpdifaaGreatDoor
/- Under, All: the rows, told as changes, rising. -/
namespace Go.Proofs.YtmelaiefbpdifaaGreatDoor
open Go.RowKit Go.Maps
def oU(r:Rw):Ch:=⟨r.key,r.val,false⟩
def um(p k:List UInt8):Bool:=Lib.hasPrefix k p
def aP(M:List Rw)(p:List UInt8):List Ch:=(M.filter fun r=>um p r.key).map oU
theorem KG(l:List Rw)(r:Rw)(p:List UInt8):aP (l++[r]) p=if um p r.key then aP l p++[oU r] else aP l p:=by
 unfold aP
 rw [List.filter_append]
 simp only [List.filter_cons,List.filter_nil]
 split<;>simp
theorem DI(l:List Rw)(p:List UInt8):(aP l p).length≤l.length:=by
 unfold aP
 rw [List.length_map]
 exact List.length_filter_le _ _
theorem Ij{M done:List Rw}{p:List UInt8}{l':List Ch}(hs:Sorted M)(hp:done.Perm M)(h1:l'.Perm (aP done p))(h2:l'.Pairwise (fun a b=>ltC b a=false)):l'=aP M p:=by
 have h3:(aP done p).Perm (aP M p):=(hp.filter _).map _
 have h4:(aP M p).Pairwise (fun a b:Ch=>ltC b a=false):=by
  unfold aP
  rw [List.pairwise_map]
  exact (hs.filter _).imp fun h=>Hu _ _ h
 have h5:∀ a b,a∈aP M p→b∈aP M p→a.key=b.key→a=b:=by
  intro a b ha hb e
  obtain⟨x,hx,rfl⟩:=List.mem_map.1 ha
  obtain⟨y,hy,rfl⟩:=List.mem_map.1 hb
  rw [hs.inj (List.mem_filter.1 hx).1 (List.mem_filter.1 hy).1 e]
 refine List.Perm.eq_of_pairwise (le:=fun a b=>ltC b a=false) (fun a b ha hb e1 e2=> ?_) h2 h4 (h1.trans h3)
 have ha':=(h1.trans h3).mem_iff.1 ha
 have hb':b∈aP M p:=hb
 refine h5 a b ha' hb' ?_
 by_cases hk:a.key=b.key
 ·exact hk
 ·rcases xB _ _ hk with h | h
  ·unfold ltC at e2;rw [h] at e2;cases e2
  ·unfold ltC at e1;rw [h] at e1;cases e1
theorem I9{α:Type}{enc:α→List Value}{k:Nat}{e:TypeId}{w w1:World}{v:Value}{l:List α}{rb mb cnt:Nat}{M:List Rw}{left:Lit→Bool}(h:Mine enc k e w w1 v l)(hr:sH w1 rb mb M left cnt):∀ g,v.ownBlock=some g→g≠rb:=by
 rintro g hg rfl
 obtain⟨es,clock,since,seen,c0,_,_,_,_,hit,_⟩:=hr
 rcases h.own.2 with⟨hv,_⟩ | ⟨g',cap,cur,hv,_,hb,_⟩
 ·rw [hv] at hg;simp [Value.ownBlock] at hg
 ·rw [hv] at hg
  simp only [Value.ownBlock,Option.some.injEq] at hg
  subst hg
  rw [hb] at hit
  cases hit
theorem Mine.beside{α:Type}{enc:α→List Value}{k:Nat}{e:TypeId}{w w1 w2:World}{v:Value}{l:List α}{S:List Nat}(h:Mine enc k e w w1 v l)(kk:Only S w1 w2)(h1:∀ g,v.ownBlock=some g→g∉S)(h2:∀ i∈S,w.heap.size≤i):Mine enc k e w w2 v l:=
 ⟨ay h.own kk h1,h.new,h.only.then kk (fun i hi=>.inr (h2 i hi))⟩
theorem sS{w w':World}{v:Value}(h:w.grownBy w' v.ownBlock):Only v.ownBlock.toList w w':=(Only.refl _ w).grown h (fun j hj=>.inl (by simp [hj]))
set_option maxRecDepth 100000 in
set_option maxHeartbeats 2000000 in
theorem Ik(w:World)(rp mb lp:Nat)(M:List Rw)(p:List UInt8)(hr:gy w rp mb lp M)(hM:Sorted M)(hl:M.length≤1048576):
  Calls Tryz.prog 69 #[.pointer (some ⟨rp,0,none⟩),.string (strOf p)] w fun e w'=>∃ v,e = .returned v∧fV chE 3 w w' v (aP M p)∧acZ 3 w' v (aP M p).length:=by
 obtain⟨c0,c1⟩:=hr.cells
 have hpre:=fun k W=>Tryz.strings_HasPrefix (strOf k) (strOf p) W
 have hpre':∀ k W,Calls Tryz.prog 126 #[.string (strOf k),.string (strOf p)] W fun e w'=>e = .returned (.bool (um p k))∧w'=W:=fun k W=>by
  have:=hpre k W
  rw [dh,dh] at this
  exact this
 clear hpre
 generalize strOf p=ps at *
 replace hpre':=Lib.hid hpre'
 have hmb:mb<w.heap.size:=hr.map.lt
 have kY:Coll M (has (mapD M)) []:=Coll.start hM
 replace hM:=Lib.hid hM
 go_enter Tryz.func69,Tryz.ntmps69
 go_wp2_with (at_range;refine oq rfl _ rfl rfl hr.map ?_;intro w3 hrg3 k3)
 go_frame
 obtain⟨rb,hrb⟩:∃ rb,rb=w.heap.size:=⟨_,rfl⟩
 rw [←hrb] at hrg3
 simp only [←hrb]
 replace hrb:=Lib.hid hrb
 go_loopw [5] (fun v wr=>∃ left cnt done,sH wr rb mb M left cnt∧Coll M left done∧done.length+cnt≤M.length∧Mine chE 3 133 w wr v (aP done p)) (fun _ w'=>w'.rangeLeft mb rb)
 case atStart=>exact⟨_,_,[],hrg3,kY,by simp,Mine.start _ _ _ k3⟩
 case round=>
  clear hrg3 kY k3 c0 c1
  obtain⟨left,cnt,done,hrg,kY,hcnt,aG⟩:=hrel
  go_wp2_with (at_next;refine qA rfl _ rfl rfl hrg ?_ ?_)
  ·intro hleft
   have hperm:=kY.perm hM.out hleft
   have hsort:=OU aG (by have:=DI done p;omega)
   have hfin:=fun l' h1 h2=>Ij (l':=l') (p:=p) hM.out hperm h1 h2
   replace hsort:=Lib.hid hsort
   replace hfin:=Lib.hid hfin
   clear hrg kY aG hleft
   go_wp2_with fail
   refine hsort.out.mono ?_
   rintro e w5 ⟨rfl,l',h1,h2,h3⟩
   rw [hfin.out l' h1 h2] at h3
   clear h1 h2
   go_wp2
   go_ret
   exact⟨_,rfl,h3⟩
  ·intro r w5 ZM hrM hlr Yn Kz k5 hent
   have aeo:w.heap.size≤rb:=by have:=hrb.out;omega
   have aby:mb∉[rb]:=by simp;have:=hrb.out;omega
   have uw:=kY.step hM.out hrM hlr
   have QH:=hrg.left_eq
   have hsn:=KG done r p
   have hul:=DI done p
   have hpk:=fun W=>hpre'.out r.key W
   have k6:Only [] w5 (w5.alloc (.cells #[.int .i64 (r.at_:Int),.string (strOf r.val)] 165)):=(Only.refl [] w5).alloc _
   have b6:=Blk.new w5 165 #[.int .i64 (r.at_:Int),.string (strOf r.val)]
   have q1:=b6.cell 1
   simp only [List.getElem?_toArray,List.getElem?_cons_zero,List.getElem?_cons_succ] at q1
   have hne:=I9 aG hrg
   have hm5:=aG.beside k5 (fun g hg hm=>by
    simp only [List.mem_singleton] at hm
    exact hne g hg hm) (by simp;exact aeo)
   have L6:=aG.new
   have hm6:=hm5.keep k6
   have Vm:=Yn.kept k6 (by simp) (by simp)
   generalize hks:strOf r.key=ks at *
   generalize hvs:strOf r.val=vs at *
   have henc:chE (oU r) = [.string ks,.string vs,.bool false]:=by rw [←hks,←hvs];rfl
   generalize um p r.key=b at *
   have aaY:(done++[r]).length+ZM≤M.length:=by simp;omega
   have hdl:done.length≤M.length:=by omega
   generalize hU:aP (done++[r]) p=U at *
   generalize aP done p=L at *
   replace hU:=Lib.hid hU
   replace hks:=Lib.hid hks
   replace hvs:=Lib.hid hvs
   replace hpk:=Lib.hid hpk
   replace QH:=Lib.hid QH
   replace henc:=Lib.hid henc
   clear hrg Yn aG hm5 kY hlr k5 b6
   cases b with
   | false=>
    have hUL:U=L:=by rw [hsn];rfl
    rw [←hUL] at hm6
    have Zh:=Vm.left_eq
    replace hUL:=Lib.hid hUL
    replace Zh:=Lib.hid Zh
    clear hsn
    go_wp2_with fail
    refine (hpk.out _).mono ?_
    rintro e w7 ⟨rfl,rfl⟩
    go_wp2
    go_roundw
    case rel=>exact⟨_,ZM,done++[r],Vm,uw,aaY,by rw [hU.out];exact hm6⟩
    case measure=>rw [Zh.out,QH.out];exact Kz
   | true=>
    have hUL:U=L++[oU r]:=by rw [hsn];rfl
    have k7:=(Only.refl [] (w5.alloc (.cells #[.int .i64 (r.at_:Int),.string vs] 165))).alloc (.cells #[.string ks,.string vs,.bool false] 133)
    have hm7:=hm6.keep k7
    have Y9:=Vm.kept k7 (by simp) (by simp)
    have b7:Blk ((w5.alloc (.cells #[.int .i64 (r.at_:Int),.string vs] 165)).alloc (.cells #[.string ks,.string vs,.bool false] 133)) (w5.heap.size+1) 133 (chE (oU r)).toArray:=by
     rw [henc.out]
     have:=Blk.new (w5.alloc (.cells #[.int .i64 (r.at_:Int),.string vs] 165)) 133 #[.string ks,.string vs,.bool false]
     rwa [show (w5.alloc (.cells #[.int .i64 (r.at_:Int),.string vs] 165)).heap.size=w5.heap.size+1 by simp] at this
    replace hUL:=Lib.hid hUL
    clear hsn hm6 Vm k7
    go_wp2_with (first | (go_at_call 126;refine (hpk.out _).mono ?_;rintro e w7 ⟨rfl,rfl⟩) | (at_builtin;go_must (refine dH rfl _ _ 22 rfl 133 _ 40 eH (by decide) vw Tryz.underlying22 yh rfl _ L.length L rfl hm7.own (w5.heap.size+1) (oU r) _ rfl b7 (by unfold maxLen;omega) (by omega) ?_);intro vv' w8 h8 g8 a8))
    have hm8:=hm7.pushed h8 g8 a8
    rw [←hUL.out] at hm8
    have ado:=Y9.kept (sS g8) (fun hm=>hne rb (Option.mem_toList.1 hm) rfl) (fun hm=>by have:=L6 mb (Option.mem_toList.1 hm);omega)
    have acj:=ado.left_eq
    replace acj:=Lib.hid acj
    clear h8 g8 a8 hm7 Y9 b7 q1 hent
    go_wp2
    go_roundw
    case rel=>exact⟨_,ZM,done++[r],ado,uw,aaY,by rw [hU.out];exact hm8⟩
    case measure=>rw [acj.out,QH.out];exact Kz
end Go.Proofs.YtmelaiefbpdifaaGreatDoor
/- steps: what changes do to home blocks. -/
namespace Go.Proofs.YtmelaiefbpdifaaGreatDoor
open Go.RowKit Go.Maps
def uI(M:List Rw)(st:List Sp × List Nat)(c:Ch):List Sp × List Nat:=
 if c.gone then st else if (aK M c.key).isSome then (st.1++[⟨atL M c.key,c⟩],st.2) else (st.1++[⟨st.2.headD 0,c⟩],st.2.tail)
def aX(M:List Rw)(fr:List Nat)(l:List Ch):List Sp × List Nat:=l.foldl (uI M) ([],fr)
theorem pI(M:List Rw)(fr:List Nat)(l:List Ch)(k:Nat)(h:k<l.length):aX M fr (l.take (k+1))=uI M (aX M fr (l.take k)) l[k]:=by
 rw [List.take_add_one,List.getElem?_eq_getElem h]
 unfold aX
 rw [List.foldl_append]
 rfl
def fK(M:List Rw)(c:Ch):Bool:=!c.gone && !(aK M c.key).isSome
def iw(M:List Rw)(l:List Ch):Nat:=(l.filter (fK M)).length
theorem Bo(M:List Rw)(l:List Ch)(k:Nat)(h:k<l.length):iw M (l.take (k+1))=iw M (l.take k)+if fK M l[k] then 1 else 0:=by
 rw [List.take_add_one,List.getElem?_eq_getElem h]
 unfold iw
 rw [List.filter_append,List.length_append]
 simp only [Option.toList_some,List.filter_cons,List.filter_nil]
 split<;>simp
theorem yY(M:List Rw)(l:List Ch)(k:Nat):iw M (l.take k)≤iw M l:=by
 unfold iw
 exact ((List.take_sublist k l).filter _).length_le
theorem jJ(M:List Rw)(fr:List Nat)(l:List Ch):∀ k,k≤l.length→(aX M fr (l.take k)).2=fr.drop (iw M (l.take k))
 | 0,_=>by simp [aX,iw]
 | k+1,h=>by
  have ih:=jJ M fr l k (by omega)
  rw [pI M fr l k (by omega),Bo M l k (by omega)]
  unfold uI fK
  generalize l[k]=c
  cases hg:c.gone with
  | true=>simpa using ih
  | false=>
   cases hf:(aK M c.key).isSome with
   | true=>simpa using ih
   | false=>
    simp only [Bool.false_eq_true,if_false,ih,Bool.not_false,Bool.and_self,if_true]
    rw [List.tail_drop]
theorem xO(M:List Rw)(fr:List Nat)(l:List Ch):∀ k,k≤l.length→(aX M fr (l.take k)).1.length≤k
 | 0,_=>by simp [aX]
 | k+1,h=>by
  have ih:=xO M fr l k (by omega)
  rw [pI M fr l k (by omega)]
  unfold uI
  split
  ·omega
  ·split<;>simp<;>omega
def leftG(M:List Rw)(fr:List Nat)(l:List Ch):List Sp:=(l.filter fun c=>c.gone && fr.contains (atL M c.key)).map fun c=>⟨atL M c.key,c⟩
theorem PS(M:List Rw)(fr:List Nat)(l:List Ch)(k:Nat)(h:k<l.length):leftG M fr (l.take (k+1))=if l[k].gone && fr.contains (atL M l[k].key) then leftG M fr (l.take k)++[⟨atL M l[k].key,l[k]⟩] else leftG M fr (l.take k):=by
 rw [List.take_add_one,List.getElem?_eq_getElem h]
 unfold leftG
 rw [List.filter_append]
 simp only [Option.toList_some,List.filter_cons,List.filter_nil]
 split<;>simp
theorem Jm(M:List Rw)(fr:List Nat)(l:List Ch)(k:Nat):(leftG M fr (l.take k)).length≤k:=by
 unfold leftG
 rw [List.length_map]
 have h1:=List.length_filter_le (fun c:Ch=>c.gone && fr.contains (atL M c.key)) (l.take k)
 have h2:=List.length_take_le k l
 omega
def H7(M:List Rw)(N:Nat)(l:List Ch):List Sp:=(aX M (cZ M N l) l).1++leftG M (aX M (cZ M N l) l).2 l
theorem TL{w:World}{g o o' c:Nat}{a:Nat}{r:List Nat}(h:jq Vk 1 w g o (a :: r))(hg:g<w.heap.size)(hc:r.length+1≤c)(ho:1<c→o'=o+1):Els Vk 1 w (some ⟨g,o',none⟩) r:=by
 by_cases h0:r = []
 ·exact .inl h0
 ·refine .inr ⟨g,o',rfl,hg,fun i hi j v hv=> ?_⟩
  have hl:=List.length_pos_iff.2 h0
  have:=h (i+1) (by simp;omega) j v (by simpa using hv)
  rw [ho (by omega)]
  rw [show o+(i+1)*1+j=o+1+i*1+j by omega] at this
  exact this
theorem S9{α:Type}{enc:α→List Value}{k:Nat}{e:TypeId}{w w1:World}{v:Value}{l l':List α}(h:Mine enc k e w w1 v l)(hl:l=l'):Mine enc k e w w1 v l':=hl ▸ h
theorem He(fr:List Nat)(a:Nat):(fr.map fun n:Nat=>(n:Int)).contains (a:Int)=fr.contains a:=by
 rw [Bool.eq_iff_iff,List.contains_iff_mem,List.contains_iff_mem,List.mem_map]
 constructor
 ·rintro⟨n,hn,he⟩
  rwa [←show n=a by omega]
 ·intro h
  exact⟨a,h,rfl⟩
theorem Hf(w:World)(A:Option Addr)(c:Nat)(fr:List Nat)(a:Nat)(h:Els Vk 1 w A fr)(hl:fr.length≤1048576):
  Calls Tryz.prog 83 #[.slice A fr.length c,.int .i64 (a:Int)] w fun e w'=>e = .returned (.bool (fr.contains a))∧w'=w:=by
 by_cases h0:fr = []
 ·subst h0
  exact Tryz.slices_Contains_int_empty A c (a:Int) w
 ·obtain⟨g,o,rfl,hg,hat⟩:=h.get (i:=0) (List.length_pos_iff.2 h0)
  have:=Tryz.slices_Contains_int g o fr.length c (fr.map fun n:Nat=>(n:Int)) (a:Int) w (by simp) (by omega) (fun j hj=>by
   have hj':j<fr.length:=by simpa using hj
   have h1:=hat j hj' 0 _ rfl
   simp only [Nat.mul_one,Nat.add_zero] at h1
   rw [h1]
   simp [hj'])
  rw [List.take_of_length_le (by simp),He] at this
  exact this
set_option maxRecDepth 100000 in
set_option maxHeartbeats 4000000 in
theorem Ri(w:World)(rp mb lp p n:Nat)(f:Bool)(F:List Nat)(s:St)(N:Nat)(M:List Rw)(A:Option Addr)(c:Nat)(l:List Ch)(hr:gy w rp mb lp M)(tu:oh w lp p n f)(hd:Dev w p F s)(hN:s.aA.length=41+N)
  (hM:Sorted M) (hat:∀ r∈M,r.at_<N) (hb:Els chE 3 w A l) (hs:oD l) (hl:l.length≤40) (hnews:∀ x∈l,x.gone=true→(aK M x.key).isSome=true) (hroom:iw M l≤(cZ M N l).length):
  Calls Tryz.prog 40 #[.pointer (some ⟨rp,0,none⟩),.slice A l.length c] w fun e w'=>∃ v l',e = .returned v∧l'.Perm (H7 M N l)∧l'.Pairwise (fun a b=>ltS b a=false)∧fV spE 4 w w' v l':=by
 have hlI:(l.length:Int)≤40:=by omega
 have hfree:=Ur w rp mb lp p n f F s N M A c l hr tu hd hN hM hat hb hs hl hnews
 have hraw:H7 M N l=(aX M (cZ M N l) l).1++leftG M (aX M (cZ M N l) l).2 l:=rfl
 have hfN:(cZ M N l).length≤N:=by
  have:=List.length_filter_le (lY M l) (List.range N)
  unfold cZ
  simpa using this
 have hN1:N≤1024:=by have:=hd.fine.few;omega
 generalize cZ M N l=fr at *
 replace hfree:=Lib.hid hfree
 replace hraw:=Lib.hid hraw
 clear tu hd hN hM
 go_enter Tryz.func40,Tryz.ntmps40
 go_wp2_with fail
 refine hfree.out.mono ?_
 rintro e w1 ⟨vf,rfl,Af,cf,rfl,hcf,hfe,k1,aaS⟩
 have hr1:=hr.kept k1 (by simp) (by simp)
 replace aaS:=Lib.hid aaS
 go_wp2_with fail
 go_loopw [5,6,19] (fun v fv i wr=>∃ (k:Nat) (A':Option Addr) (c':Nat),k≤l.length∧i = .int .i64 k∧Mine spE 4 173 w1 wr v (aX M fr (l.take k)).1∧fv = .slice A' (aX M fr (l.take k)).2.length c'∧(aX M fr (l.take k)).2.length≤c'∧Els Vk 1 w1 A' (aX M fr (l.take k)).2) (fun _ _ i _=>l.length-(intOf i).toNat)
 case atStart=>exact⟨0,Af,cf,Nat.zero_le _,rfl,Mine.start _ _ _ (Only.refl _ _),rfl,hcf,hfe⟩
 case round=>
  obtain⟨k,A',c',hk,rfl,aG,rfl,hc',Xn⟩:=hrel
  by_cases hlt:k<l.length
  ·have kr:=k1.trans aG.only
   obtain⟨g,o,rfl,hg,QI⟩:=hb.get hlt
   obtain⟨d0,d1,d2⟩:=kT QI hlt
   have c0:=kr.cell d0 (by simp)
   have c1:=kr.cell d1 (by simp)
   have c2:=kr.cell d2 (by simp)
   have hsm:=hs l[k] (List.getElem_mem hlt)
   have hlook:=fun W (kW:Only [] w W)=>(hr.kept kW (by simp) (by simp)).map.look_ok l[k].key (by omega)
   have hcl:=fun W (kW:Only [] w W)=>(hr.kept kW (by simp) (by simp)).cells.2
   have htk:=pI M fr l k hlt
   have hlen:=xO M fr l k (by omega)
   have hleft:=jJ M fr l k (by omega)
   have hnk:=Bo M l k hlt
   have hnl:=yY M l (k+1)
   have Jy:fK M l[k]=true→(aX M fr (l.take k)).2≠[]:=by
    intro hn h0
    rw [hn,if_pos rfl] at hnk
    rw [hleft] at h0
    have:=congrArg List.length h0
    simp only [List.length_drop,List.length_nil] at this
    omega
   clear hleft hnk hnl
   generalize l[k]=x at *
   obtain⟨key,val,gone⟩:=x
   simp only at c0 c1 c2 hlook
   have hstep:uI M (aX M fr (l.take k)) ⟨key,val,gone⟩=if gone then aX M fr (l.take k) else if (aK M key).isSome then ((aX M fr (l.take k)).1++[⟨atL M key,⟨key,val,gone⟩⟩],(aX M fr (l.take k)).2) else ((aX M fr (l.take k)).1++[⟨(aX M fr (l.take k)).2.headD 0,⟨key,val,gone⟩⟩],(aX M fr (l.take k)).2.tail):=rfl
   have hnew:fK M ⟨key,val,gone⟩=(!gone && !(aK M key).isSome):=rfl
   rw [hstep] at htk
   rw [hnew] at Jy
   clear hstep hnew
   generalize hST:aX M fr (l.take (k+1))=ST at *
   generalize aX M fr (l.take k)=Pr at *
   obtain⟨P1,P2⟩:=Pr
   obtain⟨T1,T2⟩:=ST
   simp only at htk Jy hlen hc' Xn aG ⊢
   replace hST:=Lib.hid hST
   generalize (aK M key).isSome=there at *
   generalize atL M key=a at *
   generalize strOf (kF M key)=ov at *
   have Gy:∀ b:Nat,spE ⟨b,⟨key,val,gone⟩⟩ = [.int .i64 (b:Int),.string (strOf key),.string (strOf val),.bool gone]:=fun _=>rfl
   generalize strOf key=ks at *
   generalize strOf val=vs at *
   replace Gy:=Lib.hid Gy
   have kal:=kr.alloc (.cells #[.string ks,.string vs,.bool gone] 133)
   have ka1:=(Only.refl [] wr).alloc (.cells #[.string ks,.string vs,.bool gone] 133)
   have bal:=Blk.new wr 133 #[.string ks,.string vs,.bool gone]
   have m2:=aG.keep ka1
   have hsz:=aG.only.size
   have Y6:=fun g hg=>(aG.own.lt g hg).2
   replace Y6:=Lib.hid Y6
   cases gone with
   | true=>
    have hTT:T1=P1∧T2=P2:=by simpa using htk
    obtain⟨rfl,rfl⟩:=hTT
    clear htk hlook hcl kal ka1 bal aG
    go_wp2
    go_roundw
    case rel=>exact⟨k+1,_,_,by omega,by go_num,by rw [hST.out];exact m2,by rw [hST.out],by rw [hST.out];exact hc',by rw [hST.out];exact Xn⟩
    case measure=>simp [intOf];omega
   | false=>
    go_wp2_with fail
    generalize hw2:wr.alloc (.cells #[.string ks,.string vs,.bool false] 133)=w2 at *
    obtain⟨q,hq⟩:∃ q,q=wr.heap.size:=⟨_,rfl⟩
    rw [←hq] at bal
    simp only [←hq]
    replace hq:=Lib.hid hq
    replace hw2:=Lib.hid hw2
    have q0:=bal.cell 0
    simp only [List.getElem?_toArray,List.getElem?_cons_zero] at q0
    have hS:∀ W,Only [] w2 W→W.cell? ⟨rp,1,none⟩=some (.map (some mb))∧W.cell? ⟨q,0,none⟩=some (.string ks)∧(Instr.lookup 89 (.map (some mb)) (.string ks) true).run Tryz.prog W = .ok (.tuple #[.agg #[.int .i64 (a:Int),.string ov],.bool there]) W:=
     fun W kW=>⟨hcl W (kal.trans kW),kW.cell q0 (by simp),hlook W (kal.trans kW)⟩
    have kd:Only [] w2 w2.drew:=(Only.refl [] w2).drew
    have hS':=Lib.hid hS
    replace hlook:=Lib.hid hlook
    replace hcl:=Lib.hid hcl
    clear hS c0 c1 c2 ka1 aG
    refine wp_region_held_drew (S:=fun w'=>w'.cell? ⟨rp,1,none⟩=some (.map (some mb))∧w'.cell? ⟨q,0,none⟩=some (.string ks)∧(Instr.lookup 89 (.map (some mb)) (.string ks) true).run Tryz.prog w' = .ok (.tuple #[.agg #[.int .i64 (a:Int),.string ov],.bool there]) w') (by kernel_rfl) (hS'.out _ kd) (fun hHeld=> ?_)
    refine rwT 0 (.pointer (some ⟨rp,0,none⟩)) hHeld ?_;simp only [rwA]
    refine rwT 1 (.pointer (some ⟨rp,0,none⟩)) hHeld ?_;simp only [rwA]
    refine rwT 2 (.pointer (some ⟨rp,1,none⟩)) hHeld ?_;simp only [rwA]
    refine rwT 3 (.map (some mb)) hHeld ?_;simp only [rwA]
    refine rwT 4 (.pointer (some ⟨q,0,none⟩)) hHeld ?_;simp only [rwA]
    refine rwT 5 (.string ks) hHeld ?_;simp only [rwA]
    refine rwT 6 (.tuple #[.agg #[.int .i64 (a:Int),.string ov],.bool there]) hHeld ?_;simp only [rwA]
    refine rwT 7 (.tuple #[.agg #[.int .i64 (a:Int),.string ov],.bool there]) hHeld ?_;simp only [rwA]
    refine rwT 8 (.agg #[.int .i64 (a:Int),.string ov]) hHeld ?_;simp only [rwA]
    refine rwT 9 (.bool there) hHeld ?_;simp only [rwA]
    refine ah 10 rfl (by kernel_rfl) (fun K hK=> ?_)
    go_simp
    refine hK.out _ _ (hS'.out _ (kd.alloc _)) (fun hHeld=> ?_)
    clear hK K
    refine ah 11 rfl (by kernel_rfl) (fun K hK=> ?_)
    go_simp
    refine hK.out _ _ (hS'.out _ (kd.alloc _)) (fun hHeld=> ?_)
    clear hK K
    refine rwT 12 (.bool there) hHeld ?_;simp only [rwA]
    refine wpAnyH_done (by kernel_rfl) ?_ _
    clear hHeld
    have k5:=((Only.refl [] w2).alloc (.cells #[.int .i64 (a:Int),.string ov] 165)).drew
    have b5:Blk (w2.alloc (.cells #[.int .i64 (a:Int),.string ov] 165)).drew w2.heap.size 165 #[.int .i64 (a:Int),.string ov]:=Blk.new w2 _ _
    have bc5:=bal.kept k5 (by simp)
    have m5:=m2.keep k5
    have kr5:=kal.trans k5
    have hqq:q<w2.heap.size:=bal.lt
    obtain⟨q9,hq9⟩:∃ q9,q9=w2.heap.size:=⟨_,rfl⟩
    rw [←hq9] at b5 hqq
    simp only [←hq9]
    generalize (w2.alloc (.cells #[.int .i64 (a:Int),.string ov] 165)).drew=w5 at *
    have r0:=bc5.cell 0
    have r1:=bc5.cell 1
    have r2:=bc5.cell 2
    have x0:=b5.cell 0
    simp only [List.getElem?_toArray,List.getElem?_cons_zero,List.getElem?_cons_succ] at r0 r1 r2 x0
    replace hq9:=Lib.hid hq9
    clear hS' kd k5 q0 bal hlook hcl m2
    cases there with
    | true=>
     have hTT:T1=P1++[⟨a,⟨key,val,false⟩⟩]∧T2=P2:=by simpa using htk
     obtain⟨hT1,rfl⟩:=hTT
     replace hT1:=Lib.hid hT1
     have hcT:=hc'
     have hfT:=Xn
     clear htk Jy Xn bc5 b5
     have k7:=(Only.refl [] w5).alloc (.cells #[.int .i64 (a:Int),.string ks,.string vs,.bool false] 173)
     have m7:=m5.keep k7
     have b7:Blk (w5.alloc (.cells #[.int .i64 (a:Int),.string ks,.string vs,.bool false] 173)) w5.heap.size 173 (spE ⟨a,⟨key,val,false⟩⟩).toArray:=by rw [Gy.out];exact Blk.new _ _ _
     clear m5 k7
     go_wp2_with (at_builtin;go_must (refine dH rfl _ _ 96 rfl 173 _ 48 oC (by decide) FI Tryz.underlying96 LV rfl _ P1.length P1 rfl m7.own w5.heap.size ⟨a,⟨key,val,false⟩⟩ _ rfl b7 (by unfold maxLen;omega) (by omega) ?_);intro vv' w8 h8 g8 a8)
     have m8:=m7.pushed h8 g8 a8
     rw [←hT1.out] at m8
     clear h8 g8 a8 m7 b7
     go_wp2
     go_roundw
     case rel=>exact⟨k+1,_,_,by omega,by go_num,by rw [hST.out];exact m8,by rw [hST.out],by rw [hST.out];exact hcT,by rw [hST.out];exact hfT⟩
     case measure=>simp [intOf];omega
    | false=>
     have hne:=Jy rfl
     obtain⟨fa,fr',rfl⟩:∃ fa fr',P2=fa :: fr':=by
      cases P2 with
      | nil=>exact absurd rfl hne
      | cons fa fr'=>exact⟨fa,fr',rfl⟩
     have hTT:T1=P1++[⟨fa,⟨key,val,false⟩⟩]∧T2=fr':=by simpa using htk
     obtain⟨hT1,rfl⟩:=hTT
     obtain⟨fg,fo,rfl,hfg,acG⟩:=Xn.get (i:=0) (by simp)
     have hcl':T2.length+1≤c':=by simpa using hc'
     obtain⟨o',ho',hsl⟩:=xP (P:=Tryz.prog) 81 3 Tryz.underlying81 Tryz.sizeOf3 fg fo (T2.length+1) c' 1 .i64 1 rfl (by omega)
     rw [Nat.add_sub_cancel] at hsl
     have hfT:=TL acG hfg hcl' ho'
     have hcT:T2.length≤c'-1:=by omega
     have fc0:w5.cell? ⟨fg,fo,none⟩=some (.int .i64 (fa:Int)):=by
      have:=acG 0 (by simp) 0 _ rfl
      simp only [Nat.zero_mul,Nat.add_zero] at this
      exact (m5.only).cell this (by simp)
     have kd5:Only [] w5 w5.drew:=(Only.refl [] w5).drew
     have ug:Only [q9] w5.drew (w5.drew.setCell ⟨q9,0,none⟩ (.int .i64 (fa:Int))):=(Only.refl [q9] _).setCell (.inl (by simp)) _
     have aeP:fg≠q9:=by have:=hq.out;omega
     have fs0:=ug.cell (kd5.cell fc0 (by simp)) (by simpa using aeP)
     have b6:=(b5.kept kd5 (by simp)).set 0 (.int .i64 (fa:Int))
     have y0:(w5.drew.setCell ⟨q9,0,none⟩ (.int .i64 (fa:Int))).cell? ⟨q9,0,none⟩=some (.int .i64 (fa:Int)):=b6.cell 0
     have u0:=kd5.cell x0 (by simp)
     have uf:=(b5.kept kd5 (by simp)).free 0
     have bc6:=(bc5.kept kd5 (by simp)).kept ug (by simp;omega)
     have m6:=(m5.keep kd5).beside ug (fun g hg hm=>by
      simp only [List.mem_singleton] at hm
      subst hm
      have:=Y6.out _ hg;have:=hq.out;omega) (by simp;have:=hq.out;omega)
     have z0:=bc6.cell 0
     have z1:=bc6.cell 1
     have z2:=bc6.cell 2
     simp only [List.getElem?_toArray,List.getElem?_cons_zero,List.getElem?_cons_succ] at z0 z1 z2
     replace hT1:=Lib.hid hT1
     simp only [List.length_cons]
     clear htk Jy Xn bc5 b5 b6 bc6 r0 r1 r2 x0 acG m5
     have fcd:=kd5.cell fc0 (by simp)
     go_wp2_with fail
     refine wp_region_held_drew (S:=fun w'=>w'.cell? ⟨fg,fo,none⟩=some (.int .i64 (fa:Int))) (by kernel_rfl) fcd (fun hHeld=> ?_)
     refine rwT 0 (.slice (some ⟨fg,fo,none⟩) (T2.length+1) c') hHeld ?_;simp only [rwA]
     refine rwT 1 (.pointer (some ⟨fg,fo,none⟩)) hHeld ?_;simp only [rwA]
     refine rwT 2 (.int .i64 (fa:Int)) hHeld ?_;simp only [rwA]
     refine rwT 3 (.slice (some ⟨fg,fo,none⟩) (T2.length+1) c') hHeld ?_;simp only [rwA]
     refine rwT 4 (.slice (some ⟨fg,o',none⟩) T2.length (c'-1)) hHeld ?_;simp only [rwA]
     refine rwT 5 (.pointer (some ⟨q9,0,none⟩)) hHeld ?_;simp only [rwA]
     refine ah 6 rfl (by kernel_rfl) (fun K hK=> ?_)
     go_simp
     refine hK.out _ _ fs0 (fun hHeld=> ?_)
     clear hK K
     refine rwT 7 (.slice (some ⟨fg,o',none⟩) T2.length (c'-1)) hHeld ?_;simp only [rwA]
     refine wpAnyH_done (by kernel_rfl) ?_ _
     clear hHeld
     have e6:w5.drew.setCell ⟨q9,0,none⟩ (.int .i64 (fa:Int))=(w5.setCell ⟨q9,0,none⟩ (.int .i64 (fa:Int))).drew:=rfl
     rw [e6] at y0 z0 z1 z2 m6
     clear e6
     generalize (w5.setCell ⟨q9,0,none⟩ (.int .i64 (fa:Int))).drew=w6 at *
     clear ug fs0 u0 uf fcd kd5 fc0 hsl
     have k7:=(Only.refl [] w6).alloc (.cells #[.int .i64 (fa:Int),.string ks,.string vs,.bool false] 173)
     have m7:=m6.keep k7
     have b7:Blk (w6.alloc (.cells #[.int .i64 (fa:Int),.string ks,.string vs,.bool false] 173)) w6.heap.size 173 (spE ⟨fa,⟨key,val,false⟩⟩).toArray:=by rw [Gy.out];exact Blk.new _ _ _
     clear m6 k7
     go_wp2_with (at_builtin;go_must (refine dH rfl _ _ 96 rfl 173 _ 48 oC (by decide) FI Tryz.underlying96 LV rfl _ P1.length P1 rfl m7.own w6.heap.size ⟨fa,⟨key,val,false⟩⟩ _ rfl b7 (by unfold maxLen;omega) (by omega) ?_);intro vv' w8 h8 g8 a8)
     have m8:=m7.pushed h8 g8 a8
     rw [←hT1.out] at m8
     clear h8 g8 a8 m7 b7
     go_wp2
     go_roundw
     case rel=>exact⟨k+1,_,_,by omega,by go_num,by rw [hST.out];exact m8,by rw [hST.out],by rw [hST.out];exact hcT,by rw [hST.out];exact hfT⟩
     case measure=>simp [intOf];omega
  ·have hkl:k=l.length:=by omega
   subst hkl
   rw [List.take_of_length_le (Nat.le_refl _)] at aG hc' Xn ⊢
   have hlen:=xO M fr l l.length (Nat.le_refl _)
   have hleft:=jJ M fr l l.length (Nat.le_refl _)
   rw [List.take_of_length_le (Nat.le_refl _)] at hlen hleft
   have hl2:(aX M fr l).2.length≤1024:=by rw [hleft];simp;omega
   have Xc:=hraw.out
   clear hleft hraw
   generalize aX M fr l=Pr at *
   obtain⟨P1,P2⟩:=Pr
   simp only at aG hc' Xn hlen hl2 Xc ⊢
   have hr0:=S9 aG (show P1=P1++leftG M P2 (l.take 0) by simp [leftG])
   replace Xc:=Lib.hid Xc
   clear aG
   go_wp2_with fail
   go_loopw [5,53] (fun v i wr=>∃ k:Nat,k≤l.length∧i = .int .i64 k∧Mine spE 4 173 w1 wr v (P1++leftG M P2 (l.take k))) (fun _ i _=>l.length-(intOf i).toNat)
   case atStart=>exact⟨0,Nat.zero_le _,rfl,hr0⟩
   case round=>
    clear hr0
    obtain⟨k,hk,rfl,aG⟩:=hrel
    by_cases hlt:k<l.length
    ·have kr:=k1.trans aG.only
     obtain⟨g,o,rfl,hg,QI⟩:=hb.get hlt
     obtain⟨d0,d1,d2⟩:=kT QI hlt
     have c0:=kr.cell d0 (by simp)
     have c1:=kr.cell d1 (by simp)
     have c2:=kr.cell d2 (by simp)
     have hsm:=hs l[k] (List.getElem_mem hlt)
     have hlook:=fun W (kW:Only [] w W)=>(hr.kept kW (by simp) (by simp)).map.look l[k].key (by omega)
     have hcl:=fun W (kW:Only [] w W)=>(hr.kept kW (by simp) (by simp)).cells.2
     have htk:=PS M P2 l k hlt
     have hln:=Jm M P2 l k
     have hcon:=fun W (kW:Only [] w1 W)=>Hf W A' c' P2 (atL M l[k].key) (Xn.kept kW (by simp)) (by omega)
     have Gy:∀ b:Nat,spE ⟨b,l[k]⟩ = [.int .i64 (b:Int),.string (strOf l[k].key),.string (strOf l[k].val),.bool l[k].gone]:=fun _=>rfl
     generalize l[k]=x at *
     obtain⟨key,val,gone⟩:=x
     simp only at c0 c1 c2 hlook htk hcon Gy
     generalize hLT:leftG M P2 (l.take (k+1))=LT at *
     generalize leftG M P2 (l.take k)=L at *
     replace hLT:=Lib.hid hLT
     generalize atL M key=a at *
     generalize strOf (kF M key)=ov at *
     generalize strOf key=ks at *
     generalize strOf val=vs at *
     generalize P2.contains a=ct at *
     replace Gy:=Lib.hid Gy
     replace hcon:=Lib.hid hcon
     have kal:=kr.alloc (.cells #[.string ks,.string vs,.bool gone] 133)
     have ka1:=(Only.refl [] wr).alloc (.cells #[.string ks,.string vs,.bool gone] 133)
     have bal:=Blk.new wr 133 #[.string ks,.string vs,.bool gone]
     have m2:=aG.keep ka1
     clear aG
     go_wp2_with fail
     generalize hw2:wr.alloc (.cells #[.string ks,.string vs,.bool gone] 133)=w2 at *
     obtain⟨q,hq⟩:∃ q,q=wr.heap.size:=⟨_,rfl⟩
     rw [←hq] at bal
     simp only [←hq]
     replace hq:=Lib.hid hq
     replace hw2:=Lib.hid hw2
     have kd:Only [] w2 w2.drew:=(Only.refl [] w2).drew
     have bd:=bal.kept kd (by simp)
     have q0:=bd.cell 0
     have q1:=bd.cell 1
     have q2:=bd.cell 2
     simp only [List.getElem?_toArray,List.getElem?_cons_zero,List.getElem?_cons_succ] at q0 q1 q2
     have hS:w2.drew.cell? ⟨rp,1,none⟩=some (.map (some mb))∧w2.drew.cell? ⟨q,0,none⟩=some (.string ks)∧(Instr.lookup 89 (.map (some mb)) (.string ks) false).run Tryz.prog w2.drew = .ok (.agg #[.int .i64 (a:Int),.string ov]) w2.drew:=
      ⟨hcl _ (kal.trans kd),q0,hlook _ (kal.trans kd)⟩
     have Yw:=fun W=>JU (a:Int) ov W
     have m3:=m2.keep kd
     replace hlook:=Lib.hid hlook
     replace hcl:=Lib.hid hcl
     clear c0 c1 c2 bal ka1 bd m2
     refine wp_region_held_drew (S:=fun w'=>w'.cell? ⟨rp,1,none⟩=some (.map (some mb))∧w'.cell? ⟨q,0,none⟩=some (.string ks)∧(Instr.lookup 89 (.map (some mb)) (.string ks) false).run Tryz.prog w' = .ok (.agg #[.int .i64 (a:Int),.string ov]) w') (by kernel_rfl) hS (fun hHeld=> ?_)
     refine rwT 0 (.pointer (some ⟨rp,0,none⟩)) hHeld ?_;simp only [rwA]
     refine rwT 1 (.pointer (some ⟨rp,0,none⟩)) hHeld ?_;simp only [rwA]
     refine rwT 2 (.pointer (some ⟨rp,1,none⟩)) hHeld ?_;simp only [rwA]
     refine rwT 3 (.map (some mb)) hHeld ?_;simp only [rwA]
     refine rwT 4 (.pointer (some ⟨q,0,none⟩)) hHeld ?_;simp only [rwA]
     refine rwT 5 (.string ks) hHeld ?_;simp only [rwA]
     refine rwT 6 (.agg #[.int .i64 (a:Int),.string ov]) hHeld ?_;simp only [rwA]
     refine rwT 7 (.int .i64 (a:Int)) hHeld ?_;simp only [rwA]
     refine rwT 8 (.int .i64 (a:Int)) hHeld ?_;simp only [rwA]
     refine wpAnyH_done (by kernel_rfl) ?_ _
     clear hHeld
     generalize w2.drew=w3 at *
     have Xr:=hcon.out w3 m3.only
     replace Xr:=Lib.hid Xr
     clear hS Yw kd kal hlook hcl
     by_cases hyes:gone=true∧ct=true
     ·obtain⟨rfl,rfl⟩:=hyes
      have hT1:LT=L++[⟨a,⟨key,val,true⟩⟩]:=by rw [htk];rfl
      have k7:=(Only.refl [] w3).alloc (.cells #[.int .i64 (a:Int),.string ks,.string vs,.bool true] 173)
      have m7:=m3.keep k7
      have b7:Blk (w3.alloc (.cells #[.int .i64 (a:Int),.string ks,.string vs,.bool true] 173)) w3.heap.size 173 (spE ⟨a,⟨key,val,true⟩⟩).toArray:=by rw [Gy.out];exact Blk.new _ _ _
      have hll:(P1++L).length≤80:=by simp;omega
      replace hT1:=Lib.hid hT1
      clear m3 k7 htk
      go_wp2_with fail
      refine Xr.out.mono ?_
      rintro e w4 ⟨rfl,rfl⟩
      go_wp2_with (at_builtin;go_must (refine dH rfl _ _ 96 rfl 173 _ 48 oC (by decide) FI Tryz.underlying96 LV rfl _ (P1++L).length (P1++L) rfl m7.own w4.heap.size ⟨a,⟨key,val,true⟩⟩ _ rfl b7 (by unfold maxLen;omega) (by omega) ?_);intro vv' w8 h8 g8 a8)
      have m8:=m7.pushed h8 g8 a8
      rw [List.append_assoc,←hT1.out] at m8
      clear h8 g8 a8 m7 b7 q0 q1 q2
      go_wp2
      go_roundw
      case rel=>exact⟨k+1,by omega,by go_num,by rw [hLT.out];exact m8⟩
      case measure=>simp [intOf];omega
     ·have hT1:LT=L:=by
       rw [htk]
       cases gone<;>cases ct<;>simp at hyes ⊢
      rw [←hT1] at m3
      replace hT1:=Lib.hid hT1
      clear htk
      cases gone with
      | true=>
       have hct:ct=false:=by cases ct<;>simp at hyes ⊢
       subst hct
       clear hyes
       go_wp2_with fail
       refine Xr.out.mono ?_
       rintro e w4 ⟨rfl,rfl⟩
       go_wp2
       go_roundw
       case rel=>exact⟨k+1,by omega,by go_num,by rw [hLT.out];exact m3⟩
       case measure=>simp [intOf];omega
      | false=>
       clear hyes
       go_wp2
       go_roundw
       case rel=>exact⟨k+1,by omega,by go_num,by rw [hLT.out];exact m3⟩
       case measure=>simp [intOf];omega
    ·have hkl:k=l.length:=by omega
     subst hkl
     rw [List.take_of_length_le (Nat.le_refl _)] at aG
     have hln:=Jm M P2 l l.length
     rw [List.take_of_length_le (Nat.le_refl _)] at hln
     have hsort:=OQ aG (by simp;omega)
     rw [←Xc.out] at hsort
     replace hsort:=Lib.hid hsort
     clear aG
     go_wp2_with fail
     refine hsort.out.mono ?_
     rintro e w5 ⟨rfl,l',h1,h2,h3⟩
     have h4:=h3.from k1
     clear h3
     go_wp2
     go_ret
     exact⟨_,l',rfl,h1,h2,h4⟩
end Go.Proofs.YtmelaiefbpdifaaGreatDoor
