/- Load, by the document. -/
import Derived.Test.YtmelaiefbpdifaaGreatDoorHJb
namespace Go.Proofs.YtmelaiefbpdifaaGreatDoor.Pgs
open Go.RowKit Go.Maps
def inU(x:Nat)(c:Ch):Bool:=um (headB x) c.key
theorem Ux{L:List Ch}{x k:Nat}(h:k<L.length):(L.take (k+1)).filter (inU x)=if inU x L[k] then (L.take k).filter (inU x)++[L[k]] else (L.take k).filter (inU x):=by
 rw [List.take_add_one,List.getElem?_eq_getElem h,List.filter_append]
 simp only [Option.toList_some,List.filter_cons,List.filter_nil]
 split<;>simp
theorem aaz{x:Nat}{c:Ch}(h:¬(5≤c.key.length∧c.key.take 5=headB x)):inU x c=false:=by
 apply Bool.eq_false_iff.2
 intro hk
 exact h (nR.1 hk)
theorem Y5{x:Nat}{c:Ch}(h1:5≤c.key.length)(h2:c.key.take 5=headB x):inU x c=true:=nR.2 ⟨h1,h2⟩
theorem YI{U:List Ch}{c:Ch}(h:c∈U)(hf:Oi c=false):mV U=false∧ldL U = []:=by
 have h1:mV U=false:=by
  rw [NT,Bool.and_eq_false_iff]
  refine .inl (Bool.eq_false_iff.2 fun h'=> ?_)
  rw [List.all_eq_true] at h'
  rw [h' c h] at hf
  cases hf
 exact⟨h1,by unfold ldL;rw [h1];rfl⟩
set_option maxRecDepth 100000 in
set_option maxHeartbeats 4000000 in
theorem IQ(w:World)(A:Option Addr)(c:Nat)(L:List Ch)(hA:Els chE 3 w A L)(hl:L.length≤1024)(hks:∀ e∈L,e.key.length≤16)(x:Nat)(hx:x<4294967296):
  Calls Tryz.prog 105 #[.slice A L.length c,.int .u32 (x:Int)] w fun e w'=>∃ v,e = .returned (.tuple #[v,.bool (mV (L.filter (inU x)))])∧Mine pgE 2 138 w w' v (ldL (L.filter (inU x))):=by
 have hkey:=VQ w x 0 hx (by decide)
 have hup:=gZ (P:=Tryz.prog) 9 Tryz.underlying9 (jm x 0) 5 5 .i64 rfl (by rw [jQ];decide)
 rw [TJ] at hup
 have afw:(strOf (jm x 0)).size=7:=by rw [aj];rfl
 generalize strOf (jm x 0)=k0 at *
 obtain⟨n,hn⟩:∃ n,n=L.length:=⟨_,rfl⟩
 rw [←hn] at hl ⊢
 have HN:=Lib.hid hn
 clear hn
 replace hks:=Lib.hid hks
 have hdl:=nK x
 obtain⟨hd,hhd⟩:∃ hd,hd=headB x:=⟨_,rfl⟩
 rw [←hhd] at hup hdl
 replace hhd:=Lib.hid hhd
 replace hdl:=Lib.hid hdl
 have hz:((0:Nat):Int)=0:=rfl
 rw [hz] at hkey
 go_enter Tryz.func105,Tryz.ntmps105
 go_wp2_with fail
 refine hkey.mono ?_;rintro e w2 ⟨rfl,k2⟩
 go_wp2_with fail
 clear hup hkey
 go_loopw [7,8] (fun v i wr=>∃ k:Nat,k≤n∧i = .int .i64 k∧Hid (∀ e∈(L.take k).filter (inU x),Oi e=true)∧Mine pgE 2 138 w2 wr v (((L.take k).filter (inU x)).map xX)) (fun _ i _=>n-(intOf i).toNat)
 case atStart=>exact⟨0,Nat.zero_le _,rfl,fun e he=>by simp at he,by rw [List.take_zero];exact Mine.start _ _ _ (Only.refl [] w2)⟩
 case round=>
  obtain⟨k,hk,rfl,hfit,aG⟩:=hrel
  by_cases hlt:k<n
  ·have hk':k<L.length:=by have:=HN.out;omega
   obtain⟨g,off,rfl,hg,hat⟩:=hA.get hk'
   obtain⟨c0,c1,c2⟩:=kT (hat.kept (k2.trans aG.only) (by simp)) hk'
   have hft:=Ux (x:=x) hk'
   have hkl:=hks.out L[k] (List.getElem_mem hk')
   have hin:inU x L[k]=true→L[k]∈L.filter (inU x):=fun h=>List.mem_filter.2 ⟨List.getElem_mem hk',h⟩
   have hLl:(((L.take k).filter (inU x)).map xX).length≤1024:=by
    rw [List.length_map]
    refine Nat.le_trans (List.length_filter_le _ _) ?_
    rw [List.length_take]
    omega
   generalize L[k]=ch at *
   have Z4:=fun h=>aaz (x:=x) (c:=ch) h
   have TS:=fun h h'=>Y5 (x:=x) (c:=ch) h h'
   have hfi:=zX (c:=ch)
   obtain⟨ky,vl,gn⟩:=ch
   simp only at c0 c1 c2 hkl Z4 TS hfi
   have hsz:=aj ky
   generalize hF:(L.take k).filter (inU x)=Fk at *
   generalize hFm:Fk.map xX=Lk at *
   replace hFm:=Lib.hid hFm
   replace hF:=Lib.hid hF
   by_cases hout:5≤ky.length∧ky.take 5=hd
   ·have hiu:=TS hout.1 (by rw [←hhd.out];exact hout.2)
    rw [if_pos hiu] at hft
    have hmem:=hin hiu
    have hup:=gZ (P:=Tryz.prog) 9 Tryz.underlying9 ky 5 5 .i64 rfl hout.1
    rw [hout.2] at hup
    have h5:decide ((ky.length:Int)<5)=false:=decide_eq_false (by omega)
    have h5':¬(ky.length:Int)<5:=by omega
    replace hout:=Lib.hid hout
    replace hiu:=Lib.hid hiu
    clear Z4 TS hin
    by_cases h7:ky.length=7
    ·have ix5:=bQ (P:=Tryz.prog) 9 Tryz.underlying9 ky 5 5 .i64 rfl (by omega)
     have ix6:=bQ (P:=Tryz.prog) 9 Tryz.underlying9 ky 6 6 .i64 rfl (by omega)
     have abK:=UInt8.toNat_lt (ky.getD 6 0)
     have hp2:xX ⟨ky,vl,gn⟩=⟨((ky.getD 6 0).toNat:Int),vl⟩:=rfl
     by_cases hb5:ky.getD 5 0=0
     ·by_cases hb6:(ky.getD 6 0).toNat≤31
      ·have hfc:=hfi.2 ⟨h7,hb5,hb6⟩
       have hst:Hid (∀ e∈(L.take (k+1)).filter (inU x),Oi e=true):=fun e he=>by
        rw [hft] at he
        rcases List.mem_append.1 he with he | he
        ·exact hfit.out e he
        ·simp at he;rw [he];exact hfc
       have hnext:((L.take (k+1)).filter (inU x)).map xX=Lk++[⟨((ky.getD 6 0).toNat:Int),vl⟩]:=by
        rw [hft,List.map_append,hFm.out];rfl
       have h50:(((ky.getD 5 0).toNat:Nat):Int)=0:=by rw [hb5];rfl
       rw [h50] at ix5
       generalize (ky.getD 6 0).toNat=b at *
       have aeW:¬(31:Int)<(b:Int):=by omega
       have hwb:IntKind.i64.wrap (b:Int)=b:=by rw [IntKind.wrap_i64];omega
       rw [h7] at hsz
       generalize hvs:strOf vl=vs at *
       generalize strOf ky=ks at *
       replace hvs:=Lib.hid hvs
       replace hnext:=Lib.hid hnext
       replace hb5:=Lib.hid hb5
       replace h7:=Lib.hid h7
       have d0:=hat.kept k2 (by simp)
       clear hfit hft hfc hfi hp2 hmem h50 h5 h5' hkl
       go_wp2
       refine wp_region_held_drew (S:=fun w'=>w'.cell? ⟨g,off+k*3+1,none⟩=some (.string vs)) (by kernel_rfl) ((Only.refl [] wr).drew.cell c1 (by simp)) (fun hHeld=> ?_)
       have e2:=(Only.refl [] wr).drew.cell c1 (by simp)
       have hm1:=aG.keep ((Only.refl [] wr).drew)
       have hgl:Hid (g<w2.heap.size):=Nat.lt_of_lt_of_le hg k2.size
       have hnew:=Lib.hid aG.new
       clear c0 c1 c2 aG d0
       generalize wr.drew=wd at *
       refine rwT 0 (u7) hHeld ?_;simp only [rwA]
       refine rwT 1 (.string ks) hHeld ?_;simp only [rwA]
       refine rwY 2 (.int .u8 (b:Int)) hHeld ?_ (hy:=Or.inl ⟨by rfl,fun w' hSw=>(by have i0:=ix6;go_simp)⟩);simp only [rwA]
       refine rwT 3 (.int .i64 (b:Int)) hHeld ?_;simp only [rwA]
       refine rwT 4 (.slice (some ⟨g,off,none⟩) n c) hHeld ?_;simp only [rwA]
       refine rwT 5 (.int .i64 (k:Int)) hHeld ?_;simp only [rwA]
       refine rwT 6 (.pointer (some ⟨g,off+k*3,none⟩)) hHeld ?_;simp only [rwA]
       refine rwT 7 (.pointer (some ⟨g,off+k*3+1,none⟩)) hHeld ?_;simp only [rwA]
       refine rwY 8 (.string vs) hHeld ?_ (hy:=Or.inl ⟨by rfl,fun w' hSw=>(by have hc:=hSw;go_simp)⟩);simp only [rwA]
       refine rwT 9 (.agg #[.int .i64 (b:Int),.string vs]) hHeld ?_;simp only [rwA]
       refine ah 10 rfl (by kernel_rfl) (fun K hK=> ?_)
       go_simp
       have k7:Only [] wd (wd.alloc (.cells #[.int .i64 (b:Int),.string vs] 138)):=(Only.refl [] wd).alloc _
       have e7:=k7.cell e2 (by simp)
       have hm7:=hm1.keep k7
       have b7:Blk (wd.alloc (.cells #[.int .i64 (b:Int),.string vs] 138)) wd.heap.size 138 (pgE ⟨(b:Int),vl⟩).toArray:=by
        have:=Blk.new wd 138 (pgE ⟨(b:Int),vl⟩).toArray
        simp only [pgE,hvs.out] at this ⊢
        exact this
       go_wp2_with fail
       refine hK.out _ _ e7 (fun hHeld=> ?_)
       clear hK K
       refine ah 11 rfl (by kernel_rfl) (fun K hK=> ?_)
       refine oz rfl _ _ 57 rfl 138 _ 24 cO (by decide) nS Tryz.underlying57 nX rfl u7 Lk.length Lk rfl hm7.own wd.heap.size ⟨(b:Int),vl⟩ _ rfl b7 (by unfold maxLen;omega) (by omega) ?_
       intro vv w8 h8 g8 a8
       have hm8:=hm7.pushed h8 g8 a8
       have r8:w8.cell? ⟨g,off+k*3+1,none⟩=some (.string vs):=(sS g8).cell e7 (by
        intro hqm
        have h1:=hnew.out g (by simpa using hqm)
        have h2:=hgl.out
        omega)
       go_wp2_with fail
       refine hK.out _ _ r8 (fun hHeld=> ?_)
       clear hK K
       refine ah 12 rfl (by kernel_rfl) (fun K hK=> ?_)
       go_simp
       go_wp2_with fail
       refine hK.out _ _ r8 (fun hHeld=> ?_)
       clear hK K
       refine wpAnyH_done (by kernel_rfl) ?_ _
       clear hHeld
       rw [←hnext.out] at hm8
       replace hm8:=Lib.hid hm8
       clear hm7 hm1 b7 h8 g8 a8 e2 e7 r8
       go_wp2
       go_roundw
       case rel=>exact⟨k+1,by omega,by go_num,hst,hm8.out⟩
       case measure=>simp [intOf];omega
      ·have hnf:Oi ⟨ky,vl,gn⟩=false:=Bool.eq_false_iff.2 fun h=>hb6 (hfi.1 h).2.2
       obtain⟨q1,q2⟩:=YI hmem hnf
       have h50:(((ky.getD 5 0).toNat:Nat):Int)=0:=by rw [hb5];rfl
       rw [h50] at ix5
       generalize (ky.getD 6 0).toNat=b at *
       have aeW:(31:Int)<(b:Int):=by omega
       rw [h7] at hsz
       generalize strOf ky=ks at *
       replace hb5:=Lib.hid hb5
       replace h7:=Lib.hid h7
       replace q1:=Lib.hid q1
       replace q2:=Lib.hid q2
       have hfin:=Lib.hid (k2.trans aG.only)
       clear hfit hft hfi hp2 hmem h50 h5 h5' hkl aG hnf
       go_wp2
       go_ret2
       exact⟨_,by rw [q1.out];rfl,by rw [q2.out];exact Mine.start _ _ _ hfin.out⟩
     ·have hnf:Oi ⟨ky,vl,gn⟩=false:=Bool.eq_false_iff.2 fun h=>hb5 (hfi.1 h).2.1
      obtain⟨q1,q2⟩:=YI hmem hnf
      have hbz:¬(((ky.getD 5 0).toNat:Nat):Int)=0:=by
       have:=Hq hb5
       rw [beq_eq_false_iff_ne] at this
       exact this
      generalize (((ky.getD 5 0).toNat:Nat):Int)=a at *
      rw [h7] at hsz
      generalize strOf ky=ks at *
      replace hb5:=Lib.hid hb5
      replace h7:=Lib.hid h7
      replace q1:=Lib.hid q1
      replace q2:=Lib.hid q2
      have hfin:=Lib.hid (k2.trans aG.only)
      clear hfit hft hfi hp2 hmem h5 h5' hkl aG hnf ix6
      go_wp2
      go_ret2
      exact⟨_,by rw [q1.out];rfl,by rw [q2.out];exact Mine.start _ _ _ hfin.out⟩
    ·have hnf:Oi ⟨ky,vl,gn⟩=false:=Bool.eq_false_iff.2 fun h=>h7 (hfi.1 h).1
     obtain⟨q1,q2⟩:=YI hmem hnf
     have h7':¬((strOf ky).size:Int)=7:=by omega
     have h50:¬((strOf ky).size:Int)<5:=by omega
     generalize strOf ky=ks at *
     replace h7:=Lib.hid h7
     replace q1:=Lib.hid q1
     replace q2:=Lib.hid q2
     have hfin:=Lib.hid (k2.trans aG.only)
     clear hfit hft hfi hmem h5 h5' hkl aG hnf hsz
     go_wp2
     go_ret2
     exact⟨_,by rw [q1.out];rfl,by rw [q2.out];exact Mine.start _ _ _ hfin.out⟩
   ·have hiu:=Z4 (by rw [←hhd.out];exact hout)
    rw [if_neg (by simp [hiu])] at hft
    have hst:Hid (∀ e∈(L.take (k+1)).filter (inU x),Oi e=true):=fun e he=>by
     rw [hft] at he
     exact hfit.out e he
    have hnext:((L.take (k+1)).filter (inU x)).map xX=Lk:=by rw [hft,hFm.out]
    rw [←hnext] at aG
    replace hnext:=Lib.hid hnext
    by_cases h5:5≤ky.length
    ·have hup:=gZ (P:=Tryz.prog) 9 Tryz.underlying9 ky 5 5 .i64 rfl h5
     have hcmp:((strOf (ky.take 5)).toList==(strOf hd).toList)=false:=Q9 (fun e=>hout ⟨h5,Iw e⟩)
     have h5':¬((strOf ky).size:Int)<5:=by omega
     generalize strOf (ky.take 5)=t5 at *
     generalize strOf ky=ks at *
     replace hout:=Lib.hid hout
     replace h5:=Lib.hid h5
     replace aG:=Lib.hid aG
     clear hfit hft hfi Z4 TS hin hsz hkl
     go_wp2
     go_roundw
     case rel=>exact⟨k+1,by omega,by go_num,hst,aG.out⟩
     case measure=>simp [intOf];omega
    ·have h5':((strOf ky).size:Int)<5:=by omega
     generalize strOf ky=ks at *
     replace hout:=Lib.hid hout
     replace h5:=Lib.hid h5
     replace aG:=Lib.hid aG
     clear hfit hft hfi Z4 TS hin hsz hkl
     go_wp2
     go_roundw
     case rel=>exact⟨k+1,by omega,by go_num,hst,aG.out⟩
     case measure=>simp [intOf];omega
  ·have hkn:L.take k=L:=List.take_of_length_le (by have:=HN.out;omega)
   rw [hkn] at aG hfit
   have hall:(L.filter (inU x)).all Oi=true:=by
    rw [List.all_eq_true]
    exact hfit.out
   have hok:mV (L.filter (inU x))=right ((L.filter (inU x)).map xX):=by rw [NT,hall];rfl
   have hO:=Tz hall
   have hll:mV (L.filter (inU x))=true→ldL (L.filter (inU x))=(L.filter (inU x)).map xX:=fun h=>by unfold ldL;rw [if_pos h,hO]
   have hl0:mV (L.filter (inU x))=false→ldL (L.filter (inU x)) = []:=fun h=>by unfold ldL;rw [h];rfl
   have hOl:((L.filter (inU x)).map xX).length≤1024:=by
    rw [List.length_map]
    refine Nat.le_trans (List.length_filter_le _ _) ?_
    have:=HN.out
    omega
   generalize (L.filter (inU x)).map xX=O at *
   obtain⟨A',ca,rfl,hE,_,_⟩:=lG aG
   have hmn:=Lib.hid (Mine.from k2 aG)
   have k3r:=aG.only
   obtain⟨m,hm⟩:∃ m,m=O.length:=⟨_,rfl⟩
   have g1:=IL wr A' ca m O hm hE (by omega)
   rw [←hm] at hmn ⊢
   replace hll:=Lib.hid hll
   replace hl0:=Lib.hid hl0
   replace hok:=Lib.hid hok
   clear aG hfit hkn hall hO
   cases hr:right O with
   | false=>
    have hbad:=Lib.hid (hok.out.trans hr)
    have hbl:=Lib.hid (hl0.out hbad.out)
    rw [hr] at g1
    replace hm:=Lib.hid hm
    replace hr:=Lib.hid hr
    go_wp2_with fail
    refine g1.mono ?_;rintro e w5 ⟨rfl,k5⟩
    have hfin:=Lib.hid ((k2.trans k3r).trans k5)
    clear k5 k3r k2
    go_wp2
    go_ret2
    exact⟨_,by rw [hbad.out];rfl,by rw [hbl.out];exact Mine.start _ _ _ hfin.out⟩
   | true=>
    have hgood:=Lib.hid (hok.out.trans hr)
    have hgl:=Lib.hid (hll.out hgood.out)
    rw [hr] at g1
    replace hm:=Lib.hid hm
    replace hr:=Lib.hid hr
    go_wp2_with fail
    refine g1.mono ?_;rintro e w5 ⟨rfl,k5⟩
    have hfin:=Lib.hid (hmn.out.keep k5)
    clear k5 k3r k2 hE
    go_wp2
    go_ret2
    exact⟨_,by rw [hgood.out];rfl,by rw [hgl.out];exact hfin.out⟩
end Go.Proofs.YtmelaiefbpdifaaGreatDoor.Pgs
