/- Joined: Rmap, Open5, Open6, List, Fit5, News, Range. -/
import Derived.Test.YtmelaiefbpdifaaGreatDoorHGe
import Derived.Maps.OwnSet
import Derived.Maps.RangeWalk
import Derived.Sort.KeysCollected
/- Rows in memory: the map, the header; Get, Free. -/
namespace Go.Proofs.YtmelaiefbpdifaaGreatDoor
open Go.RowKit Go.Maps
theorem YR:Keyed Tryz.prog 9:=string_keyed Tryz.underlying9
theorem QM(w:World):(zeroValue 165).run Tryz.prog w = .ok (.agg #[.int .i64 0,.string ⟨#[]⟩]) w:=by kernel_rfl
def Ac(w:World)(mb:Nat)(M:List Rw):Prop:=w.ownsMap Tryz.prog 9 rowElem mb M.length (mapD M)
theorem pX{w:World}{mb n:Nat}{M:List Rw}(h:w.ownsMap Tryz.prog 9 rowElem mb n (mapD M)):Ac w mb M:=by
 obtain⟨es,clock,h1,h2,h3,h4⟩:=h
 refine⟨es,clock,h1,h2,?_,h4⟩
 have h5:=congrArg Maps.size h4
 rw [Bv] at h5
 have h6:Maps.size (DataW.map ((es.toList.map (WideElems.rg Tryz.prog 9 rowElem)).foldr DataW.insert []))=es.size:=by simp [Maps.size,length_sorted]
 omega
section
variable {S:List Nat}{w w':World}{mb:Nat}{M:List Rw}
theorem Ac.lt(h:Ac w mb M):mb<w.heap.size:=World.ownsMap.lt h
theorem Ac.kept(h:Ac w mb M)(k:Only S w w')(hmb:mb∉S):Ac w' mb M:=by
 have hlt:=h.lt
 obtain⟨es,clock,h1,h2⟩:=h
 exact⟨es,clock,(k.block mb hlt hmb).trans h1,h2⟩
theorem Ac.new(w:World):Ac (w.alloc (.map #[] 0)) w.heap.size []:=World.ownsMap_made w _ _ _
theorem lT(h:w.mapTurned w' mb):Only [mb] w w':=by
 have g:=h.grown
 exact⟨g.os,g.tape,g.output,g.size,fun k hk hn=>g.block k hk (fun e=>hn (by injection e with e;simp [e]))⟩
def kF(M:List Rw)(k:List UInt8):List UInt8:=match aK M k with
 | some r=>r.val
 | none=>[]
def atL(M:List Rw)(k:List UInt8):Nat:=match aK M k with
 | some r=>r.at_
 | none=>0
theorem Ih{k:List UInt8}{r:Rw}(h:aK M k=some r):kF M k=r.val:=by rw [kF,h]
theorem fO{k:List UInt8}{r:Rw}(h:aK M k=some r):atL M k=r.at_:=by rw [atL,h]
theorem Js(k:List UInt8)(hk:k.length≤1048576):keyOf Tryz.prog 9 (.string (strOf k))=some (.string k):=by
 have:=WideMaps.keyOf_string_mk (P:=Tryz.prog) Tryz.underlying9 (s:=strOf k) (by rw [aj];unfold maxLen;omega)
 rwa [dh] at this
theorem Jh(k:List UInt8):(mapD M).atKey (.string k) (.agg [.lit (.int .i64 0),.lit (.string [])]) = .agg [.lit (.int .i64 (atL M k:Int)),.lit (.string (kF M k))]:=by
 rw [Es]
 unfold atL kF
 cases aK M k<;>rfl
theorem xQ{v:Value}{a:Int}{l:List UInt8}{ps:List MemPlace}(h:rowElem v=some (.agg [.lit (.int .i64 a),.lit (.string l)],ps)):v = .agg #[.int .i64 a,.string (strOf l)]:=by
 obtain⟨a',s,rfl,hz⟩:=rowElem_inv h
 simp only [Prod.mk.injEq,DataW.agg.injEq,List.cons.injEq,DataW.lit.injEq,Lit.int.injEq,Lit.string.injEq,true_and,and_true] at hz
 obtain⟨⟨h1,h2⟩,_⟩:=hz
 rw [h1,h2,mX]
theorem Ac.look_ok(h:Ac w mb M)(k:List UInt8)(hk:k.length≤1048576):
  (Instr.lookup 89 (.map (some mb)) (.string (strOf k)) true).run Tryz.prog w = .ok (.tuple #[.agg #[.int .i64 (atL M k:Int),.string (strOf (kF M k))],.bool (aK M k).isSome]) w:=by
 obtain⟨v,ps,h1,h2⟩:=World.ownsMap.look_ok h YR Tryz.underlying89 (QM w) (rowElem_mk 0 ⟨#[]⟩) (Js k hk)
 have h3:=Jh (M:=M) k
 rw [show (⟨#[]⟩:ByteArray).data.toList = [] from rfl,h3] at h2
 rw [h1,xQ h2,Gh]
theorem Ac.look(h:Ac w mb M)(k:List UInt8)(hk:k.length≤1048576):
  (Instr.lookup 89 (.map (some mb)) (.string (strOf k)) false).run Tryz.prog w = .ok (.agg #[.int .i64 (atL M k:Int),.string (strOf (kF M k))]) w:=by
 obtain⟨v,ps,h1,h2⟩:=World.ownsMap.lookup h YR Tryz.underlying89 (QM w) (rowElem_mk 0 ⟨#[]⟩) (Js k hk)
 have h3:=Jh (M:=M) k
 rw [show (⟨#[]⟩:ByteArray).data.toList = [] from rfl,h3] at h2
 rw [h1,xQ h2]
theorem Ac.len(h:Ac w mb M)(ty:TypeId):(Builtin.len_ #[89] ty #[.map (some mb)]).run Tryz.prog w = .ok (.int .i64 (M.length:Int)) w:=by
 have:=World.ownsMap.len h Tryz.underlying89 ty
 rwa [Bv] at this
theorem Df{ops:Array Oper}{rest:List Oper}{o:Oper}{a:Act}{Q:Exit→Act→World→Prop}(hg:o.guard=none)(m x v:Operand)(hop:o.op=Op.mapUpdate 89 m x v)
  (hm:a.eval m = .map (some mb)) (h:Ac w mb M) (hn:M.length≤1048576) (r:Rw) (hk:r.key.length≤1048576) (hx:a.eval x = .string (strOf r.key)) (hv:a.eval v = .agg #[.int .i64 (r.at_:Int),.string (strOf r.val)])
  (hK:∀ w',Ac w' mb (wG M r)→Only [mb] w w'→wpList Tryz.prog ops Q rest (a.put o.dst undef) w'):
  wpList Tryz.prog ops Q (o :: rest) a w:=
 wpList_mapUpdate_in w hg m x v _ hop _ _ YR Tryz.underlying89 rowElem mb M.length (mapD M) hm h (by unfold maxLen;omega) _ _ (.string r.key) hx hv (Js r.key hk) (.agg [.lit (.int .i64 (r.at_:Int)),.lit (.string r.val)]) []
  (by rw [rowElem_mk,dh]) (fun w' h1 h2=>hK w' (pX (by rw [←NQ];exact h1)) (lT h2))
end
structure gy(w:World)(rp mb lp:Nat)(M:List Rw):Prop where
 hdr:Blk w rp 91 #[.pointer (some ⟨lp,0,none⟩),.map (some mb)]
 map:Ac w mb M
theorem gy.kept{S:List Nat}{w w':World}{rp mb lp:Nat}{M:List Rw}(h:gy w rp mb lp M)(k:Only S w w')(h1:rp∉S)(h2:mb∉S):gy w' rp mb lp M:=⟨h.hdr.kept k h1,h.map.kept k h2⟩
theorem gy.cells{w:World}{rp mb lp:Nat}{M:List Rw}(h:gy w rp mb lp M):w.cell? ⟨rp,0,none⟩=some (.pointer (some ⟨lp,0,none⟩))∧w.cell? ⟨rp,1,none⟩=some (.map (some mb)):=by
 have c0:=h.hdr.cell 0
 have c1:=h.hdr.cell 1
 simp only [List.getElem?_toArray,List.getElem?_cons_zero,List.getElem?_cons_succ] at c0 c1
 exact⟨c0,c1⟩
theorem get_any(w:World)(rp mb lp:Nat)(M:List Rw)(k:List UInt8)(hk:k.length≤1048576)(h:gy w rp mb lp M):
  Calls Tryz.prog 81 #[.pointer (some ⟨rp,0,none⟩),.string (strOf k)] w fun e w'=>e = .returned (.tuple #[.string (strOf (kF M k)),.bool (aK M k).isSome])∧Only [] w w':=by
 obtain⟨_,c1⟩:=h.cells
 have hl:=h.map.look_ok k hk
 clear h
 generalize strOf k=ks at *
 generalize strOf (kF M k)=vs at *
 generalize (aK M k).isSome=b at *
 generalize (atL M k:Int)=x at *
 have kk:Only [] w (w.alloc (.cells #[.int .i64 x,.string vs] 165)):=(Only.refl [] w).alloc _
 go_enter Tryz.func81,Tryz.ntmps81
 go_wp2
 go_ret2
 exact⟨rfl,kk⟩
set_option maxRecDepth 100000 in
theorem GI(w:World)(rp mb lp p n:Nat)(f:Bool)(F:List Nat)(s:St)(M:List Rw)(h:gy w rp mb lp M)(hl:oh w lp p n f)(hd:Dev w p F s)(hM:M.length≤1048576):
  Calls Tryz.prog 39 #[.pointer (some ⟨rp,0,none⟩)] w fun e w'=>e = .returned (.int .i64 ((s.aA.length:Int)-41-(M.length:Int)))∧Only [] w w':=by
 have kd:Only [] w w.drew:=(Only.refl [] w).drew
 have h':=h.kept kd (by simp) (by simp)
 obtain⟨c0,c1⟩:=h'.cells
 have hlen:=h'.map.len
 have hs:=size_any w.drew lp p n f F s (Blk.kept hl kd (by simp)) (hd.kept kd (by simp))
 have hfew:=hd.fine.few
 have hw:IntKind.i64.wrap ((s.aA.length:Int)-41-(M.length:Int))=(s.aA.length:Int)-41-(M.length:Int):=by simp only [IntKind.wrap,IntKind.bits,IntKind.signed];simp;omega
 have hx : -41≤(s.aA.length:Int)-41∧(s.aA.length:Int)-41≤1024:=by omega
 have hy:0≤(M.length:Int)∧(M.length:Int)≤1048576:=by omega
 clear h h' hl hd hfew hM
 generalize (s.aA.length:Int)-41=x at *
 generalize (M.length:Int)=y at *
 have hv:(wrap64 (x-y))=x-y:=by simp only [wrap64];omega
 replace hv:=Lib.hid hv
 replace hw:=Lib.hid hw
 replace hs:=Lib.hid hs
 go_enter Tryz.func39,Tryz.ntmps39
 go_wp2
 refine wp_region_held_drew (S:=fun w'=>w'=w.drew) (by kernel_rfl) rfl (fun hHeld=> ?_)
 refine rwT 0 (.pointer (some ⟨rp,0,none⟩)) hHeld ?_;simp only [rwA]
 refine rwT 1 (.pointer (some ⟨rp,0,none⟩)) hHeld ?_;simp only [rwA]
 refine rwT 2 (.pointer (some ⟨rp,0,none⟩)) hHeld ?_;simp only [rwA]
 refine rwT 3 (.pointer (some ⟨lp,0,none⟩)) hHeld ?_;simp only [rwA]
 refine rwT 5 (.pointer (some ⟨rp,0,none⟩)) hHeld ?_;simp only [rwA]
 refine rwT 6 (.pointer (some ⟨rp,0,none⟩)) hHeld ?_;simp only [rwA]
 refine rwT 7 (.pointer (some ⟨rp,1,none⟩)) hHeld ?_;simp only [rwA]
 refine rwT 8 (.map (some mb)) hHeld ?_;simp only [rwA]
 refine ah 4 rfl (by kernel_rfl) (fun K hK=> ?_)
 go_simp
 go_at_call 34
 refine hs.out.mono ?_
 rintro e w1 ⟨rfl,rfl⟩
 go_wp2_with fail
 refine hK.out _ _ rfl (fun hHeld=> ?_)
 clear hK K
 refine rwT 9 (.int .i64 y) hHeld ?_;simp only [rwA]
 replace hw:=hw.out
 refine rwT 10 (.int .i64 (x-y)) hHeld ?_;simp only [rwA]
 replace hw:=Lib.hid hw
 refine rwT 11 (.int .i64 (x-y)) hHeld ?_;simp only [rwA]
 refine wpAnyH_done (by kernel_rfl) ?_ _
 clear hHeld
 go_wp2
 go_ret
 exact⟨rfl,kd⟩
end Go.Proofs.YtmelaiefbpdifaaGreatDoor
/- load, Open: what a device's rows are. -/
namespace Go.Proofs.YtmelaiefbpdifaaGreatDoor
open Go.RowKit Go.Maps
def mQ(M:List Rw)(d:List UInt8)(i:Nat):Option (List Rw):=
 if bM d then some M else match qE d with
 | none=>none
 | some x=>if (aK M x.1).isSome then none else some (wG M ⟨x.1,x.2,i⟩)
def dR:List Rw→List (List UInt8)→Nat→Option (List Rw)
 | M,[],_=>some M
 | M,d :: r,i=>match mQ M d i with
  | none=>none
  | some M'=>dR M' r (i+1)
def eY(L:List (List UInt8)):Option (List Rw):=dR [] L 0
theorem zh:∀ (L:List (List UInt8)) (M:List Rw) (i:Nat) (d:List UInt8),
  dR M (L++[d]) i=match dR M L i with | none=>none | some M'=>mQ M' d (i+L.length)
 | [],M,i,d=>by
  simp only [List.nil_append,dR,List.length_nil,Nat.add_zero]
  cases mQ M d i<;>rfl
 | a :: r,M,i,d=>by
  simp only [List.cons_append,dR]
  cases mQ M a i with
  | none=>rfl
  | some M'=>
   simp only
   rw [zh r M' (i+1) d,List.length_cons,show i+1+r.length=i+(r.length+1) by omega]
theorem zl:∀ (L L':List (List UInt8)) (M:List Rw) (i:Nat),dR M L i=none→dR M (L++L') i=none
 | [],L',M,i,h=>by simp [dR] at h
 | a :: r,L',M,i,h=>by
  simp only [List.cons_append,dR] at h ⊢
  cases hl:mQ M a i with
  | none=>rfl
  | some M'=>rw [hl] at h;exact zl r L' M' (i+1) h
theorem yR{d k v:List UInt8}(h:qE d=some (k,v)):1≤k.length∧k.length≤16∧v.length≤200:=by
 unfold qE at h
 split at h
 ·rename_i hg
  simp only [Option.some.injEq,Prod.mk.injEq] at h
  obtain⟨rfl,rfl⟩:=h
  simp only [goodD,Bool.and_eq_true,oM,decide_eq_true_eq] at hg
  refine⟨hg.2.1.1,hg.2.1.2,?_⟩
  have h0:(dO d).2.2=0:=by simpa using hg.1.1
  unfold dO at h0 ⊢
  generalize (dB d).2.1=a at *
  by_cases he:(dB d).2.2=0
  ·rw [he] at h0 ⊢
   have:=(AY 200 a h0).2
   omega
  ·rw [wF 200 a _ he] at h0
   exact absurd h0 he
 ·cases h
def Loaded(w w':World)(rp mb lp:Nat)(o:Option (List Rw))(e:Ending):Prop:=
 Only [mb] w w'∧((o=none∧e = .returned (.int .i64 25))∨∃ M',o=some M'∧e = .returned (.int .i64 0)∧gy w' rp mb lp M')
set_option maxRecDepth 100000 in
set_option maxHeartbeats 1000000 in
theorem NR(w:World)(rp mb lp p n:Nat)(F:List Nat)(s:St)(M:List Rw)(i:Nat)(h:gy w rp mb lp M)(hl:oh w lp p n false)(hd:Dev w p F s)(fG:s.dead=false)(hi:i<s.aA.length-41)(hM:M.length≤1048575)(hne:rp≠mb):
  Calls Tryz.prog 35 #[.pointer (some ⟨rp,0,none⟩),.int .i64 (i:Int)] w fun e w'=>Loaded w w' rp mb lp (mQ M ((bI s (41+i)).drop 8) i) e:=by
 have hr:=Tj w lp p n false F s (i:Int) hl hd
 have hhome:gV s.aA.length (i:Int)=true:=by simp only [gV,decide_eq_true_eq];omega
 have r1:dG s false (i:Int)=0:=by rw [dG,hhome,if_neg (by decide),if_neg (by decide),if_neg (by rw [fG];decide)]
 have r2:iE s false (i:Int)=(bI s (41+i)).drop 8:=by
  rw [iE,hhome,if_neg (by decide),if_neg (by decide),if_neg (by rw [fG];decide)]
  rfl
 have hbl:=hd.fine.blk (k:=41+i) (by omega)
 have hdl:((bI s (41+i)).drop 8).length≤1048576:=by simp;omega
 have hfew:=hd.fine.few
 have hiI:(i:Int)≤1024:=by omega
 rw [r1,r2] at hr
 clear hl hd r1 r2 hhome hbl hfew hi fG
 generalize (bI s (41+i)).drop 8=d at *
 have hz:=fun W=>Ib W d hdl
 have hro:=fun W=>RJ W d hdl
 obtain⟨c0,c1⟩:=h.cells
 have hlook:=fun W (k:Only [] w W) key hk=>(h.map.kept k (by simp)).look_ok key hk
 have hkeep:=fun W (k:Only [] w W)=>h.kept k (by simp) (by simp)
 replace hr:=Lib.hid hr
 replace hz:=Lib.hid hz
 replace hro:=Lib.hid hro
 replace hlook:=Lib.hid hlook
 replace hkeep:=Lib.hid hkeep
 replace hdl:=Lib.hid hdl
 have hstr:Hid (strOf d=strOf d):=rfl
 cases hzd:bM d with
 | true=>
  have hfin:∀ W,Only [] w W→Loaded w W rp mb lp (mQ M d i) (.returned (.int .i64 0)):=fun W k=>⟨k.more (by simp),.inr ⟨M,by rw [mQ,if_pos hzd],rfl,hkeep.out W k⟩⟩
  rw [hzd] at hz
  replace hzd:=Lib.hid hzd
  generalize strOf d=ds at *
  replace hfin:=Lib.hid hfin
  clear h
  go_enter Tryz.func35,Tryz.ntmps35
  go_wp2_with fail
  refine hr.out.mono ?_
  rintro e w1 ⟨rfl,rfl⟩
  go_wp2_with fail
  refine (hz.out _).mono ?_
  rintro e w2 ⟨rfl,k2⟩
  have dw:=hfin.out _ k2
  go_wp2
  go_ret
  exact dw
 | false=>
  rw [hzd] at hz
  have hno:¬bM d=true:=by rw [hzd];decide
  cases hrd:qE d with
  | none=>
   have hfin:∀ W,Only [] w W→Loaded w W rp mb lp (mQ M d i) (.returned (.int .i64 25)):=fun W k=>⟨k.more (by simp),.inl ⟨by rw [mQ,if_neg hno,hrd],rfl⟩⟩
   have hv:AL d = .tuple #[.string ⟨#[]⟩,.string ⟨#[]⟩,.bool false]:=by rw [AL,hrd]
   rw [hv] at hro
   have hl0:=fun W k=>hlook.out W k [] (by simp)
   rw [show strOf []=(⟨#[]⟩:ByteArray) from rfl] at hl0
   generalize strOf d=ds at *
   generalize strOf (kF M [])=vs at *
   generalize (aK M []).isSome=b at *
   generalize (atL M []:Int)=x at *
   replace hfin:=Lib.hid hfin
   replace hl0:=Lib.hid hl0
   replace hrd:=Lib.hid hrd
   replace hzd:=Lib.hid hzd
   clear h hv
   go_enter Tryz.func35,Tryz.ntmps35
   go_wp2_with fail
   refine hr.out.mono ?_
   rintro e w1 ⟨rfl,rfl⟩
   go_wp2_with fail
   refine (hz.out _).mono ?_
   rintro e w2 ⟨rfl,k2⟩
   go_wp2_with fail
   refine (hro.out _).mono ?_
   rintro e w3 ⟨rfl,k3⟩
   have k13:=k2.trans k3
   have d1:=k13.cell c1 (by simp)
   have hq:=hl0.out w3 k13
   have dw:=hfin.out _ (k13.alloc (.cells #[.int .i64 x,.string vs] 165))
   clear c0 c1 k2 k3
   go_wp2
   go_ret
   exact dw
  | some x=>
   obtain⟨k,v⟩:=x
   obtain⟨hk1,hk2,hv2⟩:=yR hrd
   have hv:AL d = .tuple #[.string (strOf k),.string (strOf v),.bool true]:=by rw [AL,hrd]
   rw [hv] at hro
   have hl0:=fun W kk=>hlook.out W kk k (by omega)
   cases hf:aK M k with
   | some r=>
    have hfin:∀ W,Only [] w W→Loaded w W rp mb lp (mQ M d i) (.returned (.int .i64 25)):=fun W kk=>⟨kk.more (by simp),.inl ⟨by rw [mQ,if_neg hno,hrd];simp [hf],rfl⟩⟩
    rw [hf] at hl0
    rw [show (some r).isSome=true from rfl] at hl0
    generalize strOf d=ds at *
    generalize strOf (kF M k)=vs at *
    generalize strOf k=ks at *
    generalize strOf v=us at *
    generalize (atL M k:Int)=x at *
    replace hfin:=Lib.hid hfin
    replace hl0:=Lib.hid hl0
    replace hrd:=Lib.hid hrd
    replace hzd:=Lib.hid hzd
    replace hf:=Lib.hid hf
    clear h hv
    go_enter Tryz.func35,Tryz.ntmps35
    go_wp2_with fail
    refine hr.out.mono ?_
    rintro e w1 ⟨rfl,rfl⟩
    go_wp2_with fail
    refine (hz.out _).mono ?_
    rintro e w2 ⟨rfl,k2⟩
    go_wp2_with fail
    refine (hro.out _).mono ?_
    rintro e w3 ⟨rfl,k3⟩
    have k13:=k2.trans k3
    have d1:=k13.cell c1 (by simp)
    have hq:=hl0.out w3 k13
    have dw:=hfin.out _ (k13.alloc (.cells #[.int .i64 x,.string vs] 165))
    clear c0 c1 k2 k3
    go_wp2
    go_ret
    exact dw
   | none=>
    have hfin:∀ W W',Only [] w W→gy W rp mb lp M→Ac W' mb (wG M ⟨k,v,i⟩)→Only [mb] W W'→Loaded w W' rp mb lp (mQ M d i) (.returned (.int .i64 0)):=fun W W' kk hr h1 h2=>
     ⟨(kk.more (T:=[mb]) (by simp)).trans h2,.inr ⟨_,by rw [mQ,if_neg hno,hrd];simp [hf],rfl,hr.hdr.kept h2 (by simpa using hne),h1⟩⟩
    rw [hf] at hl0
    rw [show (none:Option Rw).isSome=false from rfl] at hl0
    have hput:=fun W (hr:gy W rp mb lp M)=>hr
    generalize hds:strOf d=ds at *
    generalize strOf (kF M k)=vs at *
    generalize hks:strOf k=ks at *
    generalize hus:strOf v=us at *
    generalize (atL M k:Int)=x at *
    replace hfin:=Lib.hid hfin
    replace hl0:=Lib.hid hl0
    replace hrd:=Lib.hid hrd
    replace hzd:=Lib.hid hzd
    replace hf:=Lib.hid hf
    replace hds:=Lib.hid hds
    replace hks:=Lib.hid hks
    replace hus:=Lib.hid hus
    clear h hv hput
    go_enter Tryz.func35,Tryz.ntmps35
    go_wp2_with fail
    refine hr.out.mono ?_
    rintro e w1 ⟨rfl,rfl⟩
    go_wp2_with fail
    refine (hz.out _).mono ?_
    rintro e w2 ⟨rfl,k2⟩
    go_wp2_with fail
    refine (hro.out _).mono ?_
    rintro e w3 ⟨rfl,k3⟩
    have k13:=k2.trans k3
    have d1:=k13.cell c1 (by simp)
    have hq:=hl0.out w3 k13
    have k14:=k13.alloc (.cells #[.int .i64 x,.string vs] 165)
    have h14:=hkeep.out _ k14
    obtain⟨_,d2⟩:=h14.cells
    clear c0 c1 k2 k3 k13
    go_wp2_with (at_mapUpdate;go_must (refine Df rfl _ _ _ rfl rfl h14.map (by omega) ⟨k,v,i⟩ (by simp only;omega) (by rw [←hks.out];rfl) (by rw [←hus.out];rfl) ?_);intro w5 h5 k5)
    have dw:=hfin.out _ _ k14 h14 h5 k5
    clear h14 h5 k5 k14
    go_wp2
    go_ret
    exact dw
end Go.Proofs.YtmelaiefbpdifaaGreatDoor
/- Open: what a device's rows are. -/
namespace Go.Proofs.YtmelaiefbpdifaaGreatDoor
open Go.RowKit Go.Maps
structure Own5(w w':World)(F:List Nat)(rp mb lp p:Nat)(s:St)(n:Nat)(f:Bool)(M:List Rw):Prop where
 own:Own w w' F lp p s n f
 rows:gy w' rp mb lp M
 ne1:rp≠mb
 ne2:rp≠lp
 ne3:mb≠lp
 out1:rp∉F
 Ye:mb∉F
 Vh:w.heap.size≤rp
 SI:w.heap.size≤mb
theorem Jk{M M':List Rw}{d:List UInt8}{i:Nat}(h:mQ M d i=some M'):M'.length≤M.length+1:=by
 unfold mQ at h
 split at h
 ·cases h;omega
 ·split at h
  ·cases h
  ·split at h
   ·cases h
   ·rename_i hn
    injection h with h
    subst h
    cases hf:aK M _ with
    | some r=>rw [hf] at hn;exact absurd rfl hn
    | none=>rw [V3 hf];exact Nat.le_refl _
theorem nI{L:List (List UInt8)}{k:Nat}(h:k<L.length):dR [] (L.take (k+1)) 0=match dR [] (L.take k) 0 with | none=>none | some M'=>mQ M' L[k] k:=by
 rw [List.take_add_one,List.getElem?_eq_getElem h]
 simp only [Option.toList_some]
 rw [zh]
 simp only [Nat.zero_add,List.length_take]
 rw [Nat.min_eq_left (by omega)]
 all_goals (cases dR [] (L.take k) 0<;>rfl)
theorem zf{L:List (List UInt8)}{k:Nat}{M:List Rw}(h:k<L.length)(h1:dR [] (L.take k) 0=some M)(h2:mQ M L[k] k=none):eY L=none:=by
 have h3:dR [] (L.take (k+1)) 0=none:=by rw [nI h,h1];exact h2
 have:=zl (L.take (k+1)) (L.drop (k+1)) [] 0 h3
 rwa [List.take_append_drop] at this
theorem Nb{s:St}(h:dZ s=true):s.dead=false∧(dD s).dead=false:=by
 have hd:s.dead=false:=by
  unfold dZ at h
  cases hs:s.dead
  ·rfl
  ·rw [hs] at h;simp at h
 refine⟨hd,?_⟩
 unfold dD
 rw [if_pos h]
 exact hd
theorem vZ:∀ (l:List Bk) (s:St),(au s l).1=0→(au s l).2.dead=false
 | [],s,h=>by
  rw [au] at h ⊢
  simp only at h ⊢
  have hb:dZ s=true:=by
   cases hb:dZ s
   ·simp [dW,hb] at h
   ·rfl
  unfold bD
  rw [if_neg (by rw [hb];decide)]
  exact (Nb hb).2
 | x :: r,s,h=>by
  rw [au] at h ⊢
  split at h
  ·rename_i hw
   rw [if_pos hw]
   exact vZ r _ h
  ·rename_i hw
   exact absurd h hw
theorem En{s:St}(h:aY s=0):(aJ s).dead=false∧42≤s.aA.length∧(aJ s).aA.length=s.aA.length:=by
 unfold aY at h
 unfold aJ
 split at h
 ·cases h
 ·rename_i h1
  split at h
  ·cases h
  ·rename_i h2
   rw [if_neg h1,if_neg h2]
   have hd:s.dead=false:=by simpa using h2
   split at h
   ·rename_i h3
    rw [if_pos h3]
    exact⟨hd,by omega,rfl⟩
   ·rename_i h3
    rw [if_neg h3]
    exact⟨vZ _ _ h,by omega,aQ _ _⟩
def Fp(s:St)(x:Int):Prop:=(aY s≠0∧x=aY s)∨(aY s=0∧eY (dP (aJ s))=none∧x=25)
def HY(w w1 w':World)(p:Nat)(F:List Nat)(s:St)(e:Ending):Prop:=
 ∃ F',Only F w1 w'∧(∀ j∈F',j∈F∨w1.heap.size≤j) ∧
  ((∃ x,Fp s x∧e = .returned (.tuple #[.pointer none,.int .i64 x])∧xH w w' F' p (aJ s)) ∨
   (∃ rp mb lp M,aY s=0∧eY (dP (aJ s))=some M∧e = .returned (.tuple #[.pointer (some ⟨rp,0,none⟩),.int .i64 0])∧Own5 w w' F' rp mb lp p (aJ s) (fF s) false M ∧
    w1.heap.size≤rp∧w1.heap.size≤mb∧w1.heap.size≤lp))
set_option maxRecDepth 100000 in
set_option maxHeartbeats 1000000 in
theorem xH.Yf{w w1:World}{F:List Nat}{p:Nat}{s:St}(h:xH w w1 F p s)(bY:s.late.length+40≤1048576):
  Calls Tryz.prog 12 #[.pointer (some ⟨p,0,none⟩)] w1 fun e w'=>HY w w1 w' p F s e:=by
 have hop:=open_any w1 p F s h.dev bY
 have h0:=h
 obtain⟨Xq,aF,hnew⟩:=h
 replace hop:=Lib.hid hop
 replace hnew:=Lib.hid hnew
 replace h0:=Lib.hid h0
 by_cases he:aY s=0
 ·go_enter Tryz.func12,Tryz.ntmps12
  go_wp2_with fail
  refine hop.out.mono ?_
  rintro e w2 ⟨F2,hd2,k2,hF2,hcase⟩
  rcases hcase with⟨hx,_⟩ | ⟨_,lp,rfl,tu,hlp,adB⟩
  ·exact absurd he hx
  obtain⟨fG,hN,hlen⟩:=En he
  have hfew:=hd2.fine.few
  have Ul:=hF2.out
  have hlt:=Blk.lt tu
  have hok:Hid (∀ w' F',Dev w' p F' (aJ s)→True):=fun _ _ _=>trivial
  have hsize:=fun W (k:Only [] w2 W)=>size_any W lp p (fF s) false F2 (aJ s) (Blk.kept tu k (by simp)) (hd2.kept k (by simp))
  obtain⟨N,hNe⟩:∃ N:Nat,(aJ s).aA.length=41+N:=⟨(aJ s).aA.length-41,by omega⟩
  have hNI:((aJ s).aA.length:Int)-41=(N:Int):=by omega
  rw [hNI] at hsize
  have hN1:N≤1024:=by omega
  have ae0:(N:Int)≤1024:=by omega
  have hdl:(dP (aJ s)).length=N:=by rw [nN];omega
  have hq1:Only [] w2 (w2.alloc (.map #[] 0)):=(Only.refl [] w2).alloc _
  have hq2:Only [] (w2.alloc (.map #[] 0)) ((w2.alloc (.map #[] 0)).alloc (.cells #[.pointer (some ⟨lp,0,none⟩),.map (some w2.heap.size)] 91)):=(Only.refl [] _).alloc _
  have hrows:gy ((w2.alloc (.map #[] 0)).alloc (.cells #[.pointer (some ⟨lp,0,none⟩),.map (some w2.heap.size)] 91)) (w2.heap.size+1) w2.heap.size lp []:=by
   refine⟨?_,(Ac.new w2).kept hq2 (by simp)⟩
   have:=Blk.new (w2.alloc (.map #[] 0)) 91 #[.pointer (some ⟨lp,0,none⟩),.map (some w2.heap.size)]
   rwa [show (w2.alloc (.map #[] 0)).heap.size=w2.heap.size+1 by simp] at this
  have hk:=hq1.trans hq2
  have hkz:((w2.alloc (.map #[] 0)).alloc (.cells #[.pointer (some ⟨lp,0,none⟩),.map (some w2.heap.size)] 91)).heap.size=w2.heap.size+2:=by simp
  have hmm:=@run_makeMap Tryz.prog
  replace hsize:=Lib.hid hsize
  replace hrows:=Lib.hid hrows
  replace hk:=Lib.hid hk
  replace hkz:=Lib.hid hkz
  replace hNI:=Lib.hid hNI
  replace hNe:=Lib.hid hNe
  replace hdl:=Lib.hid hdl
  replace hN1:=Lib.hid hN1
  replace hlen:=Lib.hid hlen
  replace Ul:=Lib.hid Ul
  clear hq1 hq2
  go_wp2_with fail
  refine (hsize.out _ hk.out).mono ?_
  rintro e w3 ⟨rfl,rfl⟩
  obtain⟨mb,hmb⟩:∃ mb,mb=w2.heap.size:=⟨_,rfl⟩
  simp only [←hmb] at hrows hk hkz ⊢
  obtain⟨rp,hrp⟩:∃ rp,rp=mb+1:=⟨_,rfl⟩
  rw [←hrp] at hrows
  simp only [←hrp]
  generalize hw3:(w2.alloc (.map #[] 0)).alloc (.cells #[.pointer (some ⟨lp,0,none⟩),.map (some mb)] 91)=w3 at *
  replace hw3:=Lib.hid hw3
  replace hmb:=Lib.hid hmb
  replace hrp:=Lib.hid hrp
  have hne:Hid (rp≠mb):=by have:=hmb.out;have:=hrp.out;unfold Hid;omega
  have hload:=fun W M (i:Nat) (hM:M.length≤1048575) (hi:i<N) (hr:gy W rp mb lp M) (k:Only [mb] w3 W)=>
   NR W rp mb lp p (fF s) F2 (aJ s) M i hr ((Blk.kept tu hk.out (by simp)).kept k (by simp;have:=hmb.out;omega)) ((hd2.kept hk.out (by simp)).kept k (fun j hj=>by simp;have:=hmb.out;have:=(Ul.out j hj).2;omega)) fG (by have:=hNe.out;omega) hM hne.out
  have afg:rp<w3.heap.size:=(hrows.out).hdr.lt
  have hno:Hid (∀ W,Only [mb] w3 W→eY (dP (aJ s))=none→HY w w1 W p F s (.returned (.tuple #[.pointer none,.int .i64 25]))):=by
   intro W k hpar
   have hb:=hmb.out
   have kk:Only [] w2 W:=hk.out.then k (by simp;omega)
   refine⟨F2,k2.trans (kk.more (by simp)),fun j hj=>(Ul.out j hj).1,.inl ⟨25,.inr ⟨he,hpar,rfl⟩,rfl,hd2.kept kk (by simp),(aF.then k2 (fun i hi=>.inr (hnew.out i hi).1)).trans kk,fun j hj=>⟨?_,Nat.lt_of_lt_of_le (Ul.out j hj).2 kk.size⟩⟩⟩
   rcases (Ul.out j hj).1 with h' | h'
   ·exact (hnew.out j h').1
   ·have:=aF.size;omega
  have hyes:Hid (∀ W M,Only [mb] w3 W→eY (dP (aJ s))=some M→gy W rp mb lp M→HY w w1 W p F s (.returned (.tuple #[.pointer (some ⟨rp,0,none⟩),.int .i64 0]))):=by
   intro W M k hpar hr
   have hb:=hmb.out
   have hp:=hrp.out
   have kk:Only [] w2 W:=hk.out.then k (by simp;omega)
   have kw:Only [] w W:=(aF.then k2 (fun i hi=>.inr (hnew.out i hi).1)).trans kk
   have afb:=k2.size
   have afc:=aF.size
   refine⟨F2,k2.trans (kk.more (by simp)),fun j hj=>(Ul.out j hj).1,.inr ⟨rp,mb,lp,M,he,hpar,rfl,⟨⟨hd2.kept kk (by simp),Blk.kept tu kk (by simp),adB,by omega,kw,fun j hj=>⟨?_,Nat.lt_of_lt_of_le (Ul.out j hj).2 kk.size⟩⟩,hr,hne.out,by omega,by omega,fun hm=> ?_,fun hm=> ?_,by omega,by omega⟩,by omega,by omega,hlp⟩⟩
   ·rcases (Ul.out j hj).1 with h' | h'
    ·exact (hnew.out j h').1
    ·omega
   ·have:=(Ul.out _ hm).2;omega
   ·have:=(Ul.out _ hm).2;omega
  replace hload:=Lib.hid hload
  have hstart:gy w3 rp mb lp []:=hrows.out
  clear hd2 tu k2 hlt adB hfew Xq h0 hop aF
  go_wp2_with fail
  go_loopw [22] (fun i wr=>∃ (k:Nat) (M:List Rw),k≤N∧i = .int .i64 k∧Hid (dR [] ((dP (aJ s)).take k) 0=some M)∧M.length≤k∧gy wr rp mb lp M∧Only [mb] w3 wr) (fun i _=>N-(intOf i).toNat)
  case atStart=>exact⟨0,[],Nat.zero_le _,rfl,rfl,Nat.le_refl _,hstart,Only.refl _ _⟩
  case round=>
   clear hstart
   obtain⟨k,M,hkN,rfl,hM,hMl,hr,kk⟩:=hrel
   have afI:=hN1.out
   by_cases hlt:k<N
   ·have hc:=hload.out wr M k (by omega) hlt hr kk
    have hdk:(dP (aJ s))[k]'(by rw [hdl.out];exact hlt)=(bI (aJ s) (41+k)).drop 8:=by
     have:=JY (aJ s) k (by have:=hNe.out;omega)
     rw [List.getElem?_eq_getElem (by rw [hdl.out];exact hlt)] at this
     injection this
    rw [←hdk] at hc
    have hnext:=nI (L:=dP (aJ s)) (k:=k) (by rw [hdl.out];exact hlt)
    rw [hM.out] at hnext
    simp only at hnext
    have hstop:=zf (L:=dP (aJ s)) (k:=k) (M:=M) (by rw [hdl.out];exact hlt) hM.out
    generalize (dP (aJ s))[k]'(by rw [hdl.out];exact hlt)=dk at *
    replace hc:=Lib.hid hc
    replace hnext:=Lib.hid hnext
    replace hstop:=Lib.hid hstop
    clear hdk hr
    go_wp2_with fail
    refine hc.out.mono ?_
    rintro e w5 ⟨k5,⟨ho,rfl⟩ | ⟨M',ho,rfl,hr5⟩⟩
    ·have dw:=hno.out w5 (kk.trans k5) (hstop.out ho)
     clear kk k5 ho
     go_wp2
     go_ret2
     exact dw
    ·have k6:=kk.trans k5
     have hM':Hid (dR [] ((dP (aJ s)).take (k+1)) 0=some M'):=by
      unfold Hid
      rw [hnext.out,ho]
     have hl':M'.length≤k+1:=by have:=Jk ho;omega
     clear kk k5 ho
     go_wp2
     go_roundw
     case rel=>exact⟨k+1,M',by omega,by go_num,hM',hl',hr5,k6⟩
     case measure=>simp [intOf];omega
   ·have aeJ:k=N:=by omega
    subst aeJ
    have hpar:eY (dP (aJ s))=some M:=by
     have:=hM.out
     rwa [List.take_of_length_le (by rw [hdl.out];exact Nat.le_refl _)] at this
    have dw:=hyes.out wr M kk hpar hr
    clear hr kk hM hpar
    go_wp2
    go_ret2
    exact dw
 ·have hx:(aY s != 0)=true:=by simpa using he
  have hfin:∀ w' F2,Dev w' p F2 (aJ s)→Only F w1 w'→Hid (∀ j∈F2,(j∈F∨w1.heap.size≤j)∧j<w'.heap.size)→HY w w1 w' p F s (.returned (.tuple #[.pointer none,.int .i64 (aY s)])):=by
   intro w' F2 h1 h2 h3
   refine⟨F2,h2,fun j hj=>(h3.out j hj).1,.inl ⟨_,.inl ⟨he,rfl⟩,rfl,h1,aF.then h2 (fun i hi=>.inr (hnew.out i hi).1),fun j hj=>⟨?_,(h3.out j hj).2⟩⟩⟩
   rcases (h3.out j hj).1 with h' | h'
   ·exact (hnew.out j h').1
   ·have:=aF.size;omega
  replace hfin:=Lib.hid hfin
  go_enter Tryz.func12,Tryz.ntmps12
  go_wp2_with fail
  refine hop.out.mono ?_
  rintro e w2 ⟨F2,hd2,k2,hF2,hcase⟩
  rcases hcase with⟨_,rfl⟩ | ⟨hy,_⟩
  ·have dw:=hfin.out w2 F2 hd2 k2 hF2
   clear hd2 k2 he
   generalize aY s=y at *
   go_wp2
   go_ret2
   exact dw
  ·exact absurd hy he
end Go.Proofs.YtmelaiefbpdifaaGreatDoor
/- Slices of structs of k cells: in memory, made by appends; the changes' and steps' encodings. -/
namespace Go.Proofs.YtmelaiefbpdifaaGreatDoor
open Go.RowKit
section
variable {α:Type}
def encs(enc:α→List Value)(l:List α):List Value:=(l.map enc).flatten
def jq(enc:α→List Value)(k:Nat)(w:World)(g o:Nat)(l:List α):Prop:=∀ i (h:i<l.length) j v,(enc l[i])[j]?=some v→w.cell? ⟨g,o+i*k+j,none⟩=some v
def Els(enc:α→List Value)(k:Nat)(w:World)(A:Option Addr)(l:List α):Prop:=l = []∨∃ g o,A=some ⟨g,o,none⟩∧g<w.heap.size∧jq enc k w g o l
variable {enc:α→List Value}{k:Nat}{w w':World}{A:Option Addr}{l:List α}
theorem jq.kept{S:List Nat}{g o:Nat}(h:jq enc k w g o l)(kk:Only S w w')(hg:g∉S):jq enc k w' g o l:=fun i hi j v hv=>kk.cell (h i hi j v hv) hg
theorem Els.kept{S:List Nat}(h:Els enc k w A l)(kk:Only S w w')(hA:∀ a,A=some a→a.block∉S):Els enc k w' A l:=by
 rcases h with h | ⟨g,o,rfl,hg,hc⟩
 ·exact .inl h
 ·exact .inr ⟨g,o,rfl,Nat.lt_of_lt_of_le hg kk.size,hc.kept kk (hA _ rfl)⟩
theorem Els.get(h:Els enc k w A l){i:Nat}(hi:i<l.length):∃ g o,A=some ⟨g,o,none⟩∧g<w.heap.size∧jq enc k w g o l:=by
 rcases h with rfl | h
 ·simp at hi
 ·exact h
theorem UC(l:List α)(x:α):encs enc (l++[x])=encs enc l++enc x:=by simp [encs]
theorem mg(hk:∀ x,(enc x).length=k)(l:List α):(encs enc l).length=l.length*k:=by
 unfold encs
 rw [zW k _ (by intro b hb;simp only [List.mem_map] at hb;obtain⟨y,_,rfl⟩:=hb;exact hk y),List.length_map]
theorem rW(hk:∀ x,(enc x).length=k)(l:List α)(i:Nat)(hi:i<l.length)(j:Nat)(v:Value)(hv:(enc l[i])[j]?=some v):(encs enc l)[i*k+j]?=some v:=
 rQ k _ i j (enc l[i]) v (by intro b hb;simp only [List.mem_map] at hb;obtain⟨y,_,rfl⟩:=hb;exact hk y) (by simp [hi]) hv
theorem GZ(h1:∀ x,∀ v∈enc x,v.oneCell'=true)(l:List α):∀ v∈encs enc l,v.oneCell'=true:=by
 intro v hv
 simp only [encs,List.mem_flatten,List.mem_map] at hv
 obtain⟨b,⟨x,_,rfl⟩,hv⟩:=hv
 exact h1 x v hv
def fV(enc:α→List Value)(k:Nat)(w w':World)(v:Value)(l:List α):Prop:=
 ∃ A c,v = .slice A l.length c∧l.length≤c∧Els enc k w' A l∧Only [] w w'∧∀ a,A=some a→w.heap.size≤a.block
theorem MI{e:TypeId}{v:Value}(hk:∀ x,(enc x).length=k)(h:w'.ownsRow 0 e k v l.length (encs enc l))(kk:Only [] w w')(hnew:∀ g,v.ownBlock=some g→w.heap.size≤g):fV enc k w w' v l:=by
 by_cases h0:l.length=0
 ·obtain rfl:l = []:=List.eq_nil_of_length_eq_zero h0
  rcases id h.2 with⟨rfl,_⟩ | ⟨g,cap,cur,rfl,hb,hg,r⟩
  ·exact⟨none,0,rfl,Nat.le_refl _,.inl rfl,kk,by simp⟩
  ·exact⟨_,_,rfl,Nat.zero_le _,.inl rfl,kk,fun a ha=>by injection ha with ha;subst ha;exact hnew g rfl⟩
 ·obtain⟨g,c,rfl,_,_⟩:=h.form (by omega)
  have hc:l.length≤c:=by
   rcases id h.2 with⟨hv,_⟩ | ⟨g',cap,cur,hv,_,_,hnc,_⟩
   ·cases hv
   ·injection hv with _ _ hv
    subst hv
    exact hnc
  refine⟨_,_,rfl,hc,.inr ⟨g,0,rfl,(h.lt g rfl).2,fun i hi j u hu=> ?_⟩,kk,fun a ha=>by injection ha with ha;subst ha;exact hnew g rfl⟩
  have q:=h.cells rfl _ _ (rW hk l i hi j u hu)
  rw [addr_add,Nat.zero_add] at q
  rw [Nat.zero_add]
  exact q
variable {P:Program}
theorem ND(t ty e:TypeId)(z:Value)(bytes:Nat)(hk:∀ x,(enc x).length=k)(h0:0<k)(h1:∀ x,∀ v∈enc x,v.oneCell'=true)(ht:P.underlying t=some (.slice e))(hinfo:(P.info? e).map (fun i=>(i.zero,i.size,i.bytes))=some (some z,k,bytes))
  (hzs:z.cells.size=k) (v:Value) (n:Nat) (xs:List α) (hown:w.ownsRow 0 e k v n (encs enc xs)) (g:Nat) (x:α) (e':TypeId) (hb:Blk w g e' (enc x).toArray) (h63:n+1≤maxLen) (hbytes:(n+1)*bytes≤140737488355328):
  ∃ v' w',(Builtin.append_ #[t,t] ty #[v,.slice (some ⟨g,0,none⟩) 1 1]).run P w = .ok v' w'∧w'.ownsRow 0 e k v' (n+1) (encs enc (xs++[x]))∧w.grownBy w' v.ownBlock∧(v'.ownBlock=v.ownBlock∨v'.ownBlock=some w.heap.size):=by
 obtain⟨i,hi,hz0,hz1,hz2⟩:=info_parts hinfo
 obtain⟨v',w',hrun,h2,h3,_,h4⟩:=run_append_own_at (P:=P) w 0 t ty e i z k bytes ht hi hz0 hz1 hz2 hzs h0 v n (encs enc xs) hown ⟨g,0,none⟩ 1 1 (enc x) (by rw [hk,Nat.one_mul])
  (fun j u hu=>by rw [addr_add,Nat.zero_add,hb.cell];simpa using hu) (h1 x) h63 hbytes (Nat.zero_le _)
 rw [←UC] at h2
 exact⟨v',w',hrun,h2,h3,h4⟩
theorem dH{ops:Array Oper}{rest:List Oper}{o:Oper}{a:Act}{Q:Exit→Act→World→Prop}(hgd:o.guard=none)(s y:Operand)(t:TypeId)
  (ho:o.op = .call { callee:=.builtin .append,args:=#[s,y],argTypes:=#[t,t] }) (e:TypeId) (z:Value) (bytes:Nat) (hk:∀ x,(enc x).length=k) (h0:0<k) (h1:∀ x,∀ v∈enc x,v.oneCell'=true)
  (ht:P.underlying t=some (.slice e)) (hinfo:(P.info? e).map (fun i=>(i.zero,i.size,i.bytes))=some (some z,k,bytes)) (hzs:z.cells.size=k)
  (v:Value) (n:Nat) (xs:List α) (hs:a.eval s=v) (hown:w.ownsRow 0 e k v n (encs enc xs)) (g:Nat) (x:α) (e':TypeId) (hy:a.eval y = .slice (some ⟨g,0,none⟩) 1 1) (hb:Blk w g e' (enc x).toArray)
  (h63:n+1≤maxLen) (hbytes:(n+1)*bytes≤140737488355328)
  (h:∀ v' w',w'.ownsRow 0 e k v' (n+1) (encs enc (xs++[x]))→w.grownBy w' v.ownBlock→(v'.ownBlock=v.ownBlock∨v'.ownBlock=some w.heap.size)→wpList P ops Q rest (a.put o.dst v') w'):wpList P ops Q (o :: rest) a w:=by
 refine wpList_plain hgd fun K hK=> ?_
 obtain⟨v',w',hrun,h2,h3,h4⟩:=ND (P:=P) t o.type e z bytes hk h0 h1 ht hinfo hzs v n xs hown g x e' hb h63 hbytes
 unfold Oper.wp execOp
 simp only [ho,resolve,invoke,builtin,Sem.run_bind,Sem.run_pure,Result.andThen_ok,List.map_toArray,List.map_cons,List.map_nil,hs,hy,hrun]
 exact hK _ _ (h v' w' h2 h3 h4)
theorem oz{ops:Array Oper}{o:Oper}{a:Act}{K:Act→World→Prop}{Q:Exit→Act→World→Prop}{E:Prop}(hgd:o.guard=none)(s y:Operand)(t:TypeId)
  (ho:o.op = .call { callee:=.builtin .append,args:=#[s,y],argTypes:=#[t,t] }) (e:TypeId) (z:Value) (bytes:Nat) (hk:∀ x,(enc x).length=k) (h0:0<k) (h1:∀ x,∀ v∈enc x,v.oneCell'=true)
  (ht:P.underlying t=some (.slice e)) (hinfo:(P.info? e).map (fun i=>(i.zero,i.size,i.bytes))=some (some z,k,bytes)) (hzs:z.cells.size=k)
  (v:Value) (n:Nat) (xs:List α) (hs:a.eval s=v) (hown:w.ownsRow 0 e k v n (encs enc xs)) (g:Nat) (x:α) (e':TypeId) (hy:a.eval y = .slice (some ⟨g,0,none⟩) 1 1) (hb:Blk w g e' (enc x).toArray)
  (h63:n+1≤maxLen) (hbytes:(n+1)*bytes≤140737488355328)
  (h:∀ v' w',w'.ownsRow 0 e k v' (n+1) (encs enc (xs++[x]))→w.grownBy w' v.ownBlock→(v'.ownBlock=v.ownBlock∨v'.ownBlock=some w.heap.size)→K (a.put o.dst v') w'):
  if Region.wanted o (yielded ops a.tmps)=true then Oper.wp P o a w K Q else E:=by
 have hw:Region.wanted o (yielded ops a.tmps)=true:=by simp [Region.wanted,hgd]
 rw [if_pos hw]
 obtain⟨v',w',hrun,h2,h3,h4⟩:=ND (P:=P) t o.type e z bytes hk h0 h1 ht hinfo hzs v n xs hown g x e' hb h63 hbytes
 unfold Oper.wp execOp
 simp only [ho,resolve,invoke,builtin,Sem.run_bind,Sem.run_pure,Result.andThen_ok,List.map_toArray,List.map_cons,List.map_nil,hs,hy,hrun]
 exact h v' w' h2 h3 h4
end
structure Mine{α:Type}(enc:α→List Value)(k:Nat)(e:TypeId)(w w':World)(v:Value)(l:List α):Prop where
 own:w'.ownsRow 0 e k v l.length (encs enc l)
 new:∀ g,v.ownBlock=some g→w.heap.size≤g
 only:Only [] w w'
section
variable {α:Type}{enc:α→List Value}{k:Nat}{e:TypeId}{w w1 w2:World}{v v':Value}{l:List α}
theorem Mine.start(enc:α→List Value)(k:Nat)(e:TypeId)(h:Only [] w w1):Mine enc k e w w1 (.slice none 0 0) []:=⟨⟨by simp [encs],.inl ⟨rfl,rfl⟩⟩,fun g hg=>by simp [Value.ownBlock] at hg,h⟩
theorem Mine.keep(h:Mine enc k e w w1 v l)(kk:Only [] w1 w2):Mine enc k e w w2 v l:=⟨ay h.own kk (by simp),h.new,h.only.trans kk⟩
theorem Mine.pushed(h:Mine enc k e w w1 v l){x:α}(h1:w2.ownsRow 0 e k v' (l.length+1) (encs enc (l++[x])))(h2:w1.grownBy w2 v.ownBlock)(h3:v'.ownBlock=v.ownBlock∨v'.ownBlock=some w1.heap.size):Mine enc k e w w2 v' (l++[x]):=by
 refine⟨by rw [List.length_append];exact h1,fun g hg=> ?_,h.only.grown h2 (fun j hj=>.inr (h.new j hj))⟩
 rcases h3 with h3 | h3
 ·exact h.new g (by rw [←h3];exact hg)
 ·rw [h3] at hg
  injection hg with hg
  have:=h.only.size
  omega
theorem Mine.els(h:Mine enc k e w w1 v l)(hk:∀ x,(enc x).length=k):fV enc k w w1 v l:=MI hk h.own h.only h.new
end
def chE(c:Ch):List Value:=[.string (strOf c.key),.string (strOf c.val),.bool c.gone]
theorem eH(c:Ch):(chE c).length=3:=rfl
theorem vw(c:Ch):∀ v∈chE c,v.oneCell'=true:=by
 intro v hv
 simp [chE] at hv
 rcases hv with rfl | rfl | rfl<;>rfl
theorem yh:(Tryz.prog.info? 133).map (fun i=>(i.zero,i.size,i.bytes))=some (some (.agg #[.string ⟨#[]⟩,.string ⟨#[]⟩,.bool false]),3,40):=by kernel_rfl
theorem kT{w:World}{g o:Nat}{l:List Ch}(h:jq chE 3 w g o l){i:Nat}(hi:i<l.length):w.cell? ⟨g,o+i*3,none⟩=some (.string (strOf l[i].key))∧w.cell? ⟨g,o+i*3+1,none⟩=some (.string (strOf l[i].val))∧w.cell? ⟨g,o+i*3+2,none⟩=some (.bool l[i].gone):=
 ⟨by simpa using h i hi 0 _ rfl,h i hi 1 _ rfl,h i hi 2 _ rfl⟩
structure Sp where
 at_:Nat
 ch:Ch
instance : Inhabited Sp := ⟨⟨0, default⟩⟩
def spE(s:Sp):List Value:=[.int .i64 (s.at_:Int),.string (strOf s.ch.key),.string (strOf s.ch.val),.bool s.ch.gone]
theorem oC(c:Sp):(spE c).length=4:=rfl
theorem FI(c:Sp):∀ v∈spE c,v.oneCell'=true:=by
 intro v hv
 simp [spE] at hv
 rcases hv with rfl | rfl | rfl | rfl<;>rfl
theorem LV:(Tryz.prog.info? 173).map (fun i=>(i.zero,i.size,i.bytes))=some (some (.agg #[.int .i64 0,.string ⟨#[]⟩,.string ⟨#[]⟩,.bool false]),4,48):=by kernel_rfl
theorem Ya{w:World}{g o:Nat}{l:List Sp}(h:jq spE 4 w g o l){i:Nat}(hi:i<l.length):w.cell? ⟨g,o+i*4,none⟩=some (.int .i64 (l[i].at_:Int))∧w.cell? ⟨g,o+i*4+1,none⟩=some (.string (strOf l[i].ch.key))∧w.cell? ⟨g,o+i*4+2,none⟩=some (.string (strOf l[i].ch.val))∧w.cell? ⟨g,o+i*4+3,none⟩=some (.bool l[i].ch.gone):=
 ⟨by simpa using h i hi 0 _ rfl,h i hi 1 _ rfl,h i hi 2 _ rfl,h i hi 3 _ rfl⟩
end Go.Proofs.YtmelaiefbpdifaaGreatDoor
/- fit: whether changes can be made of rows. -/
namespace Go.Proofs.YtmelaiefbpdifaaGreatDoor
open Go.RowKit
theorem beq_toList(a b:List UInt8):((strOf a).toList==(strOf b).toList)=(a==b):=by
 rw [show (strOf a).toList=a from ByteArray.toList_mk _,show (strOf b).toList=b from ByteArray.toList_mk _]
theorem Jt(w:World)(o:Ch)(ks:ByteArray)(q:Nat)(h:w.cell? ⟨q,0,none⟩=some (.string ks)):
  Calls Tryz.prog 78 #[.agg #[.string (strOf o.key),.string (strOf o.val),.bool o.gone],.pointer (some ⟨q,0,none⟩)] w fun e w'=>e = .returned (.bool ((strOf o.key).toList==ks.toList))∧Only [] w w':=by
 obtain⟨key,val,gone⟩:=o
 simp only
 generalize strOf key=os at *
 generalize strOf val=vs at *
 have k:Only [] w (w.alloc (.cells #[.string os,.string vs,.bool gone] 133)):=(Only.refl [] w).alloc _
 have h':=k.cell h (by simp)
 go_enter Tryz.func78,Tryz.ntmps78
 go_wp2
 go_ret
 exact⟨rfl,k⟩
def Fv(l:List Ch)(n:Nat)(b:List UInt8):Prop:=∃ k y,k<n∧l[k]?=some y∧y.key=b
set_option maxRecDepth 100000 in
theorem PY(w:World)(g o c n:Nat)(l:List Ch)(b:List UInt8)(q:Nat)(hat:jq chE 3 w g o l)(hn:n≤l.length)(hl:l.length≤1048576)(h:w.cell? ⟨q,0,none⟩=some (.string (strOf b))):
  Calls Tryz.prog 137 #[.slice (some ⟨g,o,none⟩) n c,.func (.func 78) #[] #[.pointer (some ⟨q,0,none⟩)]] w fun e w'=>(∃ r:Int,e = .returned (.int .i64 r)∧(0≤r↔Fv l n b))∧Only [] w w':=by
 go_enter Tryz.func137,Tryz.ntmps137
 go_wp2_with fail
 go_loopw [8] (fun i wr=>∃ k:Nat,k≤n∧i = .int .i64 k∧Hid (∀ j y,j<k→l[j]?=some y→y.key≠b)∧Only [] w wr) (fun i _=>n-(intOf i).toNat)
 case atStart=>exact⟨0,Nat.zero_le _,rfl,fun j y hj=>by omega,Only.refl _ _⟩
 case round=>
  obtain⟨k,hk,rfl,hno,aF⟩:=hrel
  by_cases hlt:k<n
  ·have hkl:k<l.length:=by omega
   obtain⟨d0,d1,d2⟩:=kT hat hkl
   have c0:=aF.cell d0 (by simp)
   have c1:=aF.cell d1 (by simp)
   have c2:=aF.cell d2 (by simp)
   have hq:=aF.cell h (by simp)
   have hx:l[k]?=some l[k]:=List.getElem?_eq_getElem hkl
   generalize l[k]=x at *
   have hs:=Jt wr x (strOf b) q hq
   rw [beq_toList] at hs
   obtain⟨key,val,gone⟩:=x
   simp only at c0 c1 c2 hs
   generalize strOf key=ks at *
   generalize strOf val=vs at *
   by_cases he:key=b
   ·have he2:(key==b)=true:=by simpa using he
    rw [he2] at hs
    have hyes:Hid (Fv l n b):=⟨k,_,hlt,hx,he⟩
    replace hs:=Lib.hid hs
    clear he2 he hx d0 d1 d2
    go_wp2_with fail
    refine hs.out.mono ?_
    rintro e w2 ⟨rfl,k2⟩
    have dw:=aF.trans k2
    clear k2 c0 c1 c2 hq
    go_wp2
    go_ret
    exact⟨⟨_,rfl,fun _=>hyes,fun _=>by omega⟩,dw⟩
   ·have he2:(key==b)=false:=by simpa using he
    rw [he2] at hs
    have abx:Hid (∀ j y,j<k+1→l[j]?=some y→y.key≠b):=fun j y hj hy=>by
     by_cases hjk:j=k
     ·subst hjk
      rw [hx] at hy
      injection hy with hy
      subst hy
      exact he
     ·exact hno.out j y (by omega) hy
    replace hs:=Lib.hid hs
    clear he2 he hx hno d0 d1 d2
    go_wp2_with fail
    refine hs.out.mono ?_
    rintro e w2 ⟨rfl,k2⟩
    have dw:=aF.trans k2
    clear k2 c0 c1 c2 hq
    go_wp2
    go_roundw
    case rel=>exact⟨k+1,by omega,by go_num,abx,dw⟩
    case measure=>simp [intOf];omega
  ·have hkn:k=n:=by omega
   subst hkn
   have hnot:Hid (¬Fv l k b):=fun ⟨j,y,hj,hy,he⟩=>hno.out j y hj hy he
   clear hno
   go_wp2
   go_ret
   exact⟨⟨_,rfl,fun h=>absurd h (by decide),fun h=>absurd h hnot.out⟩,aF⟩
theorem Hg(w:World)(g o c n:Nat)(l:List Ch)(b:List UInt8)(q:Nat)(hat:jq chE 3 w g o l)(hn:n≤l.length)(hl:l.length≤1048576)(h:w.cell? ⟨q,0,none⟩=some (.string (strOf b))):
  Calls Tryz.prog 80 #[.slice (some ⟨g,o,none⟩) n c,.func (.func 78) #[] #[.pointer (some ⟨q,0,none⟩)]] w fun e w'=>Says (Fv l n b) e∧Only [] w w':=by
 go_enter Tryz.func80,Tryz.ntmps80
 go_wp2_with fail
 refine (PY _ g o c n l b q hat hn hl h).mono ?_
 rintro e w1 ⟨⟨r,rfl,hr⟩,k1⟩
 replace hr:=Lib.hid hr
 go_wp2
 go_ret
 exact⟨⟨_,rfl,by rw [←hr.out];simp⟩,k1⟩
def JL(l:List Ch)(i:Nat):Prop:=∀ x,l[i]?=some x→oM x.key=true∧x.val.length≤200∧(x.gone=true→x.val = [])∧¬Fv l i x.key
def zF(l:List Ch):Prop:=l.length≤40∧∀ i,i<l.length→JL l i
def wJ(l:List Ch):Prop:=∀ x∈l,x.key.length≤9223372036854775807∧x.val.length≤9223372036854775807
set_option maxRecDepth 100000 in
set_option maxHeartbeats 2000000 in
theorem XA(w:World)(A:Option Addr)(c:Nat)(l:List Ch)(hb:Els chE 3 w A l)(hok:wJ l)(hl:l.length≤9223372036854775807)(hc:l.length≤c):
  Calls Tryz.prog 36 #[.slice A l.length c] w fun e w'=>Says (zF l) e∧Only [] w w':=by
 by_cases h40:40<l.length
 ·have hno:Hid (¬zF l):=fun h=>by have:=h.1;omega
  have hgt:(40:Int)<(l.length:Int):=by omega
  go_enter Tryz.func36,Tryz.ntmps36
  go_wp2
  go_ret
  exact⟨Says.no hno.out,Only.refl _ _⟩
 have hle:(l.length:Int)≤40:=by omega
 clear hl
 go_enter Tryz.func36,Tryz.ntmps36
 go_wp2_with fail
 go_loopw [11] (fun i wr=>∃ k:Nat,k≤l.length∧i = .int .i64 k∧Hid (∀ j,j<k→JL l j)∧Only [] w wr) (fun i _=>l.length-(intOf i).toNat)
 case atStart=>exact⟨0,Nat.zero_le _,rfl,fun j hj=>by omega,Only.refl _ _⟩
 case round=>
  obtain⟨k,hk,rfl,hgood,aF⟩:=hrel
  by_cases hlt:k<l.length
  ·obtain⟨g,o,rfl,hg,hat⟩:=hb.get hlt
   obtain⟨d0,d1,d2⟩:=kT hat hlt
   have c0:=aF.cell d0 (by simp)
   have c1:=aF.cell d1 (by simp)
   have c2:=aF.cell d2 (by simp)
   have hx:l[k]?=some l[k]:=List.getElem?_eq_getElem hlt
   obtain⟨hok1,hok2⟩:=hok l[k] (List.getElem_mem hlt)
   have hgx:JL l k↔(oM l[k].key=true∧l[k].val.length≤200∧(l[k].gone=true→l[k].val = [])∧¬Fv l k l[k].key):=by
    constructor
    ·intro h
     exact h _ hx
    ·intro h z hz
     rw [hx] at hz
     injection hz with hz
     subst hz
     exact h
   have hnot:Hid (¬JL l k→¬zF l):=fun h h'=>h (h'.2 k hlt)
   have hnext:Hid (JL l k→∀ j,j<k+1→JL l j):=fun h j hj=>by
    by_cases hjk:j=k
    ·subst hjk;exact h
    ·exact hgood.out j (by omega)
   have hik:=fun W=>Ju W l[k].key hok1
   have kk:=aF
   have hcon:=fun W (kW:Only [] w W) q (h:W.cell? ⟨q,0,none⟩=some (.string (strOf l[k].key)))=>Hg W g o c k l l[k].key q (hat.kept kW (by simp)) (by omega) (by omega) h
   have hvs:=aj l[k].val
   generalize l[k]=x at *
   obtain⟨key,val,gone⟩:=x
   simp only at c0 c1 c2 hik hcon hvs hgx hok1 hok2
   have aeM:=hgx
   have hvI:((strOf val).size:Int)≤9223372036854775807:=by omega
   have hemp:((strOf val).toList = [])↔(val = []):=by rw [show (strOf val).toList=val from ByteArray.toList_mk _]
   generalize strOf key=ks at *
   generalize strOf val=vs at *
   generalize oM key=bk at *
   replace hgx:=Lib.hid hgx
   replace hcon:=Lib.hid hcon
   replace hik:=Lib.hid hik
   replace hgood:=Lib.hid hgood
   replace hx:=Lib.hid hx
   have kal:=aF.alloc (.cells #[.string ks,.string vs,.bool gone] 133)
   have bal:=Blk.new wr 133 #[.string ks,.string vs,.bool gone]
   have e0:=bal.cell 0
   have hkc:(k:Int)≤(c:Int):=by omega
   simp only [List.getElem?_toArray,List.getElem?_cons_zero] at e0
   clear hat aeM bal d0 d1 d2
   cases bk with
   | false=>
    have hbad:Hid (¬zF l):=hnot.out (fun h=>by have:=(hgx.out.1 h).1;cases this)
    clear hemp
    go_wp2_with fail
    refine (hik.out _).mono ?_
    rintro e w2 ⟨rfl,rfl⟩
    go_wp2
    go_ret
    exact⟨Says.no hbad.out,kal⟩
   | true=>
    by_cases afK:200<val.length
    ·have hbad:Hid (¬zF l):=hnot.out (fun h=>by have:=(hgx.out.1 h).2.1;omega)
     have hg2:(200:Int)<(vs.size:Int):=by omega
     replace hvs:=Lib.hid hvs
     clear hemp
     go_wp2_with fail
     refine (hik.out _).mono ?_
     rintro e w2 ⟨rfl,rfl⟩
     go_wp2
     go_ret
     exact⟨Says.no hbad.out,kal⟩
    ·have hg2:(vs.size:Int)≤200:=by omega
     replace hvs:=Lib.hid hvs
     by_cases hgv:gone=true∧val≠[]
     ·obtain⟨rfl,hne⟩:=hgv
      have hbad:Hid (¬zF l):=hnot.out (fun h=>hne ((hgx.out.1 h).2.2.1 rfl))
      have hne1:(vs.toList.isEmpty)=false:=by
       rw [List.isEmpty_eq_false_iff]
       exact fun h=>hne (hemp.1 h)
      clear hemp
      go_wp2_with fail
      refine (hik.out _).mono ?_
      rintro e w2 ⟨rfl,rfl⟩
      go_wp2
      go_ret
      exact⟨Says.no hbad.out,kal⟩
     ·have acC:gone=true→vs.toList.isEmpty=true:=fun h=>by
       rw [List.isEmpty_iff]
       exact hemp.2 (by by_cases hv:val = [];exact hv;exact absurd ⟨h,hv⟩ hgv)
      have adI:Hid (gone=true→val = []):=fun h=>by by_cases hv:val = [];exact hv;exact absurd ⟨h,hv⟩ hgv
      have hcc:=hcon.out _ kal wr.heap.size e0
      replace hcc:=Lib.hid hcc
      clear hemp hgv
      cases gone with
      | true=>
       have afD:=acC rfl
       clear acC
       go_wp2_with fail
       refine (hik.out _).mono ?_
       rintro e w2 ⟨rfl,rfl⟩
       go_wp2_with fail
       refine hcc.out.mono ?_
       rintro e w3 ⟨⟨r,rfl,hr⟩,k3⟩
       have dw:=kal.trans k3
       cases r with
       | true=>
        have hbad:Hid (¬zF l):=hnot.out (fun h=>(hgx.out.1 h).2.2.2 (hr.1 rfl))
        clear hr k3 e0 c0 c1 c2
        go_wp2
        go_ret
        exact⟨Says.no hbad.out,dw⟩
       | false=>
        have hyes:Hid (∀ j,j<k+1→JL l j):=hnext.out (hgx.out.2 ⟨trivial,by omega,adI.out,fun h=>by have:=hr.2 h;cases this⟩)
        clear hr k3 e0 c0 c1 c2
        go_wp2
        go_roundw
        case rel=>exact⟨k+1,by omega,by go_num,hyes,dw⟩
        case measure=>simp [intOf];omega
      | false=>
       clear acC
       go_wp2_with fail
       refine (hik.out _).mono ?_
       rintro e w2 ⟨rfl,rfl⟩
       go_wp2_with fail
       refine hcc.out.mono ?_
       rintro e w3 ⟨⟨r,rfl,hr⟩,k3⟩
       have dw:=kal.trans k3
       cases r with
       | true=>
        have hbad:Hid (¬zF l):=hnot.out (fun h=>(hgx.out.1 h).2.2.2 (hr.1 rfl))
        clear hr k3 e0 c0 c1 c2
        go_wp2
        go_ret
        exact⟨Says.no hbad.out,dw⟩
       | false=>
        have hyes:Hid (∀ j,j<k+1→JL l j):=hnext.out (hgx.out.2 ⟨trivial,by omega,adI.out,fun h=>by have:=hr.2 h;cases this⟩)
        clear hr k3 e0 c0 c1 c2
        go_wp2
        go_roundw
        case rel=>exact⟨k+1,by omega,by go_num,hyes,dw⟩
        case measure=>simp [intOf];omega
  ·have hkl:k=l.length:=by omega
   subst hkl
   have hyes:Hid (zF l):=⟨by omega,hgood.out⟩
   go_wp2
   go_ret
   exact⟨Says.yes hyes.out,aF⟩
end Go.Proofs.YtmelaiefbpdifaaGreatDoor
/- news: the changes that leave their row otherwise; growth. -/
namespace Go.Proofs.YtmelaiefbpdifaaGreatDoor
open Go.RowKit
def fU(M:List Rw)(c:Ch):Bool:=if c.gone then (aK M c.key).isSome else !((aK M c.key).isSome && (kF M c.key==c.val))
def aC(M:List Rw)(l:List Ch):List Ch:=l.filter (fU M)
theorem yc(M:List Rw)(l:List Ch)(k:Nat)(h:k<l.length):aC M (l.take (k+1))=if fU M l[k] then aC M (l.take k)++[l[k]] else aC M (l.take k):=by
 rw [List.take_add_one,List.getElem?_eq_getElem h]
 unfold aC
 rw [List.filter_append]
 simp only [Option.toList_some,List.filter_cons,List.filter_nil]
 split<;>simp
theorem SY(M:List Rw)(l:List Ch)(k:Nat):(aC M (l.take k)).length≤k:=by
 have h1:=List.length_filter_le (fU M) (l.take k)
 have h2:=List.length_take_le k l
 unfold aC
 omega
def oD(l:List Ch):Prop:=∀ x∈l,x.key.length≤16∧x.val.length≤200
set_option maxRecDepth 100000 in
set_option maxHeartbeats 2000000 in
theorem Wy(w:World)(rp mb lp:Nat)(M:List Rw)(A:Option Addr)(c:Nat)(l:List Ch)(hr:gy w rp mb lp M)(hb:Els chE 3 w A l)(hs:oD l)(hl:l.length≤40):
  Calls Tryz.prog 37 #[.pointer (some ⟨rp,0,none⟩),.slice A l.length c] w fun e w'=>∃ v,e = .returned v∧fV chE 3 w w' v (aC M l):=by
 have hlI:(l.length:Int)≤40:=by omega
 go_enter Tryz.func37,Tryz.ntmps37
 go_wp2_with fail
 go_loopw [5,12] (fun v i wr=>∃ k:Nat,k≤l.length∧i = .int .i64 k∧Mine chE 3 133 w wr v (aC M (l.take k))) (fun _ i _=>l.length-(intOf i).toNat)
 case atStart=>exact⟨0,Nat.zero_le _,rfl,Mine.start _ _ _ (Only.refl _ _)⟩
 case round=>
  obtain⟨k,hk,rfl,aG⟩:=hrel
  have aF:=aG.only
  by_cases hlt:k<l.length
  ·obtain⟨g,o,rfl,hg,hat⟩:=hb.get hlt
   obtain⟨d0,d1,d2⟩:=kT hat hlt
   have c0:=aF.cell d0 (by simp)
   have c1:=aF.cell d1 (by simp)
   have c2:=aF.cell d2 (by simp)
   have htk:=Lib.hid (yc M l k hlt)
   have hlen:=SY M l k
   have hsm:=hs l[k] (List.getElem_mem hlt)
   have hget:=fun W (kW:Only [] w W)=>get_any W rp mb lp M l[k].key (by omega) (hr.kept kW (by simp) (by simp))
   have hnews:Hid (fU M l[k]=if l[k].gone then (aK M l[k].key).isSome else !((aK M l[k].key).isSome && (kF M l[k].key==l[k].val))):=rfl
   have hne:=beq_toList (kF M l[k].key) l[k].val
   generalize hxx:l[k]=x at *
   obtain⟨key,val,gone⟩:=x
   simp only at c0 c1 c2 hget hnews hne
   generalize hL:aC M (l.take k)=L at *
   generalize (aK M key).isSome=there at *
   generalize kF M key=ov at *
   have henc:chE ⟨key,val,gone⟩ = [.string (strOf key),.string (strOf val),.bool gone]:=rfl
   generalize strOf key=ks at *
   generalize strOf val=vs at *
   generalize strOf ov=ovs at *
   have kal:=aF.alloc (.cells #[.string ks,.string vs,.bool gone] 133)
   have bal:=Blk.new wr 133 #[.string ks,.string vs,.bool gone]
   have h1:=hget _ kal
   replace hget:=Lib.hid hget
   replace hL:=Lib.hid hL
   replace hxx:=Lib.hid hxx
   replace henc:=Lib.hid henc
   have abw:Hid (fU M ⟨key,val,gone⟩=(if gone then there else !(there && (ovs.toList==vs.toList)))):=by rw [hne];exact hnews.out
   clear hnews
   replace h1:=Lib.hid h1
   replace hne:=Lib.hid hne
   replace hsm:=Lib.hid hsm
   clear hat d0 d1 d2
   go_wp2_with fail
   refine h1.out.mono ?_
   rintro e w2 ⟨rfl,k2⟩
   have b2:=bal.kept k2 (by simp)
   have k02:=kal.trans k2
   have q0:=b2.cell 0
   have q1:=b2.cell 1
   have q2:=b2.cell 2
   simp only [List.getElem?_toArray,List.getElem?_cons_zero,List.getElem?_cons_succ] at q0 q1 q2
   have m2:=aG.keep (((Only.refl [] wr).alloc (.cells #[.string ks,.string vs,.bool gone] 133)).trans k2)
   obtain⟨q,hq⟩:∃ q,q=wr.heap.size:=⟨_,rfl⟩
   rw [←hq] at q0 q1 q2
   simp only [←hq]
   replace hq:=Lib.hid hq
   clear kal bal k2 b2 aG c0 c1 c2 aF k02
   by_cases hyes:fU M ⟨key,val,gone⟩=true
   ·have Gs:aC M (l.take (k+1))=L++[⟨key,val,gone⟩]:=by rw [htk.out,if_pos hyes]
    have hcond:=abw.out
    rw [hyes] at hcond
    have ks5:Only [] w2 (w2.alloc (.cells #[.string ks,.string vs,.bool gone] 133)):=(Only.refl [] w2).alloc _
    have m3:=m2.keep ks5
    have b3:Blk (w2.alloc (.cells #[.string ks,.string vs,.bool gone] 133)) w2.heap.size 133 (chE ⟨key,val,gone⟩).toArray:=by rw [henc.out];exact Blk.new _ _ _
    replace Gs:=Lib.hid Gs
    clear m2 htk abw ks5
    have hcase:(gone=true∧there=true)∨(gone=false∧there=false)∨(gone=false∧there=true∧(ovs.toList==vs.toList)=false):=by
     revert hcond
     cases gone<;>cases there<;>simp
    clear hcond
    rcases hcase with⟨rfl,rfl⟩ | ⟨rfl,rfl⟩ | ⟨rfl,rfl,hov⟩
    all_goals
     go_wp2_with (at_builtin;go_must (refine dH rfl _ _ 22 rfl 133 _ 40 eH (by decide) vw Tryz.underlying22 yh rfl _ L.length L rfl m3.own w2.heap.size ⟨key,val,_⟩ _ rfl b3 (by unfold maxLen;omega) (by omega) ?_);intro vv' w5 h5 g5 a5)
     have m5:=m3.pushed h5 g5 a5
     rw [←Gs.out] at m5
     clear h5 g5 a5 m3 b3 q0 q1 q2
     go_wp2
     go_roundw
     case rel=>exact⟨k+1,by omega,by go_num,m5⟩
     case measure=>simp [intOf];omega
   ·have aaA:fU M ⟨key,val,gone⟩=false:=by simpa using hyes
    have Gs:aC M (l.take (k+1))=L:=by rw [htk.out,if_neg hyes]
    have hcond:=abw.out
    rw [aaA] at hcond
    rw [←Gs] at m2
    replace Gs:=Lib.hid Gs
    clear htk abw hyes aaA
    have hcase:(gone=true∧there=false)∨(gone=false∧there=true∧(ovs.toList==vs.toList)=true):=by
     revert hcond
     cases gone<;>cases there<;>simp
    clear hcond
    rcases hcase with⟨rfl,rfl⟩ | ⟨rfl,rfl,hov⟩
    all_goals
     go_wp2
     go_roundw
     case rel=>exact⟨k+1,by omega,by go_num,m2⟩
     case measure=>simp [intOf];omega
  ·have hkl:k=l.length:=by omega
   subst hkl
   rw [List.take_of_length_le (Nat.le_refl _)] at aG
   have hfin:=aG.els eH
   replace hfin:=Lib.hid hfin
   clear aG
   go_wp2
   go_ret
   exact⟨_,rfl,hfin.out⟩
def zH(M:List Rw)(c:Ch):Int:=if c.gone then -1 else if (aK M c.key).isSome then 0 else 1
def bf(M:List Rw):List Ch→Int
 | []=>0
 | c :: r=>zH M c+bf M r
theorem uy(M:List Rw):∀ l m:List Ch,bf M (l++m)=bf M l+bf M m
 | [],m=>by simp [bf]
 | c :: r,m=>by
  rw [List.cons_append,bf,bf,uy M r m]
  omega
theorem JK(M:List Rw)(l:List Ch)(k:Nat)(h:k<l.length):bf M (l.take (k+1))=bf M (l.take k)+zH M l[k]:=by
 rw [List.take_add_one,List.getElem?_eq_getElem h,uy]
 simp [bf]
theorem VB(M:List Rw)(c:Ch) : -1≤zH M c∧zH M c≤1:=by
 unfold zH
 split
 ·omega
 ·split<;>omega
theorem yw(M:List Rw):∀ l:List Ch, -(l.length:Int)≤bf M l∧bf M l≤l.length
 | []=>by simp [bf]
 | c :: r=>by
  have h1:=VB M c
  have h2:=yw M r
  rw [bf,List.length_cons]
  omega
set_option maxRecDepth 100000 in
set_option maxHeartbeats 2000000 in
theorem Qc(w:World)(rp mb lp:Nat)(M:List Rw)(A:Option Addr)(c:Nat)(l:List Ch)(hr:gy w rp mb lp M)(hb:Els chE 3 w A l)(hs:oD l)(hl:l.length≤40):
  Calls Tryz.prog 38 #[.pointer (some ⟨rp,0,none⟩),.slice A l.length c] w fun e w'=>e = .returned (.int .i64 (bf M l))∧Only [] w w':=by
 have hlI:(l.length:Int)≤40:=by omega
 go_enter Tryz.func38,Tryz.ntmps38
 go_wp2_with fail
 go_loopw [5,12] (fun v i wr=>∃ k:Nat,k≤l.length∧i = .int .i64 k∧v = .int .i64 (bf M (l.take k))∧Only [] w wr) (fun _ i _=>l.length-(intOf i).toNat)
 case atStart=>exact⟨0,Nat.zero_le _,rfl,rfl,Only.refl _ _⟩
 case round=>
  obtain⟨k,hk,rfl,rfl,aF⟩:=hrel
  by_cases hlt:k<l.length
  ·obtain⟨g,o,rfl,hg,hat⟩:=hb.get hlt
   obtain⟨d0,d1,d2⟩:=kT hat hlt
   have c0:=aF.cell d0 (by simp)
   have c1:=aF.cell d1 (by simp)
   have c2:=aF.cell d2 (by simp)
   have htk:=JK M l k hlt
   have hbd:=yw M (l.take k)
   have hlen:(l.take k).length≤40:=by have:=List.length_take_le k l;omega
   have hsm:=hs l[k] (List.getElem_mem hlt)
   have hlook:=fun W (kW:Only [] w W)=>(hr.kept kW (by simp) (by simp)).map.look_ok l[k].key (by omega)
   have hcl:=fun W (kW:Only [] w W)=>(hr.kept kW (by simp) (by simp)).cells.2
   have hst:zH M l[k]=if l[k].gone then -1 else if (aK M l[k].key).isSome then 0 else 1:=rfl
   generalize l[k]=x at *
   obtain⟨key,val,gone⟩:=x
   simp only at c0 c1 c2 hlook hst
   generalize hG':bf M (l.take (k+1))=G' at *
   replace hG':=Lib.hid hG'
   generalize bf M (l.take k)=G at *
   generalize (aK M key).isSome=there at *
   generalize strOf (kF M key)=ov at *
   generalize (atL M key:Int)=oa at *
   generalize strOf key=ks at *
   generalize strOf val=vs at *
   have hG0 : -40≤G:=by omega
   have hG1:G≤40:=by omega
   clear hbd hlen hsm hat d0 d1 d2
   have kal:=aF.alloc (.cells #[.string ks,.string vs,.bool gone] 133)
   have bal:=Blk.new wr 133 #[.string ks,.string vs,.bool gone]
   have hq0:wr.heap.size<(wr.alloc (.cells #[.string ks,.string vs,.bool gone] 133)).heap.size:=by simp
   go_wp2_with fail
   generalize hw2:wr.alloc (.cells #[.string ks,.string vs,.bool gone] 133)=w2 at *
   obtain⟨q,hq⟩:∃ q,q=wr.heap.size:=⟨_,rfl⟩
   rw [←hq] at bal hq0
   simp only [←hq]
   replace hq:=Lib.hid hq
   replace hw2:=Lib.hid hw2
   have q0:=bal.cell 0
   have q2:=bal.cell 2
   simp only [List.getElem?_toArray,List.getElem?_cons_zero,List.getElem?_cons_succ] at q0 q2
   have hS:∀ W,Only [] w2 W→W.cell? ⟨rp,1,none⟩=some (.map (some mb))∧W.cell? ⟨q,0,none⟩=some (.string ks)∧(Instr.lookup 89 (.map (some mb)) (.string ks) true).run Tryz.prog W = .ok (.tuple #[.agg #[.int .i64 oa,.string ov],.bool there]) W:=
    fun W kW=>⟨hcl W (kal.trans kW),kW.cell q0 (by simp),hlook W (kal.trans kW)⟩
   have kd:Only [] w2 w2.drew:=(Only.refl [] w2).drew
   have hS':=Lib.hid hS
   replace hlook:=Lib.hid hlook
   replace hcl:=Lib.hid hcl
   clear hS c0 c1 c2
   refine wp_region_held_drew (S:=fun w'=>w'.cell? ⟨rp,1,none⟩=some (.map (some mb))∧w'.cell? ⟨q,0,none⟩=some (.string ks)∧(Instr.lookup 89 (.map (some mb)) (.string ks) true).run Tryz.prog w' = .ok (.tuple #[.agg #[.int .i64 oa,.string ov],.bool there]) w') (by kernel_rfl) (hS'.out _ kd) (fun hHeld=> ?_)
   refine rwT 0 (.pointer (some ⟨rp,0,none⟩)) hHeld ?_;simp only [rwA]
   refine rwT 1 (.pointer (some ⟨rp,0,none⟩)) hHeld ?_;simp only [rwA]
   refine rwT 2 (.pointer (some ⟨rp,1,none⟩)) hHeld ?_;simp only [rwA]
   refine rwT 3 (.map (some mb)) hHeld ?_;simp only [rwA]
   refine rwT 4 (.pointer (some ⟨q,0,none⟩)) hHeld ?_;simp only [rwA]
   refine rwT 5 (.string ks) hHeld ?_;simp only [rwA]
   refine rwT 6 (.tuple #[.agg #[.int .i64 oa,.string ov],.bool there]) hHeld ?_;simp only [rwA]
   refine rwT 7 (.tuple #[.agg #[.int .i64 oa,.string ov],.bool there]) hHeld ?_;simp only [rwA]
   refine rwT 8 (.agg #[.int .i64 oa,.string ov]) hHeld ?_;simp only [rwA]
   refine rwT 9 (.bool there) hHeld ?_;simp only [rwA]
   refine ah 10 rfl (by kernel_rfl) (fun K hK=> ?_)
   go_simp
   refine hK.out _ _ (hS'.out _ (kd.alloc _)) (fun hHeld=> ?_)
   clear hK K
   refine ah 11 rfl (by kernel_rfl) (fun K hK=> ?_)
   go_simp
   refine hK.out _ _ (hS'.out _ (kd.alloc _)) (fun hHeld=> ?_)
   clear hK K
   refine rwT 12 (.bool there) hHeld ?_;simp only [rwA]
   refine wpAnyH_done (by kernel_rfl) ?_ _
   clear hHeld
   have k5:=((Only.refl [] w2).alloc (.cells #[.int .i64 oa,.string ov] 165)).drew
   have r2:=k5.cell q2 (by simp)
   have dw:=kal.trans k5
   generalize (w2.alloc (.cells #[.int .i64 oa,.string ov] 165)).drew=w5 at *
   clear hS' kd k5 q0 q2 bal hlook hcl hq0
   rcases (show (gone=true∧zH M ⟨key,val,gone⟩ = -1)∨(gone=false∧there=true∧zH M ⟨key,val,gone⟩=0)∨(gone=false∧there=false∧zH M ⟨key,val,gone⟩=1) by
    rw [hst];cases gone<;>cases there<;>simp) with⟨rfl,hd⟩ | ⟨rfl,rfl,hd⟩ | ⟨rfl,rfl,hd⟩
   ·rw [hd] at htk
    have Gs:Hid (G'=G-1):=by unfold Hid;omega
    clear hst hd htk
    go_wp2
    go_roundw
    case rel=>exact⟨k+1,by omega,by go_num,by rw [hG'.out,Gs.out],dw⟩
    case measure=>simp [intOf];omega
   ·rw [hd] at htk
    have Gs:Hid (G'=G):=by unfold Hid;omega
    clear hst hd htk
    go_wp2
    go_roundw
    case rel=>exact⟨k+1,by omega,by go_num,by rw [hG'.out,Gs.out],dw⟩
    case measure=>simp [intOf];omega
   ·rw [hd] at htk
    have Gs:Hid (G'=G+1):=by unfold Hid;omega
    clear hst hd htk
    go_wp2
    go_roundw
    case rel=>exact⟨k+1,by omega,by go_num,by rw [hG'.out,Gs.out],dw⟩
    case measure=>simp [intOf];omega
  ·have hkl:k=l.length:=by omega
   subst hkl
   rw [List.take_of_length_le (Nat.le_refl _)]
   go_wp2
   go_ret
   exact⟨rfl,aF⟩
end Go.Proofs.YtmelaiefbpdifaaGreatDoor
/- Ranging over the rows' map: an entry is a row; what has come so far. -/
namespace Go.Proofs.YtmelaiefbpdifaaGreatDoor
open Go.RowKit Go.Maps
def sH(w:World)(rb mb:Nat)(M:List Rw)(left:Lit→Bool)(cnt:Nat):Prop:=w.ranges Tryz.prog 9 rowElem mb rb M.length (mapD M) left cnt
section
variable {S:List Nat}{w w':World}{rb mb:Nat}{M:List Rw}{left:Lit→Bool}{cnt:Nat}
theorem sH.kept(h:sH w rb mb M left cnt)(k:Only S w w')(h1:rb∉S)(h2:mb∉S):sH w' rb mb M left cnt:=by
 have l1:rb<w.heap.size:=World.ranges.lt h
 have l2:mb<w.heap.size:=(World.ranges.owns h).lt
 obtain⟨es,clock,since,seen,c0,hb,F,hs,hD,hr,rest⟩:=h
 exact⟨es,clock,since,seen,c0,(k.block mb l2 h2).trans hb,F,hs,hD,(k.block rb l1 h1).trans hr,rest⟩
theorem sH.left_eq(h:sH w rb mb M left cnt):w.rangeLeft mb rb=cnt:=World.ranges.left_eq h
def Coll(M:List Rw)(left:Lit→Bool)(done:List Rw):Prop:=done.Nodup∧∀ r,r∈done↔(r∈M∧left (.string r.key)=false)
theorem Coll.start(hs:Sorted M):Coll M (has (mapD M)) []:=by
 refine⟨List.nodup_nil,fun r=>⟨fun h=>(by cases h),fun ⟨h1,h2⟩=> ?_⟩⟩
 rw [Gh,nM hs h1] at h2
 cases h2
theorem Coll.step(hs:Sorted M){done:List Rw}(h:Coll M left done){r:Rw}(hr:r∈M)(hl:left (.string r.key)=true):Coll M (fun z=>left z && !z.sameKey (.string r.key)) (done++[r]):=by
 have hn:r∉done:=fun hm=>by have:=((h.2 r).1 hm).2;rw [hl] at this;cases this
 refine⟨List.nodup_append.2 ⟨h.1,by simp,fun a ha b hb=>by simp at hb;subst hb;exact fun e=>hn (e ▸ ha)⟩,fun x=> ?_⟩
 rw [List.mem_append,h.2 x,List.mem_singleton]
 simp only [Bool.and_eq_false_iff,Lit.sameKey,Bool.not_eq_false',beq_iff_eq]
 constructor
 ·rintro (⟨h1,h2⟩ | rfl)
  ·exact⟨h1,.inl h2⟩
  ·exact⟨hr,.inr rfl⟩
 ·rintro⟨h1,h2 | h2⟩
  ·exact .inl ⟨h1,h2⟩
  ·exact .inr (hs.inj h1 hr h2)
theorem Coll.done{done:List Rw}(h:Coll M left done)(hl:∀ kl,left kl=false):∀ r,r∈done↔r∈M:=fun r=>by rw [h.2 r,hl];simp
theorem Coll.perm(hs:Sorted M){done:List Rw}(h:Coll M left done)(hl:∀ kl,left kl=false):done.Perm M:=(List.perm_ext_iff_of_nodup h.1 hs.nodup).2 (h.done hl)
theorem oq{ops:Array Oper}{rest:List Oper}{o:Oper}{a:Act}{Q:Exit→Act→World→Prop}(hg:o.guard=none)(m:Operand)(hop:o.op=Op.range 89 m)(hm:a.eval m = .map (some mb))(h:Ac w mb M)
  (hK:∀ w',sH w' w.heap.size mb M (has (mapD M)) M.length→Only [] w w'→wpList Tryz.prog ops Q rest (a.put o.dst (.pointer (some ⟨w.heap.size,0,none⟩))) w'):
  wpList Tryz.prog ops Q (o :: rest) a w:=
 wpList_range_own w hg m _ hop _ _ YR Tryz.underlying89 rowElem mb M.length (mapD M) hm h (fun w' h1 h2 _=>hK w' (by rw [Bv] at h1;exact h1) ⟨h2.os,h2.tape,h2.output,h2.size,fun k hk _=>h2.block k hk (by simp)⟩)
theorem qA{ops:Array Oper}{rest:List Oper}{o:Oper}{a:Act}{Q:Exit→Act→World→Prop}(hg:o.guard=none)(it:Operand)(hop:o.op=Op.next it false)(hit:a.eval it = .pointer (some ⟨rb,0,none⟩))(h:sH w rb mb M left cnt)
  (hDone:(∀ kl,left kl=false)→wpList Tryz.prog ops Q rest (a.put o.dst (.tuple #[.bool false])) w)
  (hMore:∀ (r:Rw) (w':World) (cnt':Nat),r∈M→left (.string r.key)=true→sH w' rb mb M (fun z=>left z && !z.sameKey (.string r.key)) cnt'→cnt'<cnt→Only [rb] w w' →
   (Instr.entry (.pointer (some ⟨rb,0,none⟩))).run Tryz.prog w' = .ok (.tuple #[.string (strOf r.key),.agg #[.int .i64 (r.at_:Int),.string (strOf r.val)]]) w' →
   wpList Tryz.prog ops Q rest (a.put o.dst (.tuple #[.bool true,.string (strOf r.key),.agg #[.int .i64 (r.at_:Int),.string (strOf r.val)]])) w'):
  wpList Tryz.prog ops Q (o :: rest) a w:=
 wpList_next_ranges (α:=Value) (β:=Value) w hg it hop 9 YR rowElem id id (fun key _ _=>⟨key,rfl⟩) (fun v _ _=>⟨v,rfl⟩) mb rb M.length (mapD M) left cnt hit h (fun _ hl=>hDone hl)
  (fun x c kl y w' cnt' hkey hlk hv hat hrg hlt hgr _ hen=>by
   obtain⟨kb,hx,rfl,_⟩:=Maps.keyOf_str Tryz.underlying9 hkey
   have hx':x = .string (strOf kb):=hx
   have hhas:=has_true_of_atKey hat
   rw [Gh] at hhas
   obtain⟨r,hf⟩:=Option.isSome_iff_exists.1 hhas
   obtain⟨hrM,rfl⟩:=bC hf
   have h1:=hat .nil
   rw [Es,hf] at h1
   have h2:rowElem c=some (.agg [.lit (.int .i64 (r.at_:Int)),.lit (.string r.val)],y.2):=by
    have h3:rowElem c=some y:=hv
    have h1':y.1 = .agg [.lit (.int .i64 (r.at_:Int)),.lit (.string r.val)]:=h1.symm
    rw [h3,←h1']
   have hc:=xQ h2
   simp only [id] at hen ⊢
   rw [hx',hc] at hen ⊢
   exact hMore r w' cnt' hrM hlk hrg hlt ⟨hgr.os,hgr.tape,hgr.output,hgr.size,fun k hk hn=>hgr.block k hk (fun e=>hn (by injection e with e;simp [e]))⟩ hen)
end
end Go.Proofs.YtmelaiefbpdifaaGreatDoor
