/- Joined: Mem, App, Pure, Forth, Wr, Wr2, Rd, Rd2, Rd3, Rd4, Pure2, Pk9, Tab9, Mem9. -/
import Derived.Test.YtmelaiefbpdifaaGreatDoorHGh
import Derived.Below
import Derived.Maps.AppendAt
import Derived.Laws.IdiomStrings
import Derived.Deep.Draws
import Derived.Deep.OwnRows
import Derived.ChangeSame
import Derived.Lib.Hide
import Derived.RegionTactic
import Derived.WalkKit
import Derived.OwnWalk
import Derived.Scope
import Derived.WalkMore
import Derived.Test.YtmelaiefbpdifaaGreatDoorChecked
import Derived.WalkLawsBesides
import Derived.WalkSpells
import Derived.Outline
import Derived.KernelRfl
import Derived.LoopTactic
import Derived.Deep.QuietTactic
import Derived.BigQuiet
import Derived.Tactics
import Derived.Tactics2
import Derived.StillTactics
import Derived.StillTailTactics
import Derived.Laws.Pointers
import Derived.Laws.Small
import Derived.Laws.Build
import Derived.Laws.Cover3
import Derived.Laws.StructEq
import Derived.BigRegion
import Derived.Laws.ResultCell
/- Words for memory, of no program: what a call leaves alone (Only), a row of bytes (BytesAt), and the row's last step where the world behind the call is known by what it leaves alone. -/
namespace Go.Proofs.YtmelaiefbpdifaaGreatDoor
set_option maxRecDepth 100000
open Go.RowKit Go.WideShapes Go.ChangeShapes
section
variable {S T:List Nat}{a w w':World}
end
section
variable {S:List Nat}{w w':World}{g:Nat}{t:TypeId}{cs:Array Value}
end
section
variable {S:List Nat}{w w':World}{g o:Nat}{l:List UInt8}
end
section
variable {H:Type}{enc:TypeId × Value→H}{P:Program}
end
end Go.Proofs.YtmelaiefbpdifaaGreatDoor
/- append onto a row of the call's own, the source nil, empty or not: of no program. -/
namespace Go.Proofs.YtmelaiefbpdifaaGreatDoor
set_option maxRecDepth 100000
open Go.RowKit
section
variable {P:Program}(w:World)
end
section
variable {P:Program}(w:World){ops:Array Oper}{rest:List Oper}{o:Oper}{a:Act}{Q:Exit→Act→World→Prop}
end
end Go.Proofs.YtmelaiefbpdifaaGreatDoor
/- Bytes by the document's definitions, and what a reader makes of them: of no program. -/
namespace Go.Proofs.YtmelaiefbpdifaaGreatDoor
set_option maxRecDepth 100000
open Go.RowKit
def uh:List Nat→List UInt8
 | []=>[]
 | n :: l=>be4 n++uh l
theorem Ql(l:List Nat)(n:Nat):uh (l++[n])=uh l++be4 n:=by
 induction l with
 | nil=>simp [uh]
 | cons a l ih=>simp [uh,ih]
theorem rX(l:List Nat):(uh l).length=4*l.length:=by
 induction l with
 | nil=>rfl
 | cons a l ih=>simp [uh,aU,ih];omega
theorem Qk(l:List Nat)(k:Nat)(h:k<l.length):uh (l.take (k+1))=uh (l.take k)++be4 l[k]:=by
 rw [List.take_succ_eq_append_getElem h,Ql]
def Oy(w:World)(g o:Nat)(l:List Nat):Prop:=∀ j (h:j<l.length),w.cell? ⟨g,o+j,none⟩=some (.int .u32 (l[j]:Int))
theorem Oy.kept{S:List Nat}{w w':World}{g o:Nat}{l:List Nat}(h:Oy w g o l)(k:Only S w w')(hg:g∉S):Oy w' g o l:=fun j hj=>k.cell (h j hj) hg
def Cm:Nat→List UInt8→List Nat
 | 0,_=>[]
 | n+1,l=>hd4 l :: Cm n (l.drop 4)
theorem JX(n:Nat)(l:List UInt8):(Cm n l).length=n:=by
 induction n generalizing l with
 | zero=>rfl
 | succ n ih=>simp [Cm,ih]
theorem UH(n:Nat)(l:List UInt8)(j:Nat)(h:j<(Cm n l).length):(Cm n l)[j]=hd4 (l.drop (4*j)):=by
 induction n generalizing l j with
 | zero=>simp [Cm] at h
 | succ n ih=>
  cases j with
  | zero=>simp [Cm]
  | succ j=>
   simp only [Cm,List.getElem_cons_succ]
   rw [ih,List.drop_drop]
   congr 2
   omega
theorem XT(n:Nat)(l:List UInt8)(cur:List Nat)(hl:cur.length=n)(h:∀ j (hj:j<cur.length),cur[j]=hd4 (l.drop (4*j))):cur=Cm n l:=by
 apply List.ext_getElem
 ·rw [JX,hl]
 ·intro j h1 h2
  rw [h j h1,UH]
def abj(bs:List UInt8)(err:Nat):Nat:=if err≠0 then err else if bs.length=0 then 0 else 4
end Go.Proofs.YtmelaiefbpdifaaGreatDoor
/- A scope in which the run jumps forth to one label, and does not jump again behind it: of no program. -/
namespace Go.Proofs.YtmelaiefbpdifaaGreatDoor
set_option maxRecDepth 100000
section
variable {P:Program}{a:Act}{w:World}{Q:Exit→Act→World→Prop}{l:Nat}{rest:Code}
end
end Go.Proofs.YtmelaiefbpdifaaGreatDoor
/- The walks of a writer: what each of its methods leaves. -/
namespace Go.Proofs.YtmelaiefbpdifaaGreatDoor
set_option maxRecDepth 100000
open Go.RowKit
end Go.Proofs.YtmelaiefbpdifaaGreatDoor
/- The walks of a writer, more: texts, lists, and what was written. -/
namespace Go.Proofs.YtmelaiefbpdifaaGreatDoor
set_option maxRecDepth 100000
open Go.RowKit
end Go.Proofs.YtmelaiefbpdifaaGreatDoor
/- The walks of a reader. -/
namespace Go.Proofs.YtmelaiefbpdifaaGreatDoor
set_option maxRecDepth 100000
open Go.RowKit
theorem ZF(w:World):Calls Tryz.prog 135 #[.pointer none] w fun e w'=>e = .returned (.int .i64 2)∧w=w':=by
 go_enter Tryz.func135,Tryz.ntmps135
 go_wp2
 go_ret
 exact⟨rfl,rfl⟩
attribute [local go_sem] fE.normal fE.exit fE.ret fE.panic
theorem Wv(w:World)(n:Int):
  Calls Tryz.prog 164 #[.pointer none,.int .u64 n] w fun e w'=>e = .returned (.tuple #[.slice none 0 0,.int .i64 2])∧w=w':=by
 go_enter Tryz.func164,Tryz.ntmps164
 go_wp2_with fail
 refine aT 0 rfl ?_
 go_wp2_with fail
 refine (ZF _).mono ?_
 rintro e w1 ⟨rfl,rfl⟩
 go_wp2_with fail
 go_step3
 refine⟨rfl,?_⟩
 go_wp2
 rw [Exit.noGoto_ret]
 go_ret2
 exact⟨rfl,rfl⟩
end Go.Proofs.YtmelaiefbpdifaaGreatDoor
/- The walks of a reader, more: long numbers, flags, lengths, and the end. -/
namespace Go.Proofs.YtmelaiefbpdifaaGreatDoor
set_option maxRecDepth 100000
open Go.RowKit
attribute [local go_sem] fE.normal fE.exit fE.ret fE.panic
theorem VT(w:World)(p g:Nat)(bs:List UInt8)(err:Nat)(h:Rd w p g bs err):
  Calls Tryz.prog 121 #[.pointer (some ⟨p,0,none⟩)] w (KC w p g (.int .i64 (abj bs err:Nat)) bs (abj bs err)):=by
 obtain⟨o,c,h⟩:=h
 unfold abj
 by_cases he:err≠0
 ·rw [if_pos he]
  have he':((err:Int) != 0)=true:=by simp;omega
  go_enter Tryz.func121,Tryz.ntmps121
  go_wp2_with fail
  refine aT 0 rfl ?_
  go_wp2_with fail
  refine (og _ p g o c bs err h).mono ?_
  rintro e w1 ⟨rfl,rfl⟩
  go_wp2_with fail
  go_step3
  refine⟨rfl,?_⟩
  go_wp2_with fail
  refine (qp _ p g bs err _ ⟨o,c,h⟩).mono ?_
  rintro e w1 ⟨rfl,h1,k1⟩
  go_wp2
  rw [Exit.noGoto_ret]
  go_ret
  exact⟨rfl,h1,k1⟩
 ·rw [if_neg he]
  have he0:err=0:=by omega
  subst he0
  by_cases hl:bs.length=0
  ·rw [if_pos hl]
   have hl':(bs.length:Int)≤0:=by omega
   go_enter Tryz.func121,Tryz.ntmps121
   go_wp2_with fail
   refine aT 0 rfl ?_
   go_wp2_with fail
   refine (og _ p g o c bs 0 h).mono ?_
   rintro e w1 ⟨rfl,rfl⟩
   go_wp2_with fail
   refine (Gl _ p g o c bs 0 h).mono ?_
   rintro e w1 ⟨rfl,rfl⟩
   go_wp2
   rw [fE.ret]
   go_ret
   exact⟨rfl,⟨o,c,h⟩,Only.refl _ _⟩
  ·rw [if_neg hl]
   have hl':(0:Int)<(bs.length:Int):=by omega
   go_enter Tryz.func121,Tryz.ntmps121
   go_wp2_with fail
   refine aT 0 rfl ?_
   go_wp2_with fail
   refine (og _ p g o c bs 0 h).mono ?_
   rintro e w1 ⟨rfl,rfl⟩
   go_wp2_with fail
   refine (Gl _ p g o c bs 0 h).mono ?_
   rintro e w1 ⟨rfl,rfl⟩
   go_wp2_with fail
   go_step3
   refine⟨rfl,?_⟩
   go_wp2_with fail
   refine (qp _ p g bs 0 4 ⟨o,c,h⟩).mono ?_
   rintro e w1 ⟨rfl,h1,k1⟩
   go_wp2
   rw [Exit.noGoto_ret]
   go_ret
   exact⟨rfl,h1,k1⟩
end Go.Proofs.YtmelaiefbpdifaaGreatDoor
/- The walks of a reader, more: texts, lists, and a new reader. -/
namespace Go.Proofs.YtmelaiefbpdifaaGreatDoor
set_option maxRecDepth 100000
open Go.RowKit
attribute [local go_sem] fE.normal fE.exit fE.ret fE.panic
theorem length_nil(w:World)(most:Int):
  Calls Tryz.prog 168 #[.pointer none,.int .i64 most] w fun e w'=>e = .returned (.tuple #[.int .u64 0,.int .i64 2])∧w=w':=by
 go_enter Tryz.func168,Tryz.ntmps168
 go_wp2_with fail
 refine aT 0 rfl ?_
 go_wp2_with fail
 refine (Wv _ _).mono ?_
 rintro e w1 ⟨rfl,rfl⟩
 go_wp2_with fail
 go_step3
 refine⟨rfl,?_⟩
 go_wp2
 rw [Exit.noGoto_ret]
 go_ret2
 exact⟨rfl,rfl⟩
def F6(l:List Nat):Array Value:=(l.map fun n:Nat=>Value.int .u32 (n:Int)).toArray
theorem SV(l:List Nat)(k n:Nat):(F6 l).setIfInBounds k (.int .u32 (n:Int))=F6 (l.set k n):=by
 unfold F6
 simp [List.map_set]
theorem Ws(l:List Nat)(k:Nat)(h:k<l.length):(F6 l)[k]?=some (.int .u32 (l[k]:Int)):=by
 unfold F6
 simp [List.getElem?_eq_getElem h]
theorem PK(n:Nat):(List.replicate n (Value.int .u32 0)).toArray=F6 (List.replicate n 0):=by
 unfold F6
 simp
def yN(w wr:World)(n k:Nat)(l:List UInt8):Prop:=
 ∃ cur:List Nat,cur.length=n∧Blk wr w.heap.size 49 (F6 cur)∧Only [] w wr∧∀ j (hj:j<cur.length),j<k→cur[j]=hd4 (l.drop (4*j))
theorem yN.more{w wr:World}{n k:Nat}{l:List UInt8}{cur:List Nat}(h1:cur.length=n)(h2:Blk wr w.heap.size 49 (F6 cur))(h3:Only [] w wr)(h4:∀ j (hj:j<cur.length),j<k→cur[j]=hd4 (l.drop (4*j)))(m:Nat):
  yN w ((wr.drewN m).setCell ⟨w.heap.size,k,none⟩ (.int .u32 ((hd4 (l.drop (4*k)):Nat):Int))) n (k+1) l:=by
 refine⟨cur.set k (hd4 (l.drop (4*k))),by simpa using h1,?_,(h3.drewN m).setCell (.inr (Nat.le_refl _)) _,fun j hj hk=> ?_⟩
 ·rw [←SV]
  exact Blk.set (w:=wr.drewN m) h2 k _
 ·rw [List.getElem_set]
  split
  ·rename_i e;subst e;rfl
  ·exact h4 j (by simpa using hj) (by omega)
theorem yN.start(w:World)(n:Nat)(l:List UInt8):yN w (w.alloc (.cells (Array.replicate n (.int .u32 0)) 49)) n 0 l:=by
 refine⟨List.replicate n 0,by simp,?_,(Only.refl [] w).alloc _,fun j _ h=>by omega⟩
 have:=Blk.new w 49 (Array.replicate n (.int .u32 0))
 rw [←PK]
 simpa using this
theorem yN.done{w wr:World}{n:Nat}{l:List UInt8}(h:yN w wr n n l):Oy wr w.heap.size 0 (Cm n l)∧Only [] w wr:=by
 obtain⟨cur,h1,h2,h3,h4⟩:=h
 have:cur=Cm n l:=XT n l cur h1 fun j hj=>h4 j hj (by omega)
 subst this
 refine⟨fun j hj=> ?_,h3⟩
 rw [Nat.zero_add,h2.cell j,Ws _ j hj]
end Go.Proofs.YtmelaiefbpdifaaGreatDoor
/- The walks of a reader, more: lists, and a new reader. -/
namespace Go.Proofs.YtmelaiefbpdifaaGreatDoor
set_option maxRecDepth 100000
open Go.RowKit
attribute [local go_sem] fE.normal fE.exit fE.ret fE.panic
end Go.Proofs.YtmelaiefbpdifaaGreatDoor
/- What a reader makes of what was written, and of what is cut off; and what was read, written anew: of no program. -/
namespace Go.Proofs.YtmelaiefbpdifaaGreatDoor
set_option maxRecDepth 100000
theorem Po(bs:List UInt8)(e:Nat):(bP bs e).1<4294967296:=by
 unfold bP
 have h1:=uq bs
 split
 ·simp
 ·split
  ·simp
  ·simp only;omega
end Go.Proofs.YtmelaiefbpdifaaGreatDoor
/- Packets as plain things: which may be, their bytes, and the packet of any bytes. -/
namespace Go.Proofs.YtmelaiefbpdifaaGreatDoor
set_option maxRecDepth 100000
open Go.RowKit
def U(x:Int):Prop:=0≤x∧x≤4294967295
def I(x:Int):Prop := -9223372036854775808≤x∧x≤9223372036854775807
structure Pk where
 kind:Int
 frm:Int
 dst:Int
 life:Int
 seq:Int
 asked:Int
 jC:Int
 code:Int
 err:Int
 file:Int
 epoch:Int
 off:Int
 len:Int
 size:Int
 mode:Int
 deny:Int
 handle:Int
 path:ByteArray
 other:ByteArray
 data:ByteArray
structure Pk.Ok(p:Pk):Prop where
 kind:I p.kind
 frm:I p.frm
 dst:I p.dst
 life:U p.life
 seq:U p.seq
 asked:U p.asked
 jC:U p.jC
 code:I p.code
 err:I p.err
 file:U p.file
 epoch:U p.epoch
 off:U p.off
 len:U p.len
 size:U p.size
 mode:U p.mode
 deny:U p.deny
 handle:U p.handle
abbrev pkA(p:Pk):Array Value:=#[.int .i64 p.kind,.int .i64 p.frm,.int .i64 p.dst,.int .u32 p.life,.int .u32 p.seq,.int .u32 p.asked,.int .u32 p.jC,.int .i64 p.code,.int .i64 p.err,.int .u32 p.file,.int .u32 p.epoch,.int .u32 p.off,.int .u32 p.len,.int .u32 p.size,.int .u32 p.mode,.int .u32 p.deny,.int .u32 p.handle,.string p.path,.string p.other,.string p.data]
abbrev pkV(p:Pk):Value:=.agg (pkA p)
def zPk:Pk:=⟨0,0,0,0,0,0,0,0,0,0,0,0,0,0,0,0,0,⟨#[]⟩,⟨#[]⟩,⟨#[]⟩⟩
def kP(c:Int):Prop:=(1≤c∧c≤5)∨(11≤c∧c≤24)∨c=30
instance (c : Int) : Decidable (kP c) := by unfold kP; infer_instance
def Pk.Right(p:Pk):Prop:=
 ((p.path.size≤64∧p.other.size≤64)∧p.data.size≤128)∧(1≤p.kind∧p.kind≤3)∧(0≤p.frm∧p.frm≤255)∧(0≤p.dst∧p.dst≤255)∧kP p.code∧(p.code=30↔p.kind=3)∧(0≤p.err∧p.err≤25)∧(p.err=0∨p.kind=2)
instance (p : Pk) : Decidable p.Right := by unfold Pk.Right; infer_instance
def Wq(p:Pk):List Int:=[p.kind,p.frm,p.dst,p.life,p.seq,p.asked,p.jC,p.code,p.err,p.file,p.epoch,p.off,p.len,p.size,p.mode,p.deny,p.handle]
def Lu(p:Pk):List Nat:=(Wq p).map Int.toNat
def E8(p:Pk):List UInt8:=uh (Lu p)++(zM p.path.data.toList++(zM p.other.data.toList++zM p.data.data.toList))
def lM(p:Pk):ByteArray:=if p.Right then strOf (E8 p) else ⟨#[]⟩
def X8(p:Pk):Int:=if p.Right then 0 else 1
def rds(bs:List UInt8):Nat→List UInt8 × Nat
 | 0=>(bs,0)
 | k+1=>(bP (rds bs k).1 (rds bs k).2).2
def numAt(bs:List UInt8)(k:Nat):Nat:=(bP (rds bs k).1 (rds bs k).2).1
def iR:Nat→Nat
 | 0=>64
 | 1=>64
 | _=>128
def txs(bs:List UInt8):Nat→List UInt8 × Nat
 | 0=>rds bs 17
 | j+1=>(ig (iR j) (txs bs j).1 (txs bs j).2).2
def FC(bs:List UInt8)(j:Nat):List UInt8:=(ig (iR j) (txs bs j).1 (txs bs j).2).1
def XG(bs:List UInt8):Nat:=abj (txs bs 3).1 (txs bs 3).2
def QE(bs:List UInt8):Pk:=⟨(numAt bs 0:Nat),(numAt bs 1:Nat),(numAt bs 2:Nat),(numAt bs 3:Nat),(numAt bs 4:Nat),(numAt bs 5:Nat),(numAt bs 6:Nat),(numAt bs 7:Nat),(numAt bs 8:Nat),(numAt bs 9:Nat),(numAt bs 10:Nat),(numAt bs 11:Nat),(numAt bs 12:Nat),(numAt bs 13:Nat),(numAt bs 14:Nat),(numAt bs 15:Nat),(numAt bs 16:Nat),strOf (FC bs 0),strOf (FC bs 1),strOf (FC bs 2)⟩
def AX(bs:List UInt8):Nat:=if XG bs≠0 then XG bs else if (QE bs).Right then 0 else 3
def zI(bs:List UInt8):Pk:=if XG bs≠0 then zPk else if (QE bs).Right then QE bs else zPk
theorem Wu(bs:List UInt8)(k:Nat):numAt bs k<4294967296:=Po _ _
theorem abM{n:Nat}(h:n<4294967296):U (n:Int):=⟨by omega,by omega⟩
theorem vX(s:ByteArray):s.data.toList.length=s.size:=by simp
theorem jO(p:Pk):(Lu p).length=17:=rfl
theorem V9(n:Nat):jf n<4:=by unfold jf;omega
theorem wY(l:List UInt8)(n:Nat)(h:l.length≤n):(zM l).length≤n+8:=by rw [mD];have:=V9 l.length;omega
theorem MZ(p:Pk)(h:p.Right):(E8 p).length≤400:=by
 obtain⟨⟨⟨s0,s1⟩,s2⟩,_⟩:=h
 have a:=wY p.path.data.toList 64 (by rw [vX];exact s0)
 have b:=wY p.other.data.toList 64 (by rw [vX];exact s1)
 have c:=wY p.data.data.toList 128 (by rw [vX];exact s2)
 unfold E8
 simp only [List.length_append]
 rw [rX,jO]
 omega
end Go.Proofs.YtmelaiefbpdifaaGreatDoor
/- What lies where: the numbers and the texts of a packet in memory. -/
namespace Go.Proofs.YtmelaiefbpdifaaGreatDoor
set_option maxRecDepth 100000
open Go.RowKit
theorem Only.boxed{w w1:World}{o:Obj}(k:Only [] (w.alloc o) w1):Only [] w w1:=((Only.refl [] w).alloc o).trans k
def WH(g h:Nat):Nat→Nat
 | 0=>h
 | 1=>h
 | 2=>h
 | 7=>h
 | 8=>h
 | _=>g
def ZU:Nat→Nat
 | 0=>0
 | 1=>1
 | 2=>2
 | 7=>3
 | 8=>4
 | k=>k
def Wn(g h:Nat):Value:=.agg #[.pointer (some ⟨h,0,none⟩),.pointer (some ⟨h,1,none⟩),.pointer (some ⟨h,2,none⟩),.pointer (some ⟨g,3,none⟩),.pointer (some ⟨g,4,none⟩),.pointer (some ⟨g,5,none⟩),.pointer (some ⟨g,6,none⟩),.pointer (some ⟨h,3,none⟩),.pointer (some ⟨h,4,none⟩),.pointer (some ⟨g,9,none⟩),.pointer (some ⟨g,10,none⟩),.pointer (some ⟨g,11,none⟩),.pointer (some ⟨g,12,none⟩),.pointer (some ⟨g,13,none⟩),.pointer (some ⟨g,14,none⟩),.pointer (some ⟨g,15,none⟩),.pointer (some ⟨g,16,none⟩)]
def QW(g:Nat):Value:=.agg #[.pointer (some ⟨g,17,none⟩),.int .i64 64,.pointer (some ⟨g,18,none⟩),.int .i64 64,.pointer (some ⟨g,19,none⟩),.int .i64 128]
theorem ED(g h k:Nat)(hk:k<17):∀ w:World,(Instr.index 222 (Wn g h) (.int .i64 (k:Int))).run Tryz.prog w = .ok (.pointer (some ⟨WH g h k,ZU k,none⟩)) w:=by
 match k,hk with
 | 0,_=>exact fun _=>by kernel_rfl
 | 1,_=>exact fun _=>by kernel_rfl
 | 2,_=>exact fun _=>by kernel_rfl
 | 3,_=>exact fun _=>by kernel_rfl
 | 4,_=>exact fun _=>by kernel_rfl
 | 5,_=>exact fun _=>by kernel_rfl
 | 6,_=>exact fun _=>by kernel_rfl
 | 7,_=>exact fun _=>by kernel_rfl
 | 8,_=>exact fun _=>by kernel_rfl
 | 9,_=>exact fun _=>by kernel_rfl
 | 10,_=>exact fun _=>by kernel_rfl
 | 11,_=>exact fun _=>by kernel_rfl
 | 12,_=>exact fun _=>by kernel_rfl
 | 13,_=>exact fun _=>by kernel_rfl
 | 14,_=>exact fun _=>by kernel_rfl
 | 15,_=>exact fun _=>by kernel_rfl
 | 16,_=>exact fun _=>by kernel_rfl
 | k+17,hk=>exact absurd hk (by omega)
theorem uV(g j:Nat)(hj:j<3):∀ w:World,(Instr.index 229 (QW g) (.int .i64 (j:Int))).run Tryz.prog w = .ok (.agg #[.pointer (some ⟨g,17+j,none⟩),.int .i64 (iR j:Nat)]) w:=by
 match j,hj with
 | 0,_=>exact fun _=>by kernel_rfl
 | 1,_=>exact fun _=>by kernel_rfl
 | 2,_=>exact fun _=>by kernel_rfl
def pC(a z:Nat→Int)(s:Nat→ByteArray):Array Value:=#[.int .i64 (a 0),.int .i64 (a 1),.int .i64 (a 2),.int .u32 (z 3),.int .u32 (z 4),.int .u32 (z 5),.int .u32 (z 6),.int .i64 (a 3),.int .i64 (a 4),.int .u32 (z 9),.int .u32 (z 10),.int .u32 (z 11),.int .u32 (z 12),.int .u32 (z 13),.int .u32 (z 14),.int .u32 (z 15),.int .u32 (z 16),.string (s 0),.string (s 1),.string (s 2)]
def cC(z:Nat→Int):Array Value:=#[.int .u32 (z 0),.int .u32 (z 1),.int .u32 (z 2),.int .u32 (z 7),.int .u32 (z 8)]
def upd(z:Nat→Int)(k:Nat)(v:Int):Nat→Int:=fun i=>if i=k then v else z i
def abL(s:Nat→ByteArray)(k:Nat)(v:ByteArray):Nat→ByteArray:=fun i=>if i=k then v else s i
structure Lies(w:World)(g h:Nat)(a z:Nat→Int)(s:Nat→ByteArray):Prop where
 p:Blk w g 53 (pC a z s)
 c:Blk w h 218 (cC z)
 ne:g≠h
section
variable {w w':World}{g h:Nat}{a z:Nat→Int}{s:Nat→ByteArray}{S:List Nat}
theorem Lies.kept(l:Lies w g h a z s)(k:Only S w w')(hg:g∉S)(hh:h∉S):Lies w' g h a z s:=⟨l.p.kept k hg,l.c.kept k hh,l.ne⟩
theorem Lies.num(l:Lies w g h a z s)(k:Nat)(hk:k<17):w.cell? ⟨WH g h k,ZU k,none⟩=some (.int .u32 (z k)):=by
 match k,hk with
 | 0,_=>exact (l.c.cell 0).trans rfl
 | 1,_=>exact (l.c.cell 1).trans rfl
 | 2,_=>exact (l.c.cell 2).trans rfl
 | 3,_=>exact (l.p.cell 3).trans rfl
 | 4,_=>exact (l.p.cell 4).trans rfl
 | 5,_=>exact (l.p.cell 5).trans rfl
 | 6,_=>exact (l.p.cell 6).trans rfl
 | 7,_=>exact (l.c.cell 3).trans rfl
 | 8,_=>exact (l.c.cell 4).trans rfl
 | 9,_=>exact (l.p.cell 9).trans rfl
 | 10,_=>exact (l.p.cell 10).trans rfl
 | 11,_=>exact (l.p.cell 11).trans rfl
 | 12,_=>exact (l.p.cell 12).trans rfl
 | 13,_=>exact (l.p.cell 13).trans rfl
 | 14,_=>exact (l.p.cell 14).trans rfl
 | 15,_=>exact (l.p.cell 15).trans rfl
 | 16,_=>exact (l.p.cell 16).trans rfl
 | k+17,hk=>exact absurd hk (by omega)
theorem Lies.text(l:Lies w g h a z s)(j:Nat)(hj:j<3):w.cell? ⟨g,17+j,none⟩=some (.string (s j)):=by
 match j,hj with
 | 0,_=>exact (l.p.cell 17).trans rfl
 | 1,_=>exact (l.p.cell 18).trans rfl
 | 2,_=>exact (l.p.cell 19).trans rfl
theorem Lies.ZC(l:Lies w g h a z s)(k:Nat)(hk:k<17):w.frozen? ⟨WH g h k,ZU k,none⟩=false:=by
 match k,hk with
 | 0,_=>exact l.c.free 0
 | 1,_=>exact l.c.free 1
 | 2,_=>exact l.c.free 2
 | 3,_=>exact l.p.free 3
 | 4,_=>exact l.p.free 4
 | 5,_=>exact l.p.free 5
 | 6,_=>exact l.p.free 6
 | 7,_=>exact l.c.free 3
 | 8,_=>exact l.c.free 4
 | 9,_=>exact l.p.free 9
 | 10,_=>exact l.p.free 10
 | 11,_=>exact l.p.free 11
 | 12,_=>exact l.p.free 12
 | 13,_=>exact l.p.free 13
 | 14,_=>exact l.p.free 14
 | 15,_=>exact l.p.free 15
 | 16,_=>exact l.p.free 16
 | k+17,hk=>exact absurd hk (by omega)
theorem Lies.Xy(l:Lies w g h a z s)(j:Nat):w.frozen? ⟨g,17+j,none⟩=false:=l.p.free _
theorem Lies.aam(l:Lies w g h a z s)(k:Nat)(hk:k<17)(v:Int):Lies (w.setCell ⟨WH g h k,ZU k,none⟩ (.int .u32 v)) g h a (upd z k v) s:=by
 have hp:∀ i u,Blk (w.setCell ⟨h,i,none⟩ u) g 53 (pC a z s):=fun i u=>l.p.kept ((Only.refl [h] w).setCell (.inl (by simp)) u) (by simpa using l.ne)
 have hc:∀ i u,Blk (w.setCell ⟨g,i,none⟩ u) h 218 (cC z):=fun i u=>l.c.kept ((Only.refl [g] w).setCell (.inl (by simp)) u) (by simpa using fun e=>l.ne e.symm)
 match k,hk with
 | 0,_=>exact⟨hp 0 _,l.c.set 0 _,l.ne⟩
 | 1,_=>exact⟨hp 1 _,l.c.set 1 _,l.ne⟩
 | 2,_=>exact⟨hp 2 _,l.c.set 2 _,l.ne⟩
 | 3,_=>exact⟨l.p.set 3 _,hc 3 _,l.ne⟩
 | 4,_=>exact⟨l.p.set 4 _,hc 4 _,l.ne⟩
 | 5,_=>exact⟨l.p.set 5 _,hc 5 _,l.ne⟩
 | 6,_=>exact⟨l.p.set 6 _,hc 6 _,l.ne⟩
 | 7,_=>exact⟨hp 3 _,l.c.set 3 _,l.ne⟩
 | 8,_=>exact⟨hp 4 _,l.c.set 4 _,l.ne⟩
 | 9,_=>exact⟨l.p.set 9 _,hc 9 _,l.ne⟩
 | 10,_=>exact⟨l.p.set 10 _,hc 10 _,l.ne⟩
 | 11,_=>exact⟨l.p.set 11 _,hc 11 _,l.ne⟩
 | 12,_=>exact⟨l.p.set 12 _,hc 12 _,l.ne⟩
 | 13,_=>exact⟨l.p.set 13 _,hc 13 _,l.ne⟩
 | 14,_=>exact⟨l.p.set 14 _,hc 14 _,l.ne⟩
 | 15,_=>exact⟨l.p.set 15 _,hc 15 _,l.ne⟩
 | 16,_=>exact⟨l.p.set 16 _,hc 16 _,l.ne⟩
 | k+17,hk=>exact absurd hk (by omega)
theorem Lies.YO(l:Lies w g h a z s)(j:Nat)(hj:j<3)(v:ByteArray):Lies (w.setCell ⟨g,17+j,none⟩ (.string v)) g h a z (abL s j v):=by
 have hc:∀ i u,Blk (w.setCell ⟨g,i,none⟩ u) h 218 (cC z):=fun i u=>l.c.kept ((Only.refl [g] w).setCell (.inl (by simp)) u) (by simpa using fun e=>l.ne e.symm)
 match j,hj with
 | 0,_=>exact⟨l.p.set 17 _,hc 17 _,l.ne⟩
 | 1,_=>exact⟨l.p.set 18 _,hc 18 _,l.ne⟩
 | 2,_=>exact⟨l.p.set 19 _,hc 19 _,l.ne⟩
end
def zOf(p:Pk):Nat→Int:=fun k=>(Wq p).getD k 0
def sOf(p:Pk):Nat→ByteArray
 | 0=>p.path
 | 1=>p.other
 | _=>p.data
def aOf(p:Pk):Nat→Int
 | 0=>p.kind
 | 1=>p.frm
 | 2=>p.dst
 | 3=>p.code
 | _=>p.err
abbrev cV(p:Pk):Value:=.agg #[.int .u32 p.kind,.int .u32 p.frm,.int .u32 p.dst,.int .u32 p.code,.int .u32 p.err]
theorem aad(p:Pk)(k:Nat)(hk:k<(Wq p).length):zOf p k=(Wq p)[k]:=by
 unfold zOf
 simp [List.getD,List.getElem?_eq_getElem hk]
end Go.Proofs.YtmelaiefbpdifaaGreatDoor
/- A boxed packet's cells. -/
namespace Go.Proofs.YtmelaiefbpdifaaGreatDoor
set_option maxRecDepth 100000
open Go.RowKit
theorem YU{w:World}{g:Nat}{p:Pk}(b:Blk w g 53 (pkA p))(j:Nat)(hj:j<3):w.cell? ⟨g,17+j,none⟩=some (.string (sOf p j)):=by
 match j,hj with
 | 0,_=>exact b.cell 17
 | 1,_=>exact b.cell 18
 | 2,_=>exact b.cell 19
theorem V7{w:World}{g:Nat}{p:Pk}(b:Blk w g 53 (pkA p)):
  w.cell? ⟨g,0,none⟩=some (.int .i64 p.kind)∧w.cell? ⟨g,1,none⟩=some (.int .i64 p.frm)∧w.cell? ⟨g,2,none⟩=some (.int .i64 p.dst)∧w.cell? ⟨g,3,none⟩=some (.int .u32 p.life)∧w.cell? ⟨g,4,none⟩=some (.int .u32 p.seq)∧w.cell? ⟨g,5,none⟩=some (.int .u32 p.asked)∧w.cell? ⟨g,6,none⟩=some (.int .u32 p.jC)∧w.cell? ⟨g,7,none⟩=some (.int .i64 p.code)∧w.cell? ⟨g,8,none⟩=some (.int .i64 p.err)∧w.cell? ⟨g,9,none⟩=some (.int .u32 p.file)∧w.cell? ⟨g,10,none⟩=some (.int .u32 p.epoch)∧w.cell? ⟨g,11,none⟩=some (.int .u32 p.off)∧w.cell? ⟨g,12,none⟩=some (.int .u32 p.len)∧w.cell? ⟨g,13,none⟩=some (.int .u32 p.size)∧w.cell? ⟨g,14,none⟩=some (.int .u32 p.mode)∧w.cell? ⟨g,15,none⟩=some (.int .u32 p.deny)∧w.cell? ⟨g,16,none⟩=some (.int .u32 p.handle)∧w.cell? ⟨g,17,none⟩=some (.string p.path)∧w.cell? ⟨g,18,none⟩=some (.string p.other)∧w.cell? ⟨g,19,none⟩=some (.string p.data):=
 ⟨b.cell 0,b.cell 1,b.cell 2,b.cell 3,b.cell 4,b.cell 5,b.cell 6,b.cell 7,b.cell 8,b.cell 9,b.cell 10,b.cell 11,b.cell 12,b.cell 13,b.cell 14,b.cell 15,b.cell 16,b.cell 17,b.cell 18,b.cell 19⟩
theorem Blk.two{w:World}{g:Nat}{ty:TypeId}{c0 c1 a b:Value}(h:Blk w g ty #[c0,c1]):Blk ((w.setCell ⟨g,0,none⟩ a).setCell ⟨g,1,none⟩ b) g ty #[a,b]:=by
 have:=(h.set 0 a).set 1 b
 simpa using this
end Go.Proofs.YtmelaiefbpdifaaGreatDoor
