/- Joined: Memq, Appq, Mine, Pure8, Judge, Ask, Open8, Store8. -/
import Derived.Test.YtmelaiefbpdifaaGreatDoorHId
import Derived.Below
import Derived.Maps.AppendAt
import Derived.Laws.IdiomStrings
import Derived.Deep.Draws
import Derived.Deep.OwnRows
import Derived.ChangeSame
import Derived.Lib.Hide
import Derived.RegionTactic
import Derived.WalkKit
import Derived.OwnWalk
import Derived.Laws.StructEq
import Derived.Deep.AppendLies
import Derived.Test.YtmelaiefbpdifaaGreatDoorChecked
import Derived.Tactics
import Derived.Tactics2
import Derived.StillTactics
import Derived.WalkLawsBesides
import Derived.WalkSpells
import Derived.Outline
import Derived.Laws.Pointers
import Derived.Laws.Small
import Derived.Laws.Build
import Derived.Laws.Cover3
import Derived.KernelRfl
import Derived.BigQuiet
import Derived.Laws.ResultCell
import Derived.Deep.Slices
import Derived.Deep.Fields
import Derived.ProofKit
import Derived.OpenShut
/- Words for memory, of no program: what a call leaves alone (Only), a row of bytes (BytesAt), and the row's last step where the world behind the call is known by what it leaves alone. -/
namespace Go.Proofs.YtmelaiefbpdifaaGreatDoor
set_option maxRecDepth 100000
open Go.RowKit Go.WideShapes Go.ChangeShapes
section
variable {S T:List Nat}{a w w':World}
end
section
variable {S:List Nat}{w w':World}{g:Nat}{t:TypeId}{cs:Array Value}
end
section
variable {S:List Nat}{w w':World}{g o:Nat}{l:List UInt8}
end
section
variable {H:Type}{enc:TypeId × Value→H}{P:Program}
end
end Go.Proofs.YtmelaiefbpdifaaGreatDoor
/- append onto a row of the call's own, the source nil, empty or not: of no program. -/
namespace Go.Proofs.YtmelaiefbpdifaaGreatDoor
set_option maxRecDepth 100000
open Go.RowKit
section
variable {P:Program}(w:World)
end
section
variable {P:Program}(w:World){ops:Array Oper}{rest:List Oper}{o:Oper}{a:Act}{Q:Exit→Act→World→Prop}
end
end Go.Proofs.YtmelaiefbpdifaaGreatDoor
/- Slices of structs of k cells: in memory, made by appends (of no program). -/
namespace Go.Proofs.YtmelaiefbpdifaaGreatDoor
set_option maxRecDepth 100000
open Go.RowKit
section
variable {α:Type}
end
section
variable {α:Type}
variable {enc:α→List Value}{k:Nat}{w w':World}{A:Option Addr}{l:List α}
variable {P:Program}
end
section
variable {α:Type}{enc:α→List Value}{k:Nat}{e:TypeId}{w w1 w2:World}{v v':Value}{l:List α}
end
theorem Mine.from{α:Type}{enc:α→List Value}{k:Nat}{e:TypeId}{w w0 w1:World}{v:Value}{l:List α}(kk:Only [] w w0)(h:Mine enc k e w0 w1 v l):Mine enc k e w w1 v l:=
 ⟨h.own,fun g hg=>Nat.le_trans kk.size (h.new g hg),kk.trans h.only⟩
theorem Mine.shape{α:Type}{enc:α→List Value}{k:Nat}{e:TypeId}{w w1:World}{v:Value}{l:List α}(hk:∀ x,(enc x).length=k)(h:Mine enc k e w w1 v l):
  ∃ A c,v = .slice A l.length c∧Els enc k w1 A l∧l.length≤c∧(∀ a,A=some a→w.heap.size≤a.block)∧(v = .slice none 0 0∨∃ g c,v = .slice (some ⟨g,0,none⟩) l.length c):=by
 rcases id h.own.2 with⟨rfl,h0⟩ | ⟨g,cap,cur,rfl,hb,hg,hn,r⟩
 ·have hl:l = []:=List.eq_nil_of_length_eq_zero h0
  subst hl
  exact⟨none,0,rfl,.inl rfl,Nat.le_refl _,by simp,.inl rfl⟩
 ·refine⟨_,_,rfl,?_,hn,fun a ha=> ?_,.inr ⟨g,cap,rfl⟩⟩
  ·by_cases h0:l = []
   ·exact .inl h0
   ·refine .inr ⟨g,0,rfl,(h.own.lt g rfl).2,fun i hi j u hu=> ?_⟩
    have q:=h.own.cells rfl _ _ (rW hk l i hi j u hu)
    rw [addr_add,Nat.zero_add] at q
    rw [Nat.zero_add]
    exact q
  ·injection ha with ha
   subst ha
   exact h.new g rfl
end Go.Proofs.YtmelaiefbpdifaaGreatDoor
/- Package lane as plain functions on whole numbers: seats, lines, what each call makes of them. -/
namespace Go.Proofs.YtmelaiefbpdifaaGreatDoor
set_option maxRecDepth 100000
structure Sat where
 life:Int
 seq:Int
 reply:ByteArray
structure Ln where
 life:Int
 jC:Int
 seq:Int
 out:Bool
 body:ByteArray
 left:Int
 gap:Int
abbrev aao(s:Sat):Value:=.agg #[.int .u32 s.life,.int .u32 s.seq,.string s.reply]
structure Sat.Ok(s:Sat):Prop where
 life:U s.life
 seq:U s.seq
structure Ln.Ok(l:Ln):Prop where
 life:U l.life
 jC:U l.jC
 seq:U l.seq
 left:I l.left
 gap:I l.gap
def gq(s:Sat)(life seq:Int):Int:=
 if life<s.life∨life=0∨seq=0 then 3 else if s.life<life then (if seq=1 then 1 else 4) else
 if seq=s.seq then 2 else if seq=s.seq+1 then 1 else if seq<s.seq then 3 else 4
def rY(s:Sat)(life seq:Int)(reply:ByteArray):Sat:=if gq s life seq=1 then ⟨life,seq,reply⟩ else s
def hears(l:Ln)(life asked seq:Int):Prop:=l.out=true∧life=l.life∧asked=l.jC∧seq=l.seq
instance (l : Ln) (life asked seq : Int) : Decidable (hears l life asked seq) := by unfold hears; infer_instance
theorem Ez(s:Sat)(li sq:Int):
  (li<s.life∧gq s li sq=3)∨(¬li<s.life∧li=0∧gq s li sq=3)∨(¬li<s.life∧¬li=0∧sq=0∧gq s li sq=3) ∨
  (¬li<s.life∧¬li=0∧¬sq=0∧s.life<li∧sq=1∧gq s li sq=1)∨(¬li<s.life∧¬li=0∧¬sq=0∧s.life<li∧¬sq=1∧gq s li sq=4) ∨
  (¬li<s.life∧¬li=0∧¬sq=0∧¬s.life<li∧sq=s.seq∧gq s li sq=2)∨(¬li<s.life∧¬li=0∧¬sq=0∧¬s.life<li∧¬sq=s.seq∧sq=s.seq+1∧gq s li sq=1) ∨
  (¬li<s.life∧¬li=0∧¬sq=0∧¬s.life<li∧¬sq=s.seq∧¬sq=s.seq+1∧sq<s.seq∧gq s li sq=3)∨(¬li<s.life∧¬li=0∧¬sq=0∧¬s.life<li∧¬sq=s.seq∧¬sq=s.seq+1∧¬sq<s.seq∧gq s li sq=4):=by
 unfold gq
 by_cases h1:li<s.life
 ·exact .inl ⟨h1,by rw [if_pos (.inl h1)]⟩
 by_cases h2:li=0
 ·exact .inr (.inl ⟨h1,h2,by rw [if_pos (.inr (.inl h2))]⟩)
 by_cases h3:sq=0
 ·exact .inr (.inr (.inl ⟨h1,h2,h3,by rw [if_pos (.inr (.inr h3))]⟩))
 have N:¬(li<s.life∨li=0∨sq=0):=fun h=>h.elim h1 (fun h=>h.elim h2 h3)
 by_cases h4:s.life<li
 ·by_cases h5:sq=1
  ·exact .inr (.inr (.inr (.inl ⟨h1,h2,h3,h4,h5,by rw [if_neg N,if_pos h4,if_pos h5]⟩)))
  ·exact .inr (.inr (.inr (.inr (.inl ⟨h1,h2,h3,h4,h5,by rw [if_neg N,if_pos h4,if_neg h5]⟩))))
 by_cases h5:sq=s.seq
 ·exact .inr (.inr (.inr (.inr (.inr (.inl ⟨h1,h2,h3,h4,h5,by rw [if_neg N,if_neg h4,if_pos h5]⟩)))))
 by_cases h6:sq=s.seq+1
 ·exact .inr (.inr (.inr (.inr (.inr (.inr (.inl ⟨h1,h2,h3,h4,h5,h6,by rw [if_neg N,if_neg h4,if_neg h5,if_pos h6]⟩))))))
 by_cases h7:sq<s.seq
 ·exact .inr (.inr (.inr (.inr (.inr (.inr (.inr (.inl ⟨h1,h2,h3,h4,h5,h6,h7,by rw [if_neg N,if_neg h4,if_neg h5,if_neg h6,if_pos h7]⟩)))))))
 ·exact .inr (.inr (.inr (.inr (.inr (.inr (.inr (.inr (⟨h1,h2,h3,h4,h5,h6,h7,by rw [if_neg N,if_neg h4,if_neg h5,if_neg h6,if_neg h7]⟩))))))))
end Go.Proofs.YtmelaiefbpdifaaGreatDoor
/- The walk of Judge, by cases. -/
namespace Go.Proofs.YtmelaiefbpdifaaGreatDoor
set_option maxRecDepth 100000
open Go.RowKit
theorem BI(s:Sat)(li sq:Int)(w:World)(hs:s.Ok)(h3:U li)(h4:U sq):
  Calls Tryz.prog 62 #[aao s,.int .u32 li,.int .u32 sq] w fun e w'=>e = .returned (.int .i64 (gq s li sq))∧Only [] w w':=by
 have ways:=Ez s li sq
 obtain⟨⟨a0,a1⟩,⟨b0,b1⟩⟩:=hs
 obtain⟨c0,c1⟩:=h3
 obtain⟨e0,e1⟩:=h4
 obtain⟨sl,ss,r⟩:=s
 simp only at a0 a1 b0 b1 ways
 have hw:¬sq=0→IntKind.u32.wrap (sq-1)=sq-1:=fun h=>by rw [IntKind.wrap_u32];omega
 rcases ways with⟨h1,hj⟩ | ⟨h1,h2,hj⟩ | ⟨h1,h2,h3,hj⟩ | ⟨h1,h2,h3,h4,h5,hj⟩ | ⟨h1,h2,h3,h4,h5,hj⟩ | ⟨h1,h2,h3,h4,h5,hj⟩ | ⟨h1,h2,h3,h4,h5,h6,hj⟩ | ⟨h1,h2,h3,h4,h5,h6,h7,hj⟩ | ⟨h1,h2,h3,h4,h5,h6,h7,hj⟩
 all_goals rw [hj];clear hj
 ·clear hw
  go_enter Tryz.func62,Tryz.ntmps62
  go_wp2
  go_ret;exact⟨rfl,(Only.refl [] w).alloc _⟩
 ·clear hw
  have f0:decide (li<sl)=false:=by simp;omega
  go_enter Tryz.func62,Tryz.ntmps62
  go_wp2
  go_ret;exact⟨rfl,(Only.refl [] w).alloc _⟩
 ·clear hw
  have f0:decide (li<sl)=false:=by simp;omega
  have f1:(li==0)=false:=by simp;omega
  have g1:decide (li=0)=false:=by simp;omega
  go_enter Tryz.func62,Tryz.ntmps62
  go_wp2
  go_ret;exact⟨rfl,(Only.refl [] w).alloc _⟩
 ·clear hw
  subst h5
  have f0:decide (li<sl)=false:=by simp;omega
  have f1:(li==0)=false:=by simp;omega
  have g1:decide (li=0)=false:=by simp;omega
  have f2:decide (sl<li)=true:=by simp;omega
  go_enter Tryz.func62,Tryz.ntmps62
  go_wp2
  go_ret;exact⟨rfl,(Only.refl [] w).alloc _⟩
 ·have hw':=hw h3
  clear hw
  have f0:decide (li<sl)=false:=by simp;omega
  have f1:(li==0)=false:=by simp;omega
  have g1:decide (li=0)=false:=by simp;omega
  have f2:(sq==0)=false:=by simp;omega
  have g2:decide (sq=0)=false:=by simp;omega
  have f3:decide (sl<li)=true:=by simp;omega
  have f4:(sq-1==0)=false:=by simp;omega
  have g4:decide (sq-1=0)=false:=by simp;omega
  have f5:decide (sq<0)=false:=by simp;omega
  go_enter Tryz.func62,Tryz.ntmps62
  go_wp2
  go_ret;exact⟨rfl,(Only.refl [] w).alloc _⟩
 ·clear hw
  subst h5
  have f9:(sq==0)=false:=by simp;omega
  have g9:decide (sq=0)=false:=by simp;omega
  have f0:decide (li<sl)=false:=by simp;omega
  have f1:(li==0)=false:=by simp;omega
  have g1:decide (li=0)=false:=by simp;omega
  have f2:decide (sl<li)=false:=by simp;omega
  go_enter Tryz.func62,Tryz.ntmps62
  go_wp2
  go_ret;exact⟨rfl,(Only.refl [] w).alloc _⟩
 ·have hw':=hw h3
  clear hw
  have h8:¬sq=ss:=by omega
  have f0:decide (li<sl)=false:=by simp;omega
  have f1:(li==0)=false:=by simp;omega
  have g1:decide (li=0)=false:=by simp;omega
  have f2:(sq==0)=false:=by simp;omega
  have g2:decide (sq=0)=false:=by simp;omega
  have f3:decide (sl<li)=false:=by simp;omega
  have f4:(sq==ss)=false:=by simp;omega
  have g4:decide (sq=ss)=false:=by simp;omega
  have f5:(sq-1==ss)=true:=by simp;omega
  have g5:decide (sq-1=ss)=true:=by simp;omega
  clear h6
  go_enter Tryz.func62,Tryz.ntmps62
  go_wp2
  go_ret;exact⟨rfl,(Only.refl [] w).alloc _⟩
 ·have hw':=hw h3
  clear hw
  have f0:decide (li<sl)=false:=by simp;omega
  have f1:(li==0)=false:=by simp;omega
  have g1:decide (li=0)=false:=by simp;omega
  have f2:(sq==0)=false:=by simp;omega
  have g2:decide (sq=0)=false:=by simp;omega
  have f3:decide (sl<li)=false:=by simp;omega
  have f4:(sq==ss)=false:=by simp;omega
  have g4:decide (sq=ss)=false:=by simp;omega
  have f5:(sq-1==ss)=false:=by simp;omega
  have g5:decide (sq-1=ss)=false:=by simp;omega
  have f6:decide (sq<ss)=true:=by simp;omega
  go_enter Tryz.func62,Tryz.ntmps62
  go_wp2
  go_ret;exact⟨rfl,(Only.refl [] w).alloc _⟩
 ·have hw':=hw h3
  clear hw
  have f0:decide (li<sl)=false:=by simp;omega
  have f1:(li==0)=false:=by simp;omega
  have g1:decide (li=0)=false:=by simp;omega
  have f2:(sq==0)=false:=by simp;omega
  have g2:decide (sq=0)=false:=by simp;omega
  have f3:decide (sl<li)=false:=by simp;omega
  have f4:(sq==ss)=false:=by simp;omega
  have g4:decide (sq=ss)=false:=by simp;omega
  have f5:(sq-1==ss)=false:=by simp;omega
  have g5:decide (sq-1=ss)=false:=by simp;omega
  have f6:decide (sq<ss)=false:=by simp;omega
  go_enter Tryz.func62,Tryz.ntmps62
  go_wp2
  go_ret;exact⟨rfl,(Only.refl [] w).alloc _⟩
end Go.Proofs.YtmelaiefbpdifaaGreatDoor
/- The walks of Done, Ask, Tick, Hear: the program's, the document's. -/
namespace Go.Proofs.YtmelaiefbpdifaaGreatDoor
set_option maxRecDepth 100000
open Go.RowKit
theorem Blk.three{w w1:World}{S:List Nat}{g:Nat}{a b c:Value}{ty:TypeId}(h:Blk w g ty #[a,b,c])(k:Only S w w1)(hg:g∉S):
  w1.cell? ⟨g,0,none⟩=some a∧w1.cell? ⟨g,1,none⟩=some b∧w1.cell? ⟨g,2,none⟩=some c:=by
 have bq:=h.kept k hg
 exact⟨bq.cell 0,bq.cell 1,bq.cell 2⟩
theorem XL(s:Sat)(li sq:Int)(r:ByteArray)(w:World)(hs:s.Ok)(h3:U li)(h4:U sq):
  Calls Tryz.prog 115 #[aao s,.int .u32 li,.int .u32 sq,.string r] w fun e w'=>e = .returned (aao (rY s li sq r))∧Only [] w w':=by
 obtain⟨a,b,c⟩:=s
 by_cases hj:gq ⟨a,b,c⟩ li sq=1
 ·rw [show rY ⟨a,b,c⟩ li sq r=⟨li,sq,r⟩ from if_pos hj]
  go_enter Tryz.func115,Tryz.ntmps115
  go_wp2_with fail
  refine (BI ⟨a,b,c⟩ li sq _ hs h3 h4).mono ?_;rintro e w1 ⟨rfl,k1⟩
  rw [hj]
  clear hj hs h3 h4
  have kw:=k1.boxed.boxed
  have gw:w.heap.size≤w.heap.size+1:=Nat.le_add_right _ _
  obtain⟨b0,b1,b2⟩:=((Blk.new w 113 #[.int .u32 a,.int .u32 b,.string c]).alloc (.cells #[.int .u32 0,.int .u32 0,.string ⟨#[]⟩] 113)).three k1 (by simp)
  have bz:=(Blk.new (w.alloc (.cells #[.int .u32 a,.int .u32 b,.string c] 113)) 113 #[.int .u32 0,.int .u32 0,.string ⟨#[]⟩]).kept k1 (by simp)
  rw [show (w.alloc (.cells #[.int .u32 a,.int .u32 b,.string c] 113)).heap.size=w.heap.size+1 by simp] at bz
  have z0:=bz.cell 0
  have z1:=bz.cell 1
  have z2:=bz.cell 2
  have f0:=bz.free 0
  have f1:=bz.free 1
  have f2:=bz.free 2
  simp only [List.getElem?_toArray,List.getElem?_cons_zero,List.getElem?_cons_succ] at z0 z1 z2
  clear bz k1
  go_wp2
  refine bodyPost_ret (v:=aao ⟨li,sq,r⟩) (by rw [fJ rfl];go_simp) rfl ?_
  refine⟨rfl,?_⟩
  repeat (first | exact Only.refl _ _ | exact kw | refine Only.alloc ?_ _ | refine Only.setCell ?_ (.inr (by first | exact Nat.le_refl _ | exact Nat.le_add_right _ _ | exact gw)) _)
 ·rw [show rY ⟨a,b,c⟩ li sq r=⟨a,b,c⟩ from if_neg hj]
  go_enter Tryz.func115,Tryz.ntmps115
  go_wp2_with fail
  refine (BI ⟨a,b,c⟩ li sq _ hs h3 h4).mono ?_;rintro e w1 ⟨rfl,k1⟩
  generalize gq ⟨a,b,c⟩ li sq=j at *
  have f9:(j==1)=false:=by simpa using hj
  have g9:(j != 1)=true:=by simpa using hj
  clear hs h3 h4
  have kw:=k1.boxed.boxed
  have gw:w.heap.size≤w.heap.size+1:=Nat.le_add_right _ _
  obtain⟨b0,b1,b2⟩:=((Blk.new w 113 #[.int .u32 a,.int .u32 b,.string c]).alloc (.cells #[.int .u32 0,.int .u32 0,.string ⟨#[]⟩] 113)).three k1 (by simp)
  have bz:=(Blk.new (w.alloc (.cells #[.int .u32 a,.int .u32 b,.string c] 113)) 113 #[.int .u32 0,.int .u32 0,.string ⟨#[]⟩]).kept k1 (by simp)
  rw [show (w.alloc (.cells #[.int .u32 a,.int .u32 b,.string c] 113)).heap.size=w.heap.size+1 by simp] at bz
  have z0:=bz.cell 0
  have z1:=bz.cell 1
  have z2:=bz.cell 2
  have f0:=bz.free 0
  have f1:=bz.free 1
  have f2:=bz.free 2
  simp only [List.getElem?_toArray,List.getElem?_cons_zero,List.getElem?_cons_succ] at z0 z1 z2
  clear bz k1
  go_wp2
  refine bodyPost_ret (v:=aao ⟨a,b,c⟩) (by rw [fJ rfl];go_simp) rfl ?_
  refine⟨rfl,?_⟩
  repeat (first | exact Only.refl _ _ | exact kw | refine Only.alloc ?_ _ | refine Only.setCell ?_ (.inr (by first | exact Nat.le_refl _ | exact Nat.le_add_right _ _ | exact gw)) _)
end Go.Proofs.YtmelaiefbpdifaaGreatDoor
/- What comes in, opened: a seat, a line, numbers, a run's acts. -/
namespace Go.Proofs.YtmelaiefbpdifaaGreatDoor
set_option maxRecDepth 100000
open Go.RowKit Go.WideShapes Go.ChangeShapes Go.Deep
section
variable {H:Type}{enc:TypeId × Value→H}{P:Program}{w:World}{base:Nat}{spare:Nat→Bool}{held:Bool}
end
section
variable {H:Type}{enc:TypeId × Value→H}{w:World}
end
end Go.Proofs.YtmelaiefbpdifaaGreatDoor
/- A struct that is stored whole: its block, and what has turned. -/
namespace Go.Proofs.YtmelaiefbpdifaaGreatDoor
set_option maxRecDepth 100000
open Go.RowKit
end Go.Proofs.YtmelaiefbpdifaaGreatDoor
