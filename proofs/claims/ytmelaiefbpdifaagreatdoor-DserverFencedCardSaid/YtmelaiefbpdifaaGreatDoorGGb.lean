/- Joined: Ref, Ref2, Ref3, Ref4, Like, Num, Forth, Xdr, Xdr2. -/
import Derived.Test.YtmelaiefbpdifaaGreatDoorGGa
import Derived.Scope
import Derived.WalkMore
import Derived.LoopTactic
import Derived.Deep.QuietTactic
import Derived.BigQuiet
/- The document's device in memory, and the walks of its functions. -/
namespace Go.Proofs.YtmelaiefbpdifaaGreatDoor
open Go.RowKit
def refLate (l : List (Nat × List UInt8)) : List Value := (l.map fun x => [Value.int .i64 (x.1 : Int), .string (strOf x.2)]).flatten
def Ref (w : World) (p : Nat) (G : List Nat) (s : St) : Prop :=
 ∃ vf vl, Blk w p 38 #[vf, vl, .int .i64 s.fuse, .bool s.dead] ∧ w.ownsRow 0 9 1 vf s.firm.length (strCells s.firm) ∧ w.ownsRow 0 254 2 vl s.late.length (refLate s.late) ∧
  (vf.ownBlock ≠ some p ∧ vl.ownBlock ≠ some p ∧ ∀ g, vf.ownBlock = some g → vl.ownBlock ≠ some g) ∧ (p ∈ G ∧ (∀ g, vf.ownBlock = some g → g ∈ G) ∧ ∀ g, vl.ownBlock = some g → g ∈ G) ∧ Fine s
def RefDid (w w' : World) (p : Nat) (G : List Nat) (s : St) : Prop := ∃ G', Ref w' p G' s ∧ Only G w w' ∧ ∀ i ∈ G', (i ∈ G ∨ w.heap.size ≤ i) ∧ i < w'.heap.size
def RefSame (w w' : World) (p : Nat) (G : List Nat) (s : St) : Prop := Ref w' p G s ∧ Only G w w'
section
variable {w w' : World} {p : Nat} {G S : List Nat} {s : St}
theorem Ref.kept (h : Ref w p G s) (k : Only S w w') (hG : ∀ i ∈ G, i ∉ S) : Ref w' p G s := by
 obtain ⟨vf, vl, h1, h2, h3, h4, ⟨g1, g2, g3⟩, h6⟩ := h
 exact ⟨vf, vl, h1.kept k (hG _ g1), ownsRow_kept' h2 k (fun g hg => hG g (g2 g hg)), ownsRow_kept' h3 k (fun g hg => hG g (g3 g hg)), h4, ⟨g1, g2, g3⟩, h6⟩
theorem Ref.mem (h : Ref w p G s) : p ∈ G := by
 obtain ⟨vf, vl, _, _, _, _, ⟨g1, _⟩, _⟩ := h
 exact g1
theorem Ref.fine (h : Ref w p G s) : Fine s := by
 obtain ⟨vf, vl, _, _, _, _, _, h6⟩ := h
 exact h6
theorem Ref.trim (h : Ref w p G s) : ∃ G', Ref w p G' s ∧ (∀ i ∈ G', i ∈ G) ∧ ∀ i ∈ G', i < w.heap.size := by
 obtain ⟨vf, vl, h1, h2, h3, h4, ⟨g1, g2, g3⟩, h6⟩ := h
 refine ⟨p :: (vf.ownBlock.toList ++ vl.ownBlock.toList), ⟨vf, vl, h1, h2, h3, h4, ⟨by simp, fun g hg => by simp [hg], fun g hg => by simp [hg]⟩, h6⟩, fun i hi => ?_, fun i hi => ?_⟩
 ·simp at hi
  rcases hi with rfl | hi | hi
  ·exact g1
  ·exact g2 i hi
  ·exact g3 i hi
 ·simp at hi
  rcases hi with rfl | hi | hi
  ·exact h1.lt
  ·exact (h2.lt i hi).2
  ·exact (h3.lt i hi).2
theorem RefSame.did (h : RefSame w w' p G s) : RefDid w w' p G s := by
 obtain ⟨G', k1, k2, k3⟩ := h.1.trim
 exact ⟨G', k1, h.2, fun i hi => ⟨.inl (k2 i hi), k3 i hi⟩⟩
theorem Ref.setFuse (h : Ref w p G s) (n : Int) (h0 : -9223372036854775808 ≤ n) (h1 : n ≤ 9223372036854775807) : RefSame w (w.setCell ⟨p, 2, none⟩ (.int .i64 n)) p G { s with fuse := n } := by
 have hm := h.mem
 obtain ⟨vf, vl, b, o1, o2, ⟨n1, n2, n3⟩, hG, fine⟩ := h
 have k : Only [p] w (w.setCell ⟨p, 2, none⟩ (.int .i64 n)) := Only.set w [p] (by simp) _
 exact ⟨⟨vf, vl, by simpa using b.set 2 (.int .i64 n), ownsRow_kept' o1 k (fun g hg => by simp; rintro rfl; exact n1 hg), ownsRow_kept' o2 k (fun g hg => by simp; rintro rfl; exact n2 hg), ⟨n1, n2, n3⟩, hG, ⟨fine.pos, fine.few, fine.firm, fine.late, h0, h1⟩⟩, Only.set w G hm _⟩
theorem Ref.setDead (h : Ref w p G s) (d : Bool) : RefSame w (w.setCell ⟨p, 3, none⟩ (.bool d)) p G { s with dead := d } := by
 have hm := h.mem
 obtain ⟨vf, vl, b, o1, o2, ⟨n1, n2, n3⟩, hG, fine⟩ := h
 have k : Only [p] w (w.setCell ⟨p, 3, none⟩ (.bool d)) := Only.set w [p] (by simp) _
 exact ⟨⟨vf, vl, by simpa using b.set 3 (.bool d), ownsRow_kept' o1 k (fun g hg => by simp; rintro rfl; exact n1 hg), ownsRow_kept' o2 k (fun g hg => by simp; rintro rfl; exact n2 hg), ⟨n1, n2, n3⟩, hG, ⟨fine.pos, fine.few, fine.firm, fine.late, fine.lo, fine.hi⟩⟩, Only.set w G hm _⟩
end
end Go.Proofs.YtmelaiefbpdifaaGreatDoor
/- The document's device: Now, Read, Write. -/
namespace Go.Proofs.YtmelaiefbpdifaaGreatDoor
open Go.RowKit
end Go.Proofs.YtmelaiefbpdifaaGreatDoor
/- The document's device: Barrier, Crash. -/
namespace Go.Proofs.YtmelaiefbpdifaaGreatDoor
open Go.RowKit
end Go.Proofs.YtmelaiefbpdifaaGreatDoor
/- The document's device: New, and an act of it. -/
namespace Go.Proofs.YtmelaiefbpdifaaGreatDoor
open Go.RowKit
end Go.Proofs.YtmelaiefbpdifaaGreatDoor
/- Two devices that answer alike: a fuse below nought is none. -/
namespace Go.Proofs.YtmelaiefbpdifaaGreatDoor
open Go.RowKit
theorem RefDid.from {w w0 w' : World} {p : Nat} {G : List Nat} {s : St} (k : Only [] w w0) (h : RefDid w0 w' p G s) : RefDid w w' p G s := by
 obtain ⟨G', h1, h2, h3⟩ := h
 exact ⟨G', h1, (k.more (T := G) (by simp)).then h2 (fun _ hi => .inl hi), fun i hi => ⟨(h3 i hi).1.imp id (fun h => Nat.le_trans k.size h), (h3 i hi).2⟩⟩
theorem RefDid.mono {w w' : World} {p : Nat} {F G : List Nat} {s : St} (h : RefDid w w' p F s) (hG : ∀ i ∈ F, i ∈ G) : RefDid w w' p G s := by
 obtain ⟨F', h1, h2, h3⟩ := h
 exact ⟨F', h1, h2.more (fun i hi => .inl (hG i hi)), fun i hi => ⟨(h3 i hi).1.imp (hG i) id, (h3 i hi).2⟩⟩
theorem RefDid.cell {w w' : World} {p : Nat} {F : List Nat} {s : St} (h : RefDid w w' p F s) {a : Addr} {v : Value} (hc : w.cell? a = some v) (ha : a.block ∉ F) : w'.cell? a = some v := by
 obtain ⟨F', h1, h2, h3⟩ := h
 exact h2.cell hc ha
def Like (s t : St) : Prop := s.firm = t.firm ∧ s.late = t.late ∧ s.dead = t.dead ∧ (s.fuse = t.fuse ∨ (s.fuse < 0 ∧ t.fuse < 0))
theorem Like.burns {s t : St} (h : Like s t) : burns s = burns t := by
 obtain ⟨_, _, h3, h4⟩ := h
 have : s.fuse = 0 ↔ t.fuse = 0 := by omega
 simp only [Go.Proofs.YtmelaiefbpdifaaGreatDoor.burns, h3, this]
theorem Like.burnt {s t : St} (h : Like s t) : Like (burnt s) (burnt t) := by
 have hb := h.burns
 obtain ⟨h1, h2, h3, h4⟩ := h
 refine ⟨by rw [burnt_firm, burnt_firm, h1], by rw [burnt_late, burnt_late, h2], ?_, ?_⟩
 ·unfold Go.Proofs.YtmelaiefbpdifaaGreatDoor.burnt
  rw [hb]
  split
  ·exact h3
  ·rfl
 ·unfold Go.Proofs.YtmelaiefbpdifaaGreatDoor.burnt
  rw [hb]
  split
  ·show (if 0 < s.fuse then s.fuse - 1 else s.fuse) = (if 0 < t.fuse then t.fuse - 1 else t.fuse) ∨ ((if 0 < s.fuse then s.fuse - 1 else s.fuse) < 0 ∧ (if 0 < t.fuse then t.fuse - 1 else t.fuse) < 0)
   split <;> split <;> omega
  ·exact h4
theorem Like.writeErr {s t : St} (h : Like s t) (k : Int) (b : List UInt8) : writeErr s k b = writeErr t k b := by
 unfold Go.Proofs.YtmelaiefbpdifaaGreatDoor.writeErr
 rw [h.1, h.burns]
theorem Like.written {s t : St} (h : Like s t) (k : Int) (b : List UInt8) : Like (written s k b) (written t k b) := by
 have hb := h.burnt
 unfold Go.Proofs.YtmelaiefbpdifaaGreatDoor.written
 rw [h.1, h.burns]
 split
 ·exact h
 ·split
  ·exact hb
  ·obtain ⟨h1, h2, h3, h4⟩ := hb
   exact ⟨h1, by simp only; rw [h.2.1], h3, h4⟩
theorem Like.settled {s t : St} (h : Like s t) (keep : Nat) : Like (settledAll s keep) (settledAll t keep) := by
 obtain ⟨h1, h2, h3, h4⟩ := h
 exact ⟨by simp only [settledAll, h1, h2], rfl, h3, h4⟩
theorem Like.barErr {s t : St} (h : Like s t) : barErr s = barErr t := by
 unfold Go.Proofs.YtmelaiefbpdifaaGreatDoor.barErr
 rw [h.burns]
theorem Like.barred {s t : St} (h : Like s t) : Like (barred s) (barred t) := by
 unfold Go.Proofs.YtmelaiefbpdifaaGreatDoor.barred
 rw [h.burns]
 split
 ·exact h.burnt
 ·exact h.burnt.settled _
theorem Like.lit {s t : St} (h : Like s t) (n : Int) : Like (lit s n) (lit t (if n < 0 then -1 else n)) := by
 obtain ⟨h1, h2, h3, _⟩ := h
 refine ⟨h1, h2, h3, ?_⟩
 simp only [Go.Proofs.YtmelaiefbpdifaaGreatDoor.lit]
 split <;> omega
theorem Like.crashed {s t : St} (h : Like s t) (keep : Nat) : Like (crashed s keep) (crashed t keep) := by
 obtain ⟨h1, h2, _, _⟩ := h.settled keep
 exact ⟨h1, h2, rfl, .inl rfl⟩
theorem Like.read {s t : St} (h : Like s t) (k : Int) : readB s k = readB t k ∧ readErr s k = readErr t k := by
 obtain ⟨h1, h2, h3, _⟩ := h
 simp only [readB, readErr, h1, h2, h3, and_self]
end Go.Proofs.YtmelaiefbpdifaaGreatDoor
/- Numbers of four bytes and texts with noughts behind: the given functions of stage 4 (Number, at, fill, whole). -/
namespace Go.Proofs.YtmelaiefbpdifaaGreatDoor
open Go.RowKit
def be4 (n : Nat) : List UInt8 := [UInt8.ofNat (n / 16777216), UInt8.ofNat (n / 65536), UInt8.ofNat (n / 256), UInt8.ofNat n]
theorem be4_length (n : Nat) : (be4 n).length = 4 := rfl
theorem byteV_ofNat (n : Nat) : byteV (UInt8.ofNat n) = .int .u8 ((n % 256 : Nat) : Int) := by
 unfold byteV
 simp
def num4 (l : List UInt8) (i : Nat) : Nat := (l.getD i 0).toNat * 16777216 + (l.getD (i + 1) 0).toNat * 65536 + (l.getD (i + 2) 0).toNat * 256 + (l.getD (i + 3) 0).toNat
theorem num4_lt (l : List UInt8) (i : Nat) : num4 l i < 4294967296 := by
 have h0 := (l.getD i 0).toNat_lt
 have h1 := (l.getD (i + 1) 0).toNat_lt
 have h2 := (l.getD (i + 2) 0).toNat_lt
 have h3 := (l.getD (i + 3) 0).toNat_lt
 unfold num4
 omega
theorem num4_be4 (n : Nat) (hn : n < 4294967296) (a r : List UInt8) : num4 (a ++ (be4 n ++ r)) a.length = n := by
 have e : ∀ j, j < 4 → (a ++ (be4 n ++ r)).getD (a.length + j) 0 = (be4 n).getD j 0 := by
  intro j hj
  rw [List.getD_eq_getElem?_getD, List.getD_eq_getElem?_getD, List.getElem?_append_right (by omega), Nat.add_sub_cancel_left, List.getElem?_append_left (by rw [be4_length]; exact hj)]
 have e0 := e 0 (by decide)
 have e1 := e 1 (by decide)
 have e2 := e 2 (by decide)
 have e3 := e 3 (by decide)
 rw [Nat.add_zero] at e0
 unfold num4
 rw [e0, e1, e2, e3]
 simp [be4]
 omega
def fillL (l : List UInt8) : List UInt8 := l ++ rep (256 - l.length) 0
theorem fillL_length (l : List UInt8) (h : l.length ≤ 256) : (fillL l).length = 256 := by
 unfold fillL
 rw [List.length_append, rep_length]
 omega
theorem index_strOf {P : Program} (t : TypeId) (ht : P.underlying t = some .string) (bs : List UInt8) (i : Nat) (x : Int) (k : IntKind) (hx : x = i) (h : i < bs.length) :
  ∀ W : World, (Instr.index t (.string (strOf bs)) (.int k x)).run P W = .ok (.int .u8 (((bs.getD i 0).toNat : Nat) : Int)) W := by
 intro W
 subst hx
 have hs := strOf_size bs
 rw [run_index_string W t _ k _ ht, dif_pos ⟨by omega, by omega⟩]
 rw [List.getD_eq_getElem?_getD, List.getElem?_eq_getElem h]
 rfl
theorem from_strOf {P : Program} (t : TypeId) (ht : P.underlying t = some .string) (bs : List UInt8) (i : Nat) (x : Int) (k : IntKind) (hx : x = i) (h : i ≤ bs.length) :
  ∀ W : World, (Instr.slice t (.string (strOf bs)) (some (.int k x)) none none).run P W = .ok (.string (strOf (bs.drop i))) W := by
 intro W
 subst hx
 have hs := strOf_size bs
 rw [run_slice_string_from_if W t _ k _ ht, if_pos ⟨by omega, by omega⟩, hs]
 congr 2
 show (ByteArray.mk bs.toArray).extract _ _ = _
 rw [ByteArray.extract_mk, Int.toNat_natCast, List.take_of_length_le (by simp)]
 rfl
theorem src_be4 (w : World) (n : Nat) (x : Int) (hx : x = n) (hn : n < 4294967296) : SrcV (w.alloc (.cells #[.int .u8 (x / 16777216), .int .u8 (x / 65536 % 256), .int .u8 (x / 256 % 256), .int .u8 (x % 256)] 5)) (.slice (some ⟨w.heap.size, 0, none⟩) 4 4) 4 (byteVs (be4 n)) := by
 subst hx
 have e : byteVs (be4 n) = [.int .u8 ((n : Int) / 16777216), .int .u8 ((n : Int) / 65536 % 256), .int .u8 ((n : Int) / 256 % 256), .int .u8 ((n : Int) % 256)] := by
  unfold byteVs be4
  simp only [List.map_cons, List.map_nil, byteV_ofNat]
  congr 2
  omega
 rw [e]
 refine ⟨_, _, rfl, rfl, .inr ⟨_, rfl, fun j u hu => ?_⟩⟩
 rw [addr_add, Nat.zero_add, (Blk.new w 5 _).cell j]
 simpa using hu
theorem upto_strOf {P : Program} (t : TypeId) (ht : P.underlying t = some .string) (bs : List UInt8) (j : Nat) (y : Int) (k : IntKind) (hy : y = j) (h : j ≤ bs.length) :
  ∀ W : World, (Instr.slice t (.string (strOf bs)) none (some (.int k y)) none).run P W = .ok (.string (strOf (bs.take j))) W := by
 intro W
 subst hy
 have hs := strOf_size bs
 rw [run_slice_string_to_if W t _ k _ ht, if_pos ⟨by omega, by omega⟩]
 congr 2
 show (ByteArray.mk bs.toArray).extract _ _ = _
 rw [ByteArray.extract_mk, Int.toNat_natCast]
 simp [strOf]
end Go.Proofs.YtmelaiefbpdifaaGreatDoor
/- A scope in which the run jumps forth to one label, and does not jump again behind it: of no program. -/
namespace Go.Proofs.YtmelaiefbpdifaaGreatDoor
def Forth (P : Program) (l : Nat) (rest : Code) (Q : Exit → Act → World → Prop) : Exit → Act → World → Prop
 | .goto l', a, w => l' = l ∧ rest.wp P (Exit.noGoto Q) a w
 | e, a, w => Q e a w
section
variable {P : Program} {a : Act} {w : World} {Q : Exit → Act → World → Prop} {l : Nat} {rest : Code}
theorem Forth.normal : Forth P l rest Q .normal a w = Q .normal a w := rfl
theorem Forth.exit (id : Nat) : Forth P l rest Q (.exit id) a w = Q (.exit id) a w := rfl
theorem Forth.ret : Forth P l rest Q .ret a w = Q .ret a w := rfl
theorem Forth.panic (ch : List PanicEntry) : Forth P l rest Q (.panic ch) a w = Q (.panic ch) a w := rfl
theorem Forth.jump (h : rest.wp P (Exit.noGoto Q) a w) : Forth P l rest Q (.goto l) a w := ⟨rfl, h⟩
theorem wp_scope_forth {c : Code} (l : Nat) (hf : findLabel c l = some rest) (h : c.wp P (Forth P l rest Q) a w) : (Code.scope c).wp P Q a w := by
 intro b k cs
 have hg : gotoIn l (.inScope c :: k) = some (.code rest :: .inScope c :: k) := by simp [gotoIn, hf]
 obtain ⟨e, a1, w1, hq, harr⟩ := h b (.inScope c :: k) cs
 cases e with
 | normal => exact ⟨.normal, a1, w1, hq, .head step_scope (Steps.trans harr (.one step_inScope))⟩
 | exit id => exact ⟨.exit id, a1, w1, hq, fun k' hk => .head step_scope (harr k' (by simp [exitTo, hk]))⟩
 | goto l' =>
  obtain ⟨rfl, hr⟩ := hq
  obtain ⟨e2, a2, w2, hq2, harr2⟩ := hr b (.inScope c :: k) cs
  have hs := harr _ hg
  cases e2 with
  | normal => exact ⟨.normal, a2, w2, hq2, .head step_scope (Steps.trans hs (Steps.trans harr2 (.one step_inScope)))⟩
  | exit id => exact ⟨.exit id, a2, w2, hq2, fun k' hk => .head step_scope (Steps.trans hs (harr2 k' (by simp [exitTo, hk])))⟩
  | goto l' => exact hq2.elim
  | ret => exact ⟨_, a2, w2, hq2, .of_steps (.head step_scope hs) harr2⟩
  | panic ch => exact ⟨_, a2, w2, hq2, .of_steps (.head step_scope hs) harr2⟩
  | outgrown => exact ⟨_, a2, w2, hq2, .of_steps (.head step_scope hs) harr2⟩
 | ret => exact ⟨_, a1, w1, hq, .of_steps (.one step_scope) harr⟩
 | panic ch => exact ⟨_, a1, w1, hq, .of_steps (.one step_scope) harr⟩
 | outgrown => exact ⟨_, a1, w1, hq, .of_steps (.one step_scope) harr⟩
end
end Go.Proofs.YtmelaiefbpdifaaGreatDoor
/- Package xdr, as far as stage 4 calls it: a writer's numbers and bytes, a reader's numbers. -/
namespace Go.Proofs.YtmelaiefbpdifaaGreatDoor
open Go.RowKit
def decB (a b c d : UInt8) : Nat := a.toNat * 16777216 + b.toNat * 65536 + c.toNat * 256 + d.toNat
theorem decB_lt (a b c d : UInt8) : decB a b c d < 4294967296 := by
 have := a.toNat_lt; have := b.toNat_lt; have := c.toNat_lt; have := d.toNat_lt
 unfold decB; omega
def hd4 : List UInt8 → Nat
 | a :: b :: c :: d :: _ => decB a b c d
 | _ => 0
theorem hd4_lt (l : List UInt8) : hd4 l < 4294967296 := by
 unfold hd4
 split
 ·exact decB_lt _ _ _ _
 ·omega
theorem four (l : List UInt8) (h : 4 ≤ l.length) : ∃ a b c d r, l = a :: b :: c :: d :: r := by
 match l, h with
 | a :: b :: c :: d :: r, _ => exact ⟨a, b, c, d, r, rfl⟩
def rNumber (bs : List UInt8) (err : Nat) : Nat × List UInt8 × Nat :=
 if err ≠ 0 then (0, bs, err) else if bs.length < 4 then (0, bs, 2) else (hd4 bs, bs.drop 4, 0)
theorem info_u8 : (Tryz.prog.info? 5).map (fun i => (i.zero, i.size, i.bytes)) = some (some (.int .u8 0), 1, 1) := by kernel_rfl
def Wr (w : World) (p : Nat) (F : List Nat) (bs : List UInt8) : Prop :=
 ∃ v, Blk w p 249 #[v] ∧ w.ownsRow 0 5 1 v bs.length (byteVs bs) ∧ v.ownBlock ≠ some p ∧ ∀ k, v.ownBlock = some k → k ∈ F
def Wrote (w w' : World) (p : Nat) (F : List Nat) (bs : List UInt8) : Prop :=
 ∃ F', Wr w' p F' bs ∧ Only (p :: F) w w' ∧ ∀ k ∈ F', k ∈ F ∨ w.heap.size ≤ k
def Gives (R : World → Prop) (e : Ending) (w' : World) : Prop := e = .returned (.tuple #[]) ∧ R w'
theorem Wr.lt {w : World} {p : Nat} {F : List Nat} {bs : List UInt8} (h : Wr w p F bs) : p < w.heap.size := by
 obtain ⟨v, h1, _⟩ := h
 exact h1.lt
theorem Wr.kept {S : List Nat} {w w' : World} {p : Nat} {F : List Nat} {bs : List UInt8} (h : Wr w p F bs) (k : Only S w w') (hp : p ∉ S) (hF : ∀ i ∈ F, i ∉ S) : Wr w' p F bs := by
 obtain ⟨v, h1, h2, h3, h4⟩ := h
 exact ⟨v, h1.kept k hp, ownsRow_kept h2 k (fun g hg => hF g (h4 g hg)), h3, h4⟩
theorem Wrote.from {w w0 w' : World} {p : Nat} {F : List Nat} {bs : List UInt8} (k : Only [] w w0) (h : Wrote w0 w' p F bs) : Wrote w w' p F bs := by
 obtain ⟨F', h1, h2, h3⟩ := h
 refine ⟨F', h1, (k.more (T := p :: F) (by simp)).then h2 (fun _ hi => .inl hi), fun i hi => (h3 i hi).imp id (fun h => Nat.le_trans k.size h)⟩
theorem Wrote.join {w w1 w2 : World} {p : Nat} {F F1 : List Nat} {bs : List UInt8} (k : Only (p :: F) w w1) (hF : ∀ i ∈ F1, i ∈ F ∨ w.heap.size ≤ i) (h : Wrote w1 w2 p F1 bs) : Wrote w w2 p F bs := by
 obtain ⟨F2, h1, h2, h3⟩ := h
 refine ⟨F2, h1, k.then h2 (fun i hi => ?_), fun i hi => ?_⟩
 ·rcases List.mem_cons.1 hi with rfl | hi
  ·exact .inl (by simp)
  ·exact (hF i hi).imp (fun h => by simp [h]) id
 ·rcases h3 i hi with h | h
  ·exact hF i h
  ·exact .inr (Nat.le_trans k.size h)
theorem put_done {w w1 : World} {p : Nat} {F : List Nat} {bs l : List UInt8} {old v' : Value} (hb : Blk w p 249 #[old]) (hne : old.ownBlock ≠ some p) (hF : ∀ k, old.ownBlock = some k → k ∈ F)
  (hown1 : w1.ownsRow 0 5 1 v' (bs.length + l.length) (byteVs bs ++ byteVs l)) (hg : w.grownBy w1 old.ownBlock) (hat : v'.ownBlock = old.ownBlock ∨ v'.ownBlock = some w.heap.size) :
  Wrote w (w1.setCell ⟨p, 0, none⟩ v') p F (bs ++ l) := by
 have hb1 : Blk w1 p 249 #[old] := (hg.block p hb.lt (fun e => hne e.symm)).trans hb
 have hv : v'.ownBlock ≠ some p := by
  rcases hat with h | h
  ·rw [h]; exact hne
  ·rw [h]; intro e; injection e with e; have := hb.lt; omega
 refine ⟨v'.ownBlock.toList, ⟨v', by simpa using hb1.set 0 v', ?_, hv, fun k hk => by simp [hk]⟩, ?_, fun k hk => ?_⟩
 ·rw [List.length_append, byteVs_append]
  exact ownsRow_far hown1 hv _
 ·exact ((Only.refl (p :: F) w).grown hg (fun k hk => .inl (by simp [hF k hk]))).setCell (.inl (by simp)) _
 ·have hk' : v'.ownBlock = some k := by simpa using hk
  rcases hat with h | h
  ·exact .inl (hF k (by rw [← h]; exact hk'))
  ·rw [h] at hk'
   injection hk' with hk'
   exact .inr (by omega)
set_option maxHeartbeats 400000 in
theorem put_any (w : World) (p : Nat) (F : List Nat) (bs : List UInt8) (x : Value) (l : List UInt8) (hw : Wr w p F bs) (hx : SrcV w x l.length (byteVs l)) (hlen : bs.length + l.length ≤ 1048576) :
  Calls Tryz.prog 195 #[.pointer (some ⟨p, 0, none⟩), x] w (Gives (fun w' => Wrote w w' p F (bs ++ l))) := by
 obtain ⟨v, hb, hown, hne, hF⟩ := hw
 obtain ⟨A, c, rfl⟩ := ownsRow_slice hown
 obtain ⟨A', c', rfl, hrest⟩ := id hx
 have hcell := hb.cell 0
 simp only [List.getElem?_toArray, List.getElem?_cons_zero] at hcell
 go_enter Tryz.func195, Tryz.ntmps195
 go_wp2_with (at_builtin; refine wpList_append_src _ rfl (.tmp 10) (.tmp 11) 103 rfl 5 (.int .u8 0) 1 Tryz.underlying103 info_u8 rfl (.slice A bs.length c) bs.length (byteVs bs) rfl hown (.slice A' l.length c') l.length (byteVs l) rfl hx (byteVs_one l) ?c1 ?c2 ?go)
 case c1 => unfold maxLen; omega
 case c2 => omega
 case go =>
  intro v' w1 hown1 hg hat
  have hdone := Lib.hid (put_done hb hne hF hown1 hg hat)
  obtain ⟨A1, c1, rfl⟩ := ownsRow_slice hown1
  have hb1 : Blk w1 p 249 #[.slice A bs.length c] := (hg.block p hb.lt (fun e => hne e.symm)).trans hb
  have k0 := hb1.cell 0
  simp only [List.getElem?_toArray, List.getElem?_cons_zero] at k0
  have k1 := hb1.free 0
  clear hat hF hne hrest hx
  go_wp2
  go_end0
  exact ⟨rfl, hdone.out⟩
theorem wnumber_any (w : World) (p : Nat) (F : List Nat) (bs : List UInt8) (x : Int) (n : Nat) (hx : x = n) (hn : n < 4294967296) (hw : Wr w p F bs) (hlen : bs.length + 4 ≤ 1048576) :
  Calls Tryz.prog 143 #[.pointer (some ⟨p, 0, none⟩), .int .u32 x] w (Gives (fun w' => Wrote w w' p F (bs ++ be4 n))) := by
 have h0 : 0 ≤ x := by omega
 have h1 : x < 4294967296 := by omega
 have hs := Lib.hid (src_be4 w n x hx hn)
 clear hx
 go_enter Tryz.func143, Tryz.ntmps143
 go_wp2_with fail
 refine (put_any _ p F bs _ (be4 n) (hw.kept ((Only.refl [] w).alloc _) (by simp) (by simp)) hs.out hlen).mono ?_
 rintro e w1 ⟨rfl, hw1⟩
 go_wp2
 go_end0
 exact ⟨rfl, hw1.from ((Only.refl [] w).alloc _)⟩
theorem bytes_any (w : World) (p : Nat) (F : List Nat) (bs : List UInt8) (hw : Wr w p F bs) :
  Calls Tryz.prog 145 #[.pointer (some ⟨p, 0, none⟩)] w fun e w' => e = .returned (.string (strOf bs)) ∧ w = w' := by
 obtain ⟨v, hb, hown, hne, hF⟩ := hw
 obtain ⟨A, c, rfl⟩ := ownsRow_slice hown
 have hcell := hb.cell 0
 simp only [List.getElem?_toArray, List.getElem?_cons_zero] at hcell
 have hsrc := ownsRow_src hown
 go_enter Tryz.func145, Tryz.ntmps145
 go_wp2_with (refine wpList_to_string _ rfl 103 9 5 (.tmp 8) rfl Tryz.underlying103 Tryz.underlying5 Tryz.underlying9 A bs.length c bs rfl hsrc ?_)
 go_ret
 exact ⟨rfl, rfl⟩
theorem u32_join (i : Nat) (x y : Int) (hx0 : 0 ≤ x) (hx : x % 2 ^ i = 0) (hx1 : x < 4294967296) (hy0 : 0 ≤ y) (hy : y < 2 ^ i) (hy1 : y < 4294967296) : bits .or .u32 x y = x + y :=
 bits_join .u32 32 (by decide) (fun n h0 h1 => by rw [IntKind.wrap_u32]; omega) i x y hx0 hx (by omega) hy0 hy (by omega)
theorem number_bits (a b c d : UInt8) : bits .or .u32 (bits .or .u32 (bits .or .u32 ((a.toNat : Int) * 16777216) ((b.toNat : Int) * 65536)) ((c.toNat : Int) * 256)) (d.toNat : Int) = (decB a b c d : Nat) := by
 have := a.toNat_lt; have := b.toNat_lt; have := c.toNat_lt; have := d.toNat_lt
 rw [u32_join 24 ((a.toNat : Int) * 16777216) _ (by omega) (by omega) (by omega) (by omega) (by omega) (by omega),
  u32_join 16 ((a.toNat : Int) * 16777216 + (b.toNat : Int) * 65536) _ (by omega) (by omega) (by omega) (by omega) (by omega) (by omega),
  u32_join 8 ((a.toNat : Int) * 16777216 + (b.toNat : Int) * 65536 + (c.toNat : Int) * 256) _ (by omega) (by omega) (by omega) (by omega) (by omega) (by omega)]
 unfold decB
 omega
theorem number_cells (w : World) (g o n c : Nat) (a0 a1 a2 a3 : UInt8) (h0 : w.cell? ⟨g, o, none⟩ = some (.int .u8 (a0.toNat : Int))) (h1 : w.cell? ⟨g, o + 1, none⟩ = some (.int .u8 (a1.toNat : Int)))
  (h2 : w.cell? ⟨g, o + 2, none⟩ = some (.int .u8 (a2.toNat : Int))) (h3 : w.cell? ⟨g, o + 3, none⟩ = some (.int .u8 (a3.toNat : Int))) (hn : 4 ≤ n) :
  Calls Tryz.prog 166 #[.slice (some ⟨g, o, none⟩) n c] w fun e w' => e = .returned (.int .u32 (decB a0 a1 a2 a3 : Nat)) ∧ ∃ m, w' = w.drewN m := by
 have b0 : (a0.toNat : Int) < 256 := by have := a0.toNat_lt; omega
 have b1 : (a1.toNat : Int) < 256 := by have := a1.toNat_lt; omega
 have b2 : (a2.toNat : Int) < 256 := by have := a2.toNat_lt; omega
 have b3 : (a3.toNat : Int) < 256 := by have := a3.toNat_lt; omega
 have hn' : (4 : Int) ≤ n := by omega
 rw [← number_bits]
 go_enter Tryz.func166, Tryz.ntmps166
 go_wp2
 go_quiet (fail)
 go_wp2
 go_ret
 exact ⟨rfl, _, rfl⟩
theorem number_any (w : World) (g o n c : Nat) (l : List UInt8) (hb : BytesAt w g o l) (hl : 4 ≤ l.length) (hn : 4 ≤ n) :
  Calls Tryz.prog 166 #[.slice (some ⟨g, o, none⟩) n c] w fun e w' => e = .returned (.int .u32 (hd4 l : Nat)) ∧ ∃ m, w' = w.drewN m := by
 obtain ⟨a0, a1, a2, a3, r, rfl⟩ := four l hl
 have h0 := hb 0 (by simp)
 have h1 := hb 1 (by simp)
 have h2 := hb 2 (by simp)
 have h3 := hb 3 (by simp)
 exact number_cells w g o n c a0 a1 a2 a3 h0 h1 h2 h3 hn
structure RdAt (w : World) (p g o c : Nat) (bs : List UInt8) (err : Nat) : Prop where
 blk : Blk w p 262 #[.slice (some ⟨g, o, none⟩) bs.length c, .int .i64 (err : Int)]
 ne : g ≠ p
 le : bs.length ≤ c
 max : c ≤ maxLen
 bytes : BytesAt w g o bs
def Rd (w : World) (p g : Nat) (bs : List UInt8) (err : Nat) : Prop := ∃ o c, RdAt w p g o c bs err
theorem RdAt.kept {S : List Nat} {w w' : World} {p g o c : Nat} {bs : List UInt8} {err : Nat} (h : RdAt w p g o c bs err) (k : Only S w w') (hp : p ∉ S) (hg : g ∉ S) : RdAt w' p g o c bs err :=
 ⟨h.blk.kept k hp, h.ne, h.le, h.max, h.bytes.kept k hg⟩
theorem Rd.kept {S : List Nat} {w w' : World} {p g : Nat} {bs : List UInt8} {err : Nat} (h : Rd w p g bs err) (k : Only S w w') (hp : p ∉ S) (hg : g ∉ S) : Rd w' p g bs err := by
 obtain ⟨o, c, h⟩ := h
 exact ⟨o, c, h.kept k hp hg⟩
theorem RdAt.drewN {w : World} {p g o c : Nat} {bs : List UInt8} {err : Nat} (h : RdAt w p g o c bs err) (m : Nat) : RdAt (w.drewN m) p g o c bs err := ⟨h.blk, h.ne, h.le, h.max, h.bytes⟩
theorem Rd.drewN {w : World} {p g : Nat} {bs : List UInt8} {err : Nat} (h : Rd w p g bs err) (m : Nat) : Rd (w.drewN m) p g bs err := by
 obtain ⟨o, c, h⟩ := h
 exact ⟨o, c, h.drewN m⟩
theorem RdAt.c0 {w : World} {p g o c : Nat} {bs : List UInt8} {err : Nat} (h : RdAt w p g o c bs err) : w.cell? ⟨p, 0, none⟩ = some (.slice (some ⟨g, o, none⟩) bs.length c) := by simpa using h.blk.cell 0
theorem RdAt.c1 {w : World} {p g o c : Nat} {bs : List UInt8} {err : Nat} (h : RdAt w p g o c bs err) : w.cell? ⟨p, 1, none⟩ = some (.int .i64 (err : Int)) := by simpa using h.blk.cell 1
theorem err_any (w : World) (p g o c : Nat) (bs : List UInt8) (err : Nat) (h : RdAt w p g o c bs err) :
  Calls Tryz.prog 135 #[.pointer (some ⟨p, 0, none⟩)] w fun e w' => e = .returned (.int .i64 (err : Int)) ∧ w = w' := by
 have h1 := h.c1
 go_enter Tryz.func135, Tryz.ntmps135
 go_wp2
 go_ret
 exact ⟨rfl, rfl⟩
theorem fail_any (w : World) (p g : Nat) (bs : List UInt8) (err e' : Nat) (h : Rd w p g bs err) :
  Calls Tryz.prog 167 #[.pointer (some ⟨p, 0, none⟩), .int .i64 (e' : Int)] w fun e w' => e = .returned (.tuple #[]) ∧ Rd w' p g bs e' ∧ Only [p] w w' := by
 obtain ⟨o, c, h⟩ := h
 have h1 := h.c1
 have f1 := h.blk.free 1
 have hdone : Rd (w.setCell ⟨p, 1, none⟩ (.int .i64 (e' : Int))) p g bs e' ∧ Only [p] w (w.setCell ⟨p, 1, none⟩ (.int .i64 (e' : Int))) := by
  have k : Only [p] w (w.setCell ⟨p, 1, none⟩ (.int .i64 (e' : Int))) := (Only.refl [p] w).setCell (.inl (by simp)) _
  exact ⟨⟨o, c, by simpa using h.blk.set 1 (.int .i64 (e' : Int)), h.ne, h.le, h.max, h.bytes.kept k (by simpa using h.ne)⟩, k⟩
 have H := Lib.hid hdone
 clear hdone
 go_enter Tryz.func167, Tryz.ntmps167
 go_wp2
 go_end0
 exact ⟨rfl, H.out⟩
theorem consume_done {w : World} {p g o c n : Nat} {bs : List UInt8} {err : Nat} (h : RdAt w p g o c bs err) (o' : Nat) (ho : n < c → o' = o + n) :
  Rd (w.setCell ⟨p, 0, none⟩ (.slice (some ⟨g, o', none⟩) (bs.length - n) (c - n))) p g (bs.drop n) err ∧ Only [p] w (w.setCell ⟨p, 0, none⟩ (.slice (some ⟨g, o', none⟩) (bs.length - n) (c - n))) := by
 have k : Only [p] w (w.setCell ⟨p, 0, none⟩ (.slice (some ⟨g, o', none⟩) (bs.length - n) (c - n))) := (Only.refl [p] w).setCell (.inl (by simp)) _
 refine ⟨⟨o', c - n, by simpa using h.blk.set 0 (.slice (some ⟨g, o', none⟩) (bs.length - n) (c - n)), h.ne, by have := h.le; simp; omega, by have := h.max; omega, ?_⟩, k⟩
 by_cases hc : n < c
 ·obtain rfl := ho hc
  exact (h.bytes.kept k (by simpa using h.ne)).drop n
 ·have := h.le
  rw [List.drop_of_length_le (by omega)]
  exact BytesAt.nil _ _ _
theorem consume_any (w : World) (p g o c : Nat) (bs : List UInt8) (err : Nat) (A : Option Addr) (n c' : Nat) (h : RdAt w p g o c bs err) (hn : n ≤ bs.length) :
  Calls Tryz.prog 165 #[.pointer (some ⟨p, 0, none⟩), .slice A n c'] w fun e w' => e = .returned (.tuple #[]) ∧ Rd w' p g (bs.drop n) err ∧ Only [p] w w' := by
 have h0 := h.c0
 have f0 := h.blk.free 0
 have hm := h.max
 have hle := h.le
 unfold maxLen at hm
 have H1 := Lib.hid (consume_done (n := n) h (o + n) (fun _ => rfl))
 have H2 := Lib.hid (consume_done (n := n) (o' := o) h)
 clear h
 go_enter Tryz.func165, Tryz.ntmps165
 go_wp2
 ·have hcn : c = n := by assumption
  have h2 := H2.out (by intro h; omega)
  rw [show c - n = 0 by omega] at h2
  go_end0
  exact ⟨rfl, h2⟩
 ·go_end0
  exact ⟨rfl, H1.out⟩
attribute [local go_sem] Forth.normal Forth.exit Forth.ret Forth.panic
theorem next_err (w : World) (p g o c : Nat) (bs : List UInt8) (err : Nat) (n : Int) (h : RdAt w p g o c bs err) (he : err ≠ 0) :
  Calls Tryz.prog 164 #[.pointer (some ⟨p, 0, none⟩), .int .u64 n] w fun e w' => e = .returned (.tuple #[.slice none 0 0, .int .i64 (err : Int)]) ∧ w = w' := by
 have he' : ((err : Int) != 0) = true := by simp; omega
 go_enter Tryz.func164, Tryz.ntmps164
 go_wp2_with fail
 refine wp_scope_forth 0 rfl ?_
 go_wp2_with fail
 refine (err_any _ p g o c bs err h).mono ?_
 rintro e w1 ⟨rfl, rfl⟩
 go_wp2_with fail
 go_step3
 refine ⟨rfl, ?_⟩
 go_wp2
 rw [Exit.noGoto_ret]
 go_ret2
 exact ⟨rfl, rfl⟩
theorem next_short (w : World) (p g o c : Nat) (bs : List UInt8) (n : Int) (h : RdAt w p g o c bs 0) (hn : (bs.length : Int) < n) :
  Calls Tryz.prog 164 #[.pointer (some ⟨p, 0, none⟩), .int .u64 n] w fun e w' => e = .returned (.tuple #[.slice none 0 0, .int .i64 2]) ∧ w = w' := by
 have h0 := h.c0
 have hm := h.max
 have hle := h.le
 have hl : bs.length ≤ 9223372036854775807 := by unfold maxLen at hm; omega
 clear hm hle
 go_enter Tryz.func164, Tryz.ntmps164
 go_wp2_with fail
 refine wp_scope_forth 0 rfl ?_
 go_wp2_with fail
 refine (err_any _ p g o c bs 0 h).mono ?_
 rintro e w1 ⟨rfl, rfl⟩
 go_wp2_with fail
 go_step3
 refine ⟨rfl, ?_⟩
 go_wp2
 rw [Exit.noGoto_ret]
 go_ret2
 exact ⟨rfl, rfl⟩
theorem next_ok (w : World) (p g o c : Nat) (bs : List UInt8) (x : Int) (n : Nat) (hx : x = n) (h : RdAt w p g o c bs 0) (hn : n ≤ bs.length) :
  Calls Tryz.prog 164 #[.pointer (some ⟨p, 0, none⟩), .int .u64 x] w fun e w' => e = .returned (.tuple #[.slice (some ⟨g, o, none⟩) n c, .int .i64 0]) ∧ w = w' := by
 have h0 := h.c0
 have hm := h.max
 have hle := h.le
 have hl : bs.length ≤ 9223372036854775807 := by unfold maxLen at hm; omega
 subst hx
 clear hm
 go_enter Tryz.func164, Tryz.ntmps164
 go_wp2_with fail
 refine wp_scope_forth 0 rfl ?_
 go_wp2_with fail
 refine (err_any _ p g o c bs 0 h).mono ?_
 rintro e w1 ⟨rfl, rfl⟩
 go_wp2_with fail
 rw [Forth.ret]
 go_ret2
 exact ⟨rfl, rfl⟩
def lackE (err : Nat) : Nat := if err = 0 then 2 else err
theorem lackE_ne (err : Nat) : lackE err ≠ 0 := by unfold lackE; split <;> omega
theorem next_fail (w : World) (p g o c : Nat) (bs : List UInt8) (err : Nat) (n : Int) (h : RdAt w p g o c bs err) (hn : err ≠ 0 ∨ (bs.length : Int) < n) :
  Calls Tryz.prog 164 #[.pointer (some ⟨p, 0, none⟩), .int .u64 n] w fun e w' => e = .returned (.tuple #[.slice none 0 0, .int .i64 (lackE err : Nat)]) ∧ w = w' := by
 by_cases he : err = 0
 ·subst he
  exact next_short w p g o c bs n h (hn.resolve_left (by simp))
 ·have := next_err w p g o c bs err n h he
  unfold lackE
  rw [if_neg he]
  exact this
def Took (w : World) (p g : Nat) (v : Value) (bs : List UInt8) (err : Nat) (e : Ending) (w' : World) : Prop := e = .returned v ∧ Rd w' p g bs err ∧ Only [p] w w'
theorem number_fail (w : World) (p g o c : Nat) (bs : List UInt8) (err : Nat) (h : RdAt w p g o c bs err) (hn : err ≠ 0 ∨ (bs.length : Int) < 4) :
  Calls Tryz.prog 118 #[.pointer (some ⟨p, 0, none⟩)] w (Took w p g (.int .u32 0) bs (lackE err)) := by
 have hne : (((lackE err : Nat) : Int) != 0) = true := by have := lackE_ne err; simp; omega
 go_enter Tryz.func118, Tryz.ntmps118
 go_wp2_with fail
 refine wp_scope_forth 0 rfl ?_
 go_wp2_with fail
 refine (next_fail _ p g o c bs err _ h hn).mono ?_
 rintro e w1 ⟨rfl, rfl⟩
 go_wp2_with fail
 go_step3
 refine ⟨rfl, ?_⟩
 go_wp2_with fail
 refine (fail_any _ p g bs err _ ⟨o, c, h⟩).mono ?_
 rintro e w1 ⟨rfl, h1, k1⟩
 go_wp2
 rw [Exit.noGoto_ret]
 go_ret
 exact ⟨rfl, h1, k1⟩
theorem number_ok (w : World) (p g o c : Nat) (bs : List UInt8) (h : RdAt w p g o c bs 0) (hn : 4 ≤ bs.length) :
  Calls Tryz.prog 118 #[.pointer (some ⟨p, 0, none⟩)] w (Took w p g (.int .u32 (hd4 bs : Nat)) (bs.drop 4) 0) := by
 go_enter Tryz.func118, Tryz.ntmps118
 go_wp2_with fail
 refine wp_scope_forth 0 rfl ?_
 go_wp2_with fail
 refine (next_ok _ p g o c bs _ 4 rfl h hn).mono ?_
 rintro e w1 ⟨rfl, rfl⟩
 go_wp2_with fail
 refine (consume_any _ p g o c bs 0 _ 4 c h hn).mono ?_
 rintro e w1 ⟨rfl, h1, k1⟩
 have hb := h.bytes.kept k1 (by simpa using h.ne)
 go_wp2_with fail
 refine (number_any _ g o 4 c bs hb hn (Nat.le_refl _)).mono ?_
 rintro e w2 ⟨rfl, m, rfl⟩
 go_wp2
 rw [Forth.ret]
 go_ret
 exact ⟨rfl, h1.drewN m, k1.drewN m⟩
theorem rnum_any (w : World) (p g : Nat) (bs : List UInt8) (err : Nat) (h : Rd w p g bs err) :
  Calls Tryz.prog 118 #[.pointer (some ⟨p, 0, none⟩)] w (Took w p g (.int .u32 ((rNumber bs err).1 : Int)) (rNumber bs err).2.1 (rNumber bs err).2.2) := by
 obtain ⟨o, c, h⟩ := h
 unfold rNumber
 by_cases he : err ≠ 0
 ·rw [if_pos he]
  have := number_fail w p g o c bs err h (.inl he)
  rwa [show lackE err = err by unfold lackE; rw [if_neg he]] at this
 ·rw [if_neg he]
  have he0 : err = 0 := by omega
  subst he0
  by_cases hl : bs.length < 4
  ·rw [if_pos hl]
   exact number_fail w p g o c bs 0 h (.inr (by omega))
  ·rw [if_neg hl]
   exact number_ok w p g o c bs h (by omega)
def NewRd2 (w : World) (bs : List UInt8) (e : Ending) (w' : World) : Prop :=
 ∃ p g, e = .returned (.pointer (some ⟨p, 0, none⟩)) ∧ Rd w' p g bs 0 ∧ w.heap.size ≤ p ∧ w.heap.size ≤ g ∧ Only [] w w' ∧ g < w'.heap.size
theorem newReader_two (w : World) (s : ByteArray) (hs : s.size ≤ 140737488351232) :
  Calls Tryz.prog 116 #[.string s] w (NewRd2 w s.data.toList) := by
 have hl : s.data.toList.length = s.size := by simp
 have HL := Lib.hid hl
 clear hl
 go_enter Tryz.func116, Tryz.ntmps116
 go_wp2_with (refine wpList_to_bytes _ rfl 9 103 5 (.tmp 3) rfl Tryz.underlying9 Tryz.underlying103 Tryz.underlying5 s rfl (by unfold maxLen; omega) ?_; intro w2 c k2 hc1 hc2 hb2 hlt2)
 go_ret
 have hlen := HL.out
 have hnew := Blk.new w2 262 #[.slice (some ⟨w.heap.size, 0, none⟩) s.size c, .int .i64 0]
 refine ⟨w2.heap.size, w.heap.size, rfl, ⟨0, c, ⟨by rw [hlen]; exact hnew, by omega, by rw [hlen]; exact hc1, hc2, hb2.kept ((Only.refl [] w2).alloc _) (by simp)⟩⟩, k2.size, Nat.le_refl _, k2.alloc _, by simp; omega⟩
end Go.Proofs.YtmelaiefbpdifaaGreatDoor
/- Package xdr's texts: a writer's Text; a reader's Text, Left, Err; and what they say of bytes. (Out of stage 2's texts.) -/
namespace Go.Proofs.YtmelaiefbpdifaaGreatDoor
open Go.RowKit
attribute [local go_sem] Forth.normal Forth.exit Forth.ret Forth.panic
theorem size_u8 : ∀ w, (Go.sizeOf 5).run Tryz.prog w = .ok 1 w := fun _ => by kernel_rfl
def padN (n : Nat) : Nat := (4 - n % 4) % 4
def zeros (n : Nat) : List UInt8 := List.replicate n 0
def encT (s : List UInt8) : List UInt8 := be4 s.length ++ (s ++ zeros (padN s.length))
theorem encT_length (l : List UInt8) : (encT l).length = 4 + l.length + padN l.length := by simp [encT, be4_length, zeros]; omega
def rText (most : Int) (bs : List UInt8) (err : Nat) : List UInt8 × List UInt8 × Nat :=
 if err ≠ 0 then ([], bs, err) else if bs.length < 4 then ([], bs, 2) else if most < (hd4 bs : Int) then ([], bs, 4)
 else if bs.length < 4 + hd4 bs + padN (hd4 bs) then ([], bs, 2) else if ((bs.drop (4 + hd4 bs)).take (padN (hd4 bs))).any (· != 0) then ([], bs, 3)
 else ((bs.drop 4).take (hd4 bs), bs.drop (4 + hd4 bs + padN (hd4 bs)), 0)
theorem hd4_be4 (n : Nat) (r : List UInt8) (h : n < 4294967296) : hd4 (be4 n ++ r) = n := by
 show decB (UInt8.ofNat (n / 16777216)) (UInt8.ofNat (n / 65536)) (UInt8.ofNat (n / 256)) (UInt8.ofNat n) = n
 unfold decB
 simp
 omega
theorem be4_hd4 (bs : List UInt8) (h : 4 ≤ bs.length) : be4 (hd4 bs) ++ bs.drop 4 = bs := by
 obtain ⟨a, b, c, d, r, rfl⟩ := four bs h
 have h0 := a.toNat_lt; have h1 := b.toNat_lt; have h2 := c.toNat_lt; have h3 := d.toNat_lt
 have e : ∀ (x : UInt8) (n : Nat), n % 256 = x.toNat → UInt8.ofNat n = x := fun x n hn => by
  apply UInt8.toNat_inj.1
  simpa using hn
 show UInt8.ofNat (decB a b c d / 16777216) :: UInt8.ofNat (decB a b c d / 65536) :: UInt8.ofNat (decB a b c d / 256) :: UInt8.ofNat (decB a b c d) :: r = _
 unfold decB
 rw [e a _ (by omega), e b _ (by omega), e c _ (by omega), e d _ (by omega)]
theorem rNumber_be4 (n : Nat) (r : List UInt8) (h : n < 4294967296) : rNumber (be4 n ++ r) 0 = (n, r, 0) := by
 unfold rNumber
 rw [if_neg (by simp), if_neg (by simp [be4_length]), hd4_be4 n r h]
 rfl
theorem take_append_len {l r : List UInt8} {n : Nat} (h : l.length = n) : (l ++ r).take n = l := by rw [← h]; exact List.take_left
theorem drop_append_len {l r : List UInt8} {n : Nat} (h : l.length = n) : (l ++ r).drop n = r := by rw [← h]; exact List.drop_left
theorem zeros_any (n : Nat) : (zeros n).any (· != 0) = false := by
 unfold zeros
 simp
theorem rText_encT (most : Int) (s r : List UInt8) (hm : (s.length : Int) ≤ most) (h : s.length < 4294967296) : rText most (encT s ++ r) 0 = (s, r, 0) := by
 have hd : hd4 (encT s ++ r) = s.length := by unfold encT; rw [List.append_assoc]; exact hd4_be4 _ _ h
 have hl := encT_length s
 have e1 : (encT s ++ r).drop 4 = (s ++ zeros (padN s.length)) ++ r := by unfold encT; rw [List.append_assoc]; exact drop_append_len (be4_length _)
 have e2 : (encT s ++ r).drop (4 + s.length) = zeros (padN s.length) ++ r := by rw [← List.drop_drop, e1, List.append_assoc]; exact drop_append_len rfl
 unfold rText
 rw [if_neg (by simp), if_neg (by rw [List.length_append]; omega), hd, if_neg (by omega), if_neg (by rw [List.length_append]; omega), e2, take_append_len (by simp [zeros]), zeros_any, if_neg (by simp), e1, List.append_assoc, take_append_len rfl]
 rw [show (encT s ++ r).drop (4 + s.length + padN s.length) = r from drop_append_len (by omega)]
theorem all_zero (l : List UInt8) (h : l.any (· != 0) = false) : l = zeros l.length := by
 apply List.ext_getElem
 ·simp [zeros]
 ·intro j h1 h2
  have := List.any_eq_false.1 h l[j] (List.getElem_mem h1)
  simp [zeros] at this ⊢
  exact this
theorem rText_one (most : Int) (bs : List UInt8) (h : (rText most bs 0).2.2 = 0) : encT (rText most bs 0).1 ++ (rText most bs 0).2.1 = bs ∧ ((rText most bs 0).1.length : Int) ≤ most := by
 unfold rText at *
 rw [if_neg (by simp)] at *
 by_cases h4 : bs.length < 4
 ·rw [if_pos h4] at h; simp at h
 rw [if_neg h4] at *
 by_cases h1 : most < (hd4 bs : Int)
 ·rw [if_pos h1] at h; simp at h
 rw [if_neg h1] at *
 by_cases h2 : bs.length < 4 + hd4 bs + padN (hd4 bs)
 ·rw [if_pos h2] at h; simp at h
 rw [if_neg h2] at *
 by_cases h3 : ((bs.drop (4 + hd4 bs)).take (padN (hd4 bs))).any (· != 0) = true
 ·rw [if_pos h3] at h; simp at h
 rw [if_neg h3]
 simp only
 have hz := all_zero _ (by simpa using h3)
 have hzl : ((bs.drop (4 + hd4 bs)).take (padN (hd4 bs))).length = padN (hd4 bs) := by simp; omega
 rw [hzl] at hz
 have hl : ((bs.drop 4).take (hd4 bs)).length = hd4 bs := by simp; omega
 refine ⟨?_, by rw [hl]; omega⟩
 unfold encT
 rw [hl, ← hz, List.append_assoc, List.append_assoc]
 have e1 : (bs.drop (4 + hd4 bs)).take (padN (hd4 bs)) ++ bs.drop (4 + hd4 bs + padN (hd4 bs)) = bs.drop (4 + hd4 bs) := by
  rw [show bs.drop (4 + hd4 bs + padN (hd4 bs)) = (bs.drop (4 + hd4 bs)).drop (padN (hd4 bs)) by rw [List.drop_drop], List.take_append_drop]
 rw [e1]
 have e2 : (bs.drop 4).take (hd4 bs) ++ bs.drop (4 + hd4 bs) = bs.drop 4 := by
  rw [show bs.drop (4 + hd4 bs) = (bs.drop 4).drop (hd4 bs) by rw [List.drop_drop], List.take_append_drop]
 rw [e2]
 exact be4_hd4 bs (by omega)
theorem rText_err (m : Int) (b : List UInt8) (e : Nat) (h : e ≠ 0) : rText m b e = ([], b, e) := by unfold rText; rw [if_pos h]
theorem rText_len (m : Int) (bs : List UInt8) (e : Nat) : (rText m bs e).2.1.length ≤ bs.length := by
 unfold rText
 repeat' split
 all_goals simp
theorem padN_lt (n : Nat) : padN n < 4 := by unfold padN; omega
theorem padding_any (w : World) (x : Int) (n : Nat) (hx : x = n) (hn : n < 18446744073709551616) :
  Calls Tryz.prog 169 #[.int .u64 x] w fun e w' => e = .returned (.int .u64 (padN n : Nat)) ∧ w = w' := by
 have h0 : 0 ≤ x := by omega
 have h1 : x < 18446744073709551616 := by omega
 have e : ((padN n : Nat) : Int) = (4 - x % 4) % 4 := by unfold padN; omega
 rw [e]
 clear e hx
 go_enter Tryz.func169, Tryz.ntmps169
 go_wp2
 go_ret
 exact ⟨rfl, rfl⟩
set_option maxHeartbeats 400000 in
theorem wtext_any (w : World) (p : Nat) (F : List Nat) (bs : List UInt8) (s : ByteArray) (hw : Wr w p F bs) (hlen : bs.length + s.size + 8 ≤ 1048576) :
  Calls Tryz.prog 146 #[.pointer (some ⟨p, 0, none⟩), .string s] w (Gives (fun w' => Wrote w w' p F (bs ++ encT s.data.toList))) := by
 have hs : s.size ≤ 1048576 := by omega
 have hl : s.data.toList.length = s.size := by simp
 have hpad := padN_lt s.size
 have hp0 := hw.lt
 go_enter Tryz.func146, Tryz.ntmps146
 go_wp2_with fail
 refine (wnumber_any _ p F bs _ s.size (by omega) (by omega) hw (by omega)).mono ?_
 rintro e w1 ⟨rfl, hw1⟩
 obtain ⟨F1, a1, a2, a3⟩ := hw1
 have H3 := Lib.hid a3
 clear a3
 go_wp2_with (refine wpList_to_bytes _ rfl 9 103 5 (.tmp 13) rfl Tryz.underlying9 Tryz.underlying103 Tryz.underlying5 s rfl (by unfold maxLen; omega) ?_; intro w2 c k2 hc1 hc2 hb2 hlt2)
 have hsrc := SrcV.of_bytes c hb2
 rw [hl] at hsrc
 have hsrc' := hsrc
 rw [← hl] at hsrc'
 refine (put_any _ p F1 _ _ s.data.toList (a1.kept k2 (by simp) (by simp)) (by rw [hl]; exact hsrc) (by simp [be4_length]; omega)).mono ?_
 rintro e w3 ⟨rfl, hw3⟩
 have hw3' := hw3.from k2
 obtain ⟨F3, b1, b2, b3⟩ := hw3'
 have H5 := Lib.hid b3
 clear b3 hw3 hsrc hsrc' hb2
 obtain ⟨i0, hi, hz0, hz1, hz2⟩ := info_parts info_u8
 go_wp2_with fail
 refine (padding_any _ _ s.size (by omega) (by omega)).mono ?_
 rintro e w4 ⟨rfl, rfl⟩
 go_wp2_with (refine wpList_make_full _ rfl (.tmp 18) (.tmp 18) 103 rfl 0 5 i0 (.int .u8 0) 1 Tryz.underlying103 hi hz0 hz1 .u64 .u64 _ _ (padN s.size) rfl rfl rfl rfl ?c1 ?c2 ?c3 ?go)
 case c1 => rw [hz2]; omega
 case c2 => unfold maxLen; omega
 case c3 => omega
 case go =>
  intro w5 hown5 hg5
  have k5 : Only [] w3 w5 := (Only.refl [] w3).grown hg5 (by intro k hk; cases hk)
  rw [madeCells_bytes] at hown5
  have hsrc5 := ownsRow_src hown5
  clear hown5
  go_wp2_with fail
  refine (put_any _ p F3 _ _ (zeros (padN s.size)) (b1.kept k5 (by simp) (by simp)) (by simpa [zeros] using hsrc5) (by simp [be4_length, zeros]; omega)).mono ?_
  rintro e w6 ⟨rfl, hw6⟩
  have hw6' := hw6.from k5
  go_wp2
  go_end0
  refine ⟨rfl, Wrote.join a2 H3.out (Wrote.join b2 H5.out ?_)⟩
  simpa [encT] using hw6'
theorem left_any (w : World) (p g o c : Nat) (bs : List UInt8) (err : Nat) (h : RdAt w p g o c bs err) :
  Calls Tryz.prog 136 #[.pointer (some ⟨p, 0, none⟩)] w fun e w' => e = .returned (.int .i64 (bs.length : Int)) ∧ w = w' := by
 have h1 := h.c0
 go_enter Tryz.func136, Tryz.ntmps136
 go_wp2
 go_ret
 exact ⟨rfl, rfl⟩
theorem length_fail (w : World) (p g o c : Nat) (bs : List UInt8) (err : Nat) (most : Int) (h : RdAt w p g o c bs err) (hn : err ≠ 0 ∨ (bs.length : Int) < 4) :
  Calls Tryz.prog 168 #[.pointer (some ⟨p, 0, none⟩), .int .i64 most] w fun e w' => e = .returned (.tuple #[.int .u64 0, .int .i64 (lackE err : Nat)]) ∧ w = w' := by
 have hne : (((lackE err : Nat) : Int) != 0) = true := by have := lackE_ne err; simp; omega
 go_enter Tryz.func168, Tryz.ntmps168
 go_wp2_with fail
 refine wp_scope_forth 0 rfl ?_
 go_wp2_with fail
 refine (next_fail _ p g o c bs err _ h hn).mono ?_
 rintro e w1 ⟨rfl, rfl⟩
 go_wp2_with fail
 go_step3
 refine ⟨rfl, ?_⟩
 go_wp2
 rw [Exit.noGoto_ret]
 go_ret2
 exact ⟨rfl, rfl⟩
theorem length_more (w : World) (p g o c : Nat) (bs : List UInt8) (most : Int) (h : RdAt w p g o c bs 0) (hn : 4 ≤ bs.length) (hm : most < (hd4 bs : Nat)) :
  Calls Tryz.prog 168 #[.pointer (some ⟨p, 0, none⟩), .int .i64 most] w fun e w' => e = .returned (.tuple #[.int .u64 0, .int .i64 4]) ∧ ∃ m, w' = w.drewN m := by
 have l1 := hd4_lt bs
 have l1' : ((hd4 bs : Nat) : Int) < 4294967296 := by omega
 by_cases h0 : most < 0
 ·go_enter Tryz.func168, Tryz.ntmps168
  go_wp2_with fail
  refine wp_scope_forth 0 rfl ?_
  go_wp2_with fail
  refine (next_ok _ p g o c bs _ 4 rfl h hn).mono ?_
  rintro e w1 ⟨rfl, rfl⟩
  go_wp2_with fail
  refine (number_any _ g o 4 c bs h.bytes hn (Nat.le_refl _)).mono ?_
  rintro e w2 ⟨rfl, m, rfl⟩
  go_wp2_with fail
  go_step3
  refine ⟨rfl, ?_⟩
  go_wp2
  rw [Exit.noGoto_ret]
  go_ret2
  exact ⟨rfl, _, rfl⟩
 ·have h0' : 0 ≤ most := by omega
  have h2 : most < 4294967296 := by omega
  go_enter Tryz.func168, Tryz.ntmps168
  go_wp2_with fail
  refine wp_scope_forth 0 rfl ?_
  go_wp2_with fail
  refine (next_ok _ p g o c bs _ 4 rfl h hn).mono ?_
  rintro e w1 ⟨rfl, rfl⟩
  go_wp2_with fail
  refine (number_any _ g o 4 c bs h.bytes hn (Nat.le_refl _)).mono ?_
  rintro e w2 ⟨rfl, m, rfl⟩
  go_wp2_with fail
  go_step3
  refine ⟨rfl, ?_⟩
  go_wp2
  rw [Exit.noGoto_ret]
  go_ret2
  exact ⟨rfl, _, rfl⟩
theorem number_is (w : World) (g o n c : Nat) (l : List UInt8) (q : Nat) (hq : hd4 l = q) (hb : BytesAt w g o l) (hl : 4 ≤ l.length) (hn : 4 ≤ n) :
  Calls Tryz.prog 166 #[.slice (some ⟨g, o, none⟩) n c] w fun e w' => e = .returned (.int .u32 (q : Int)) ∧ ∃ m, w' = w.drewN m := by
 subst hq
 exact number_any w g o n c l hb hl hn
theorem length_is (w : World) (p g o c : Nat) (bs : List UInt8) (M q : Nat) (hq : hd4 bs = q) (h : RdAt w p g o c bs 0) (hn : 4 ≤ bs.length) (hm : q ≤ M) (hw : M ≤ 9223372036854775807) :
  Calls Tryz.prog 168 #[.pointer (some ⟨p, 0, none⟩), .int .i64 (M : Int)] w fun e w' => e = .returned (.tuple #[.int .u64 (q : Int), .int .i64 0]) ∧ ∃ m, w' = w.drewN m := by
 have HQ := Lib.hid hq
 clear hq
 go_enter Tryz.func168, Tryz.ntmps168
 go_wp2_with fail
 refine wp_scope_forth 0 rfl ?_
 go_wp2_with fail
 refine (next_ok _ p g o c bs _ 4 rfl h hn).mono ?_
 rintro e w1 ⟨rfl, rfl⟩
 go_wp2_with fail
 refine (number_is _ g o 4 c bs q HQ.out h.bytes hn (Nat.le_refl _)).mono ?_
 rintro e w2 ⟨rfl, m, rfl⟩
 go_wp2
 rw [Forth.ret]
 go_ret2
 exact ⟨rfl, _, rfl⟩
theorem any_take (l : List UInt8) (k : Nat) (h : k < l.length) : (l.take (k + 1)).any (· != 0) = ((l.take k).any (· != 0) || l[k] != 0) := by
 rw [List.take_succ_eq_append_getElem h, List.any_append]
 simp
theorem any_at (l : List UInt8) (k : Nat) (h : k < l.length) (h0 : (l[k] != 0) = true) : l.any (· != 0) = true :=
 List.any_eq_true.2 ⟨l[k], List.getElem_mem h, h0⟩
set_option maxHeartbeats 400000 in
theorem zero_any (w : World) (g o c : Nat) (l : List UInt8) (hb : BytesAt w g o l) (hl : l.length ≤ 1048576) :
  Calls Tryz.prog 170 #[.slice (some ⟨g, o, none⟩) l.length c] w fun e w' => e = .returned (.bool (!l.any (· != 0))) ∧ w = w' := by
 have Hb := Lib.hid hb
 clear hb
 go_enter Tryz.func170, Tryz.ntmps170
 go_wp2
 go_loop [7] (fun i => ∃ k : Nat, k ≤ l.length ∧ i = .int .i64 k ∧ (l.take k).any (· != 0) = false) (fun i => l.length - (intOf i).toNat)
 case atStart => exact ⟨0, Nat.zero_le _, rfl, by simp⟩
 case round =>
  obtain ⟨k, hk, rfl, hz⟩ := hrel
  have HZ := Lib.hid hz
  clear hz
  by_cases hlt : k < l.length
  ·have hcell := Hb.out k hlt
   unfold byteV at hcell
   by_cases h0 : l[k] = 0
   ·have ht : ((l[k].toNat : Int) != 0) = false := by rw [h0]; rfl
    go_wp2
    go_round
    case rel => exact ⟨k + 1, by omega, by go_num, by rw [any_take l k hlt, HZ.out, h0]; rfl⟩
    case measure => simp [intOf]; omega
   ·have h1 : (l[k] != 0) = true := by simpa using h0
    have ht : ((l[k].toNat : Int) != 0) = true := by
     simp only [bne_iff_ne, ne_eq]
     intro e
     apply h0
     apply UInt8.toNat_inj.1
     have : l[k].toNat = 0 := by omega
     simpa using this
    have hany := Lib.hid (any_at l k hlt h1)
    clear h1
    go_wp2
    go_ret
    exact ⟨by rw [hany.out]; rfl, rfl⟩
  ·obtain rfl : k = l.length := by omega
   go_wp2
   go_ret
   have := HZ.out
   rw [List.take_length] at this
   exact ⟨by rw [this]; rfl, rfl⟩
theorem zero_is (w : World) (g o c n : Nat) (l : List UInt8) (r : Bool) (hl : l.length = n) (hr : (!l.any (· != 0)) = r) (hb : BytesAt w g o l) (hn : n ≤ 1048576) :
  Calls Tryz.prog 170 #[.slice (some ⟨g, o, none⟩) n c] w fun e w' => e = .returned (.bool r) ∧ w = w' := by
 subst hl
 subst hr
 exact zero_any w g o c l hb hn
theorem BytesAt.drewN {w : World} {g o : Nat} {l : List UInt8} (h : BytesAt w g o l) (m : Nat) : BytesAt (w.drewN m) g o l := h
theorem text_fail (w : World) (p g o c : Nat) (bs : List UInt8) (err : Nat) (most : Int) (h : RdAt w p g o c bs err) (hn : err ≠ 0 ∨ (bs.length : Int) < 4) :
  Calls Tryz.prog 120 #[.pointer (some ⟨p, 0, none⟩), .int .i64 most] w (Took w p g (.string ⟨#[]⟩) bs (lackE err)) := by
 have hne : (((lackE err : Nat) : Int) != 0) = true := by have := lackE_ne err; simp; omega
 go_enter Tryz.func120, Tryz.ntmps120
 go_wp2_with fail
 refine wp_scope_forth 0 rfl ?_
 go_wp2_with fail
 refine (length_fail _ p g o c bs err most h hn).mono ?_
 rintro e w1 ⟨rfl, rfl⟩
 go_wp2_with fail
 go_step3
 refine ⟨rfl, ?_⟩
 go_wp2_with fail
 refine (fail_any _ p g bs err _ ⟨o, c, h⟩).mono ?_
 rintro e w1 ⟨rfl, h1, k1⟩
 go_wp2
 rw [Exit.noGoto_ret]
 go_ret
 exact ⟨rfl, h1, k1⟩
theorem text_more (w : World) (p g o c : Nat) (bs : List UInt8) (most : Int) (h : RdAt w p g o c bs 0) (hn : 4 ≤ bs.length) (hm : most < (hd4 bs : Nat)) :
  Calls Tryz.prog 120 #[.pointer (some ⟨p, 0, none⟩), .int .i64 most] w (Took w p g (.string ⟨#[]⟩) bs 4) := by
 have HM := Lib.hid hm
 clear hm
 go_enter Tryz.func120, Tryz.ntmps120
 go_wp2_with fail
 refine wp_scope_forth 0 rfl ?_
 go_wp2_with fail
 refine (length_more _ p g o c bs most h hn HM.out).mono ?_
 rintro e w1 ⟨rfl, m, rfl⟩
 go_wp2_with fail
 go_step3
 refine ⟨rfl, ?_⟩
 go_wp2_with fail
 refine (fail_any _ p g bs 0 4 ⟨o, c, h.drewN m⟩).mono ?_
 rintro e w1 ⟨rfl, h1, k1⟩
 go_wp2
 rw [Exit.noGoto_ret]
 go_ret
 exact ⟨rfl, h1, ((Only.refl [p] w).drewN m).trans k1⟩
theorem text_short (w : World) (p g o c : Nat) (bs : List UInt8) (M q : Nat) (hq : hd4 bs = q) (h : RdAt w p g o c bs 0) (hn : 4 ≤ bs.length) (hm : q ≤ M) (hw : M ≤ 9223372036854775807) (hs : bs.length < 4 + q + padN q) :
  Calls Tryz.prog 120 #[.pointer (some ⟨p, 0, none⟩), .int .i64 (M : Int)] w (Took w p g (.string ⟨#[]⟩) bs 2) := by
 have l1 := hd4_lt bs
 rw [hq] at l1
 have hp := padN_lt q
 have HQ := Lib.hid hq
 have HW := Lib.hid hw
 have HM := Lib.hid hm
 clear hq hw hm
 go_enter Tryz.func120, Tryz.ntmps120
 go_wp2_with fail
 refine wp_scope_forth 0 rfl ?_
 go_wp2_with fail
 refine (length_is _ p g o c bs M q HQ.out h hn HM.out HW.out).mono ?_
 rintro e w1 ⟨rfl, m, rfl⟩
 have h1 := h.drewN m
 go_wp2_with fail
 refine (padding_any _ _ q rfl (by omega)).mono ?_
 rintro e w4 ⟨rfl, rfl⟩
 go_wp2_with fail
 refine (next_short _ p g o c bs _ h1 (by omega)).mono ?_
 rintro e w1 ⟨rfl, rfl⟩
 go_wp2_with fail
 go_step3
 refine ⟨rfl, ?_⟩
 go_wp2_with fail
 refine (fail_any _ p g bs 0 2 ⟨o, c, h1⟩).mono ?_
 rintro e w1 ⟨rfl, h1, k1⟩
 go_wp2
 rw [Exit.noGoto_ret]
 go_ret
 exact ⟨rfl, h1, ((Only.refl [p] w).drewN m).trans k1⟩
theorem text_form (w : World) (p g o c : Nat) (bs : List UInt8) (M q : Nat) (hq : hd4 bs = q) (h : RdAt w p g o c bs 0) (hn : 4 ≤ bs.length) (hm : q ≤ M) (hw : M ≤ 9223372036854775807) (hs : 4 + q + padN q ≤ bs.length)
  (hz : ((bs.drop (4 + q)).take (padN q)).any (· != 0) = true) :
  Calls Tryz.prog 120 #[.pointer (some ⟨p, 0, none⟩), .int .i64 (M : Int)] w (Took w p g (.string ⟨#[]⟩) bs 3) := by
 have l1 := hd4_lt bs
 rw [hq] at l1
 have hp := padN_lt q
 have hle := h.le
 have HQ := Lib.hid hq
 have HW := Lib.hid hw
 have HM := Lib.hid hm
 have HZ := Lib.hid hz
 clear hq hw hm hz
 obtain ⟨o', ho', hsl⟩ := slice_tail (P := Tryz.prog) 103 5 Tryz.underlying103 size_u8 g o (4 + q + padN q) c (4 + q) .u64 (4 + (q : Int)) (by omega) (by omega)
 have hpl : ((bs.drop (4 + q)).take (padN q)).length = padN q := by simp; omega
 have HP := Lib.hid hpl
 clear hpl
 have hbz : BytesAt w g o' ((bs.drop (4 + q)).take (padN q)) := by
  by_cases hc : 4 + q < c
  ·rw [ho' hc]
   exact (h.bytes.drop (4 + q)).take _
  ·rw [show padN q = 0 by omega]
   exact BytesAt.nil _ _ _
 have HB := Lib.hid hbz
 clear hbz ho'
 go_enter Tryz.func120, Tryz.ntmps120
 go_wp2_with fail
 refine wp_scope_forth 0 rfl ?_
 go_wp2_with fail
 refine (length_is _ p g o c bs M q HQ.out h hn HM.out HW.out).mono ?_
 rintro e w1 ⟨rfl, m, rfl⟩
 have h1 := h.drewN m
 go_wp2_with fail
 refine (padding_any _ _ q rfl (by omega)).mono ?_
 rintro e w4 ⟨rfl, rfl⟩
 go_wp2_with fail
 refine (next_ok _ p g o c bs _ (4 + q + padN q) (by omega) h1 hs).mono ?_
 rintro e w1 ⟨rfl, rfl⟩
 go_wp2_with fail
 refine (zero_is _ g o' (c - (4 + q)) (padN q) _ false HP.out (by rw [HZ.out]; rfl) (HB.out.drewN m) (by omega)).mono ?_
 rintro e w1 ⟨rfl, rfl⟩
 go_wp2_with fail
 go_step3
 refine ⟨rfl, ?_⟩
 go_wp2_with fail
 refine (fail_any _ p g bs 0 3 ⟨o, c, h1⟩).mono ?_
 rintro e w1 ⟨rfl, h1, k1⟩
 go_wp2
 rw [Exit.noGoto_ret]
 go_ret
 exact ⟨rfl, h1, ((Only.refl [p] w).drewN m).trans k1⟩
set_option maxHeartbeats 400000 in
theorem text_ok (w : World) (p g o c : Nat) (bs : List UInt8) (M q : Nat) (hq : hd4 bs = q) (h : RdAt w p g o c bs 0) (hn : 4 ≤ bs.length) (hm : q ≤ M) (hw : M ≤ 9223372036854775807) (hs : 4 + q + padN q ≤ bs.length)
  (hz : ((bs.drop (4 + q)).take (padN q)).any (· != 0) = false) :
  Calls Tryz.prog 120 #[.pointer (some ⟨p, 0, none⟩), .int .i64 (M : Int)] w (Took w p g (.string (strOf ((bs.drop 4).take q))) (bs.drop (4 + q + padN q)) 0) := by
 have l1 := hd4_lt bs
 rw [hq] at l1
 have hp := padN_lt q
 have hle := h.le
 have hgp := h.ne
 have HQ := Lib.hid hq
 have HW := Lib.hid hw
 have HM := Lib.hid hm
 have HZ := Lib.hid hz
 clear hq hw hm hz
 obtain ⟨o', ho', hsl⟩ := slice_tail (P := Tryz.prog) 103 5 Tryz.underlying103 size_u8 g o (4 + q + padN q) c (4 + q) .u64 (4 + (q : Int)) (by omega) (by omega)
 have hpl : ((bs.drop (4 + q)).take (padN q)).length = padN q := by simp; omega
 have HP := Lib.hid hpl
 clear hpl
 have hbz : BytesAt w g o' ((bs.drop (4 + q)).take (padN q)) := by
  by_cases hc : 4 + q < c
  ·rw [ho' hc]
   exact (h.bytes.drop (4 + q)).take _
  ·rw [show padN q = 0 by omega]
   exact BytesAt.nil _ _ _
 have HB := Lib.hid hbz
 clear hbz ho'
 obtain ⟨o2, ho2, hsl2⟩ := slice_part (P := Tryz.prog) 103 5 Tryz.underlying103 size_u8 g o (4 + q + padN q) c 4 (4 + q) .i64 .u64 4 (4 + (q : Int)) (by omega) (by omega) (by omega) (by omega)
 have htl : ((bs.drop 4).take q).length = q := by simp; omega
 have HT := Lib.hid htl
 clear htl
 have hb2 : BytesAt w g o2 ((bs.drop 4).take q) := by
  by_cases hc : 4 < c
  ·rw [ho2 hc]
   exact (h.bytes.drop 4).take _
  ·rw [show q = 0 by omega]
   exact BytesAt.nil _ _ _
 have HB2 := Lib.hid hb2
 clear hb2 ho2
 go_enter Tryz.func120, Tryz.ntmps120
 go_wp2_with fail
 refine wp_scope_forth 0 rfl ?_
 go_wp2_with fail
 refine (length_is _ p g o c bs M q HQ.out h hn HM.out HW.out).mono ?_
 rintro e w1 ⟨rfl, m, rfl⟩
 have h1 := h.drewN m
 go_wp2_with fail
 refine (padding_any _ _ q rfl (by omega)).mono ?_
 rintro e w4 ⟨rfl, rfl⟩
 go_wp2_with fail
 refine (next_ok _ p g o c bs _ (4 + q + padN q) (by omega) h1 hs).mono ?_
 rintro e w1 ⟨rfl, rfl⟩
 go_wp2_with fail
 refine (zero_is _ g o' (c - (4 + q)) (padN q) _ true HP.out (by rw [HZ.out]; rfl) (HB.out.drewN m) (by omega)).mono ?_
 rintro e w1 ⟨rfl, rfl⟩
 go_wp2_with fail
 refine (consume_any _ p g o c bs 0 _ (4 + q + padN q) c h1 hs).mono ?_
 rintro e w1 ⟨rfl, h2, k2⟩
 have hsrc := SrcV.of_bytes (c - 4) ((HB2.out.drewN m).kept k2 (by simpa using hgp))
 rw [HT.out] at hsrc
 go_wp2_with (refine wpList_to_string _ rfl 103 9 5 (.tmp 40) rfl Tryz.underlying103 Tryz.underlying5 Tryz.underlying9 _ q (c - 4) ((bs.drop 4).take q) rfl hsrc ?_)
 rw [Forth.ret]
 go_ret
 exact ⟨rfl, h2, ((Only.refl [p] w).drewN m).trans k2⟩
theorem rtext_any (w : World) (p g : Nat) (bs : List UInt8) (err : Nat) (most : Int) (hm : most ≤ 9223372036854775807) (h : Rd w p g bs err) :
  Calls Tryz.prog 120 #[.pointer (some ⟨p, 0, none⟩), .int .i64 most] w (Took w p g (.string (strOf (rText most bs err).1)) (rText most bs err).2.1 (rText most bs err).2.2) := by
 obtain ⟨o, c, h⟩ := h
 unfold rText
 by_cases he : err ≠ 0
 ·rw [if_pos he]
  have := text_fail w p g o c bs err most h (.inl he)
  rwa [show lackE err = err by unfold lackE; rw [if_neg he]] at this
 ·rw [if_neg he]
  have he0 : err = 0 := by omega
  subst he0
  by_cases hl : bs.length < 4
  ·rw [if_pos hl]
   exact text_fail w p g o c bs 0 most h (.inr (by omega))
  ·rw [if_neg hl]
   by_cases h1 : most < (hd4 bs : Int)
   ·rw [if_pos h1]
    exact text_more w p g o c bs most h (by omega) h1
   ·rw [if_neg h1]
    obtain ⟨M, rfl⟩ := Int.eq_ofNat_of_zero_le (show 0 ≤ most by omega)
    by_cases h2 : bs.length < 4 + hd4 bs + padN (hd4 bs)
    ·rw [if_pos h2]
     exact text_short w p g o c bs M _ rfl h (by omega) (by omega) (by omega) h2
    ·rw [if_neg h2]
     by_cases h3 : ((bs.drop (4 + hd4 bs)).take (padN (hd4 bs))).any (· != 0) = true
     ·rw [if_pos h3]
      exact text_form w p g o c bs M _ rfl h (by omega) (by omega) (by omega) (by omega) h3
     ·rw [if_neg h3]
      exact text_ok w p g o c bs M _ rfl h (by omega) (by omega) (by omega) (by omega) (by simpa using h3)
end Go.Proofs.YtmelaiefbpdifaaGreatDoor
