/- The walks of a writer: what each of its methods leaves. -/
import Derived.Test.YtjnbajpckohnnaaChecked
import Derived.Test.YtjnbajpckohnnaaPure
import Derived.WalkKit
import Derived.WalkLawsBesides
import Derived.WalkSpells
import Derived.Outline
import Derived.KernelRfl
namespace Go.Proofs.Ytjnbajpckohnnaa
open Go.RowKit

theorem info_u8 : (Try.prog.info? 5).map (fun i => (i.zero, i.size, i.bytes)) = some (some (.int .u8 0), 1, 1) := by kernel_rfl

/-- The writer behind the pointer to block p has written bs; its bytes lie in a block of F. -/
def Wr (w : World) (p : Nat) (F : List Nat) (bs : List UInt8) : Prop :=
  ∃ v, Blk w p 42 #[v] ∧ w.ownsRow 0 5 1 v bs.length (byteVs bs) ∧ v.ownBlock ≠ some p ∧ ∀ k, v.ownBlock = some k → k ∈ F

/-- Behind a write: what is written, and what alone has turned. -/
def Wrote (w w' : World) (p : Nat) (F : List Nat) (bs : List UInt8) : Prop :=
  ∃ F', Wr w' p F' bs ∧ Only (p :: F) w w' ∧ ∀ k ∈ F', k ∈ F ∨ w.heap.size ≤ k

/-- What a call without results leaves, behind a name. -/
def Gives (R : World → Prop) (e : Ending) (w' : World) : Prop := e = .returned (.tuple #[]) ∧ R w'

theorem Wr.lt {w : World} {p : Nat} {F : List Nat} {bs : List UInt8} (h : Wr w p F bs) : p < w.heap.size := by
  obtain ⟨v, h1, _⟩ := h
  exact h1.lt

theorem Wr.kept {S : List Nat} {w w' : World} {p : Nat} {F : List Nat} {bs : List UInt8} (h : Wr w p F bs) (k : Only S w w') (hp : p ∉ S) (hF : ∀ i ∈ F, i ∉ S) : Wr w' p F bs := by
  obtain ⟨v, h1, h2, h3, h4⟩ := h
  exact ⟨v, h1.kept k hp, ownsRow_kept h2 k (fun g hg => hF g (h4 g hg)), h3, h4⟩

theorem Wrote.from {w w0 w' : World} {p : Nat} {F : List Nat} {bs : List UInt8} (k : Only [] w w0) (h : Wrote w0 w' p F bs) : Wrote w w' p F bs := by
  obtain ⟨F', h1, h2, h3⟩ := h
  refine ⟨F', h1, (k.more (T := p :: F) (by simp)).then h2 (fun _ hi => .inl hi), fun i hi => (h3 i hi).imp id (fun h => Nat.le_trans k.size h)⟩

theorem Wrote.join {w w1 w2 : World} {p : Nat} {F F1 : List Nat} {bs : List UInt8} (k : Only (p :: F) w w1) (hF : ∀ i ∈ F1, i ∈ F ∨ w.heap.size ≤ i) (h : Wrote w1 w2 p F1 bs) : Wrote w w2 p F bs := by
  obtain ⟨F2, h1, h2, h3⟩ := h
  refine ⟨F2, h1, k.then h2 (fun i hi => ?_), fun i hi => ?_⟩
  · rcases List.mem_cons.1 hi with rfl | hi
    · exact .inl (by simp)
    · exact (hF i hi).imp (fun h => by simp [h]) id
  · rcases h3 i hi with h | h
    · exact hF i h
    · exact .inr (Nat.le_trans k.size h)

theorem put_done {w w1 : World} {p : Nat} {F : List Nat} {bs l : List UInt8} {old v' : Value} (hb : Blk w p 42 #[old]) (hne : old.ownBlock ≠ some p) (hF : ∀ k, old.ownBlock = some k → k ∈ F)
    (hown1 : w1.ownsRow 0 5 1 v' (bs.length + l.length) (byteVs bs ++ byteVs l)) (hg : w.grownBy w1 old.ownBlock) (hat : v'.ownBlock = old.ownBlock ∨ v'.ownBlock = some w.heap.size) :
    Wrote w (w1.setCell ⟨p, 0, none⟩ v') p F (bs ++ l) := by
  have hb1 : Blk w1 p 42 #[old] := (hg.block p hb.lt (fun e => hne e.symm)).trans hb
  have hv : v'.ownBlock ≠ some p := by
    rcases hat with h | h
    · rw [h]; exact hne
    · rw [h]; intro e; injection e with e; have := hb.lt; omega
  refine ⟨v'.ownBlock.toList, ⟨v', by simpa using hb1.set 0 v', ?_, hv, fun k hk => by simp [hk]⟩, ?_, fun k hk => ?_⟩
  · rw [List.length_append, byteVs_append]
    exact ownsRow_far hown1 hv _
  · exact ((Only.refl (p :: F) w).grown hg (fun k hk => .inl (by simp [hF k hk]))).setCell (.inl (by simp)) _
  · have hk' : v'.ownBlock = some k := by simpa using hk
    rcases hat with h | h
    · exact .inl (hF k (by rw [← h]; exact hk'))
    · rw [h] at hk'
      injection hk' with hk'
      exact .inr (by omega)

set_option maxHeartbeats 400000 in
theorem put_any (w : World) (p : Nat) (F : List Nat) (bs : List UInt8) (x : Value) (l : List UInt8) (hw : Wr w p F bs) (hx : SrcV w x l.length (byteVs l)) (hlen : bs.length + l.length ≤ 1048576) :
    Calls Try.prog 32 #[.pointer (some ⟨p, 0, none⟩), x] w (Gives (fun w' => Wrote w w' p F (bs ++ l))) := by
  obtain ⟨v, hb, hown, hne, hF⟩ := hw
  obtain ⟨A, c, rfl⟩ := ownsRow_slice hown
  obtain ⟨A', c', rfl, hrest⟩ := id hx
  have hcell := hb.cell 0
  simp only [List.getElem?_toArray, List.getElem?_cons_zero] at hcell
  go_enter Try.func32, Try.ntmps32
  go_wp2_with (at_builtin; refine wpList_append_src _ rfl (.tmp 10) (.tmp 11) 40 rfl 5 (.int .u8 0) 1 Try.underlying40 info_u8 rfl (.slice A bs.length c) bs.length (byteVs bs) rfl hown (.slice A' l.length c') l.length (byteVs l) rfl hx (byteVs_one l) ?c1 ?c2 ?go)
  case c1 => unfold maxLen; omega
  case c2 => omega
  case go =>
    intro v' w1 hown1 hg hat
    have hdone := Lib.hid (put_done hb hne hF hown1 hg hat)
    obtain ⟨A1, c1, rfl⟩ := ownsRow_slice hown1
    have hb1 : Blk w1 p 42 #[.slice A bs.length c] := (hg.block p hb.lt (fun e => hne e.symm)).trans hb
    have k0 := hb1.cell 0
    simp only [List.getElem?_toArray, List.getElem?_cons_zero] at k0
    have k1 := hb1.free 0
    clear hat hF hne hrest hx
    go_wp2
    go_end0
    exact ⟨rfl, hdone.out⟩

theorem put_nil (w : World) (x : Value) : Calls Try.prog 32 #[.pointer none, x] w (Gives (fun w' => w = w')) := by
  go_enter Try.func32, Try.ntmps32
  go_wp2
  go_end0
  exact ⟨rfl, rfl⟩

/-- Four bytes laid as a slice's literal. -/
theorem src_be4 (w : World) (n : Nat) (x : Int) (hx : x = n) (hn : n < 4294967296) : SrcV (w.alloc (.cells #[.int .u8 (x / 16777216), .int .u8 (x / 65536 % 256), .int .u8 (x / 256 % 256), .int .u8 (x % 256)] 5)) (.slice (some ⟨w.heap.size, 0, none⟩) 4 4) 4 (byteVs (be4 n)) := by
  subst hx
  have e : byteVs (be4 n) = [.int .u8 ((n : Int) / 16777216), .int .u8 ((n : Int) / 65536 % 256), .int .u8 ((n : Int) / 256 % 256), .int .u8 ((n : Int) % 256)] := by
    unfold byteVs be4
    simp only [List.map_cons, List.map_nil, byteV_ofNat]
    congr 2
    omega
  rw [e]
  refine ⟨_, _, rfl, rfl, .inr ⟨_, rfl, fun j u hu => ?_⟩⟩
  rw [addr_add, Nat.zero_add, (Blk.new w 5 _).cell j]
  simpa using hu

theorem wnumber_any (w : World) (p : Nat) (F : List Nat) (bs : List UInt8) (x : Int) (n : Nat) (hx : x = n) (hn : n < 4294967296) (hw : Wr w p F bs) (hlen : bs.length + 4 ≤ 1048576) :
    Calls Try.prog 16 #[.pointer (some ⟨p, 0, none⟩), .int .u32 x] w (Gives (fun w' => Wrote w w' p F (bs ++ be4 n))) := by
  have h0 : 0 ≤ x := by omega
  have h1 : x < 4294967296 := by omega
  have hs := Lib.hid (src_be4 w n x hx hn)
  clear hx
  go_enter Try.func16, Try.ntmps16
  go_wp2_with fail
  refine (put_any _ p F bs _ (be4 n) (hw.kept ((Only.refl [] w).alloc _) (by simp) (by simp)) hs.out hlen).mono ?_
  rintro e w1 ⟨rfl, hw1⟩
  go_wp2
  go_end0
  exact ⟨rfl, hw1.from ((Only.refl [] w).alloc _)⟩

theorem wnumber_nil (w : World) (x : Int) (h0 : 0 ≤ x) (h1 : x < 4294967296) :
    Calls Try.prog 16 #[.pointer none, .int .u32 x] w (Gives (fun w' => Only [] w w')) := by
  go_enter Try.func16, Try.ntmps16
  go_wp2_with fail
  refine (put_nil _ _).mono ?_
  rintro e w1 ⟨rfl, rfl⟩
  go_wp2
  go_end0
  exact ⟨rfl, (Only.refl [] w).alloc _⟩

end Go.Proofs.Ytjnbajpckohnnaa
