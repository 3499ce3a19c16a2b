/- A lock with memory of its own; a lock without a client's hold; a lock in its next epoch. -/
import Derived.Test.YtnmmdnecojgccaaIns12
import Derived.Test.YtnmmdnecojgccaaCmp12
namespace Go.Proofs.Ytnmmdnecojgccaa
open Go.RowKit

theorem Blk.far {w : World} {g : Nat} {t : TypeId} {cs : Array Value} (h : Blk w g t cs) {p : Addr} {u : Value} (hp : p.block ≠ g) : Blk (w.setCell p u) g t cs := h.kept ((Only.refl [p.block] w).setCell (.inl (by simp)) u) (by simpa using fun e => hp e.symm)
theorem Only.far {w w1 w2 : World} {S : List Nat} {g : Nat} (h : Only S w w1) (k : Only [g] w1 w2) (hg : w.heap.size ≤ g) : Only S w w2 := h.own k (.inr hg)
section
variable {S : List Nat} {w w0 w1 w2 : World} {v v' : Value} {l : List Hol}
theorem Hs.from (kk : Only [] w w0) (h : Hs S w0 w1 v l) : Hs S w w1 v l :=
  ⟨h.own, fun g hg => (h.new g hg).imp id (fun a => Nat.le_trans kk.size a), (kk.more (by simp)).then h.only (fun _ hi => .inl hi)⟩
/-- A block of the call's own is written to. -/
theorem Hs.far (h : Hs S w w1 v l) {g : Nat} (k : Only [g] w1 w2) (hg : w.heap.size ≤ g) (hv : v.ownBlock ≠ some g) : Hs S w w2 v l :=
  h.keep k (by intro i hi; simp at hi; subst hi; exact .inr hg) (by intro i hi hm; simp at hm; subst hm; exact hv hi)
theorem Hs.self (h : w.ownsRow 0 47 2 v l.length (encs holE l)) : Hs v.ownBlock.toList w w v l := ⟨h, fun g hg => .inl (by simp [hg]), Only.refl _ _⟩
/-- .. as a list that was made since w. -/
theorem Hs.since (h : Hs v.ownBlock.toList w1 w2 v' l) (k : Only [] w w1) (hv : ∀ g, v.ownBlock = some g → w.heap.size ≤ g) : Hs [] w w2 v' l :=
  ⟨h.own, fun g hg => by
    rcases h.new g hg with a | a
    · exact .inr (hv g (by simpa using a))
    · exact .inr (Nat.le_trans k.size a), k.then h.only (fun i hi => .inr (hv i (by simpa using hi)))⟩
end

/-- What is answered: a lock, its holders in a list of the call's own. -/
def LkAns (S : List Nat) (w w' : World) (e : Ending) (L : Lk) : Prop := ∃ v, e = .returned (lkV L v) ∧ Hs S w w' v L.hs

set_option maxRecDepth 100000 in
set_option maxHeartbeats 2000000 in
theorem own_any (w : World) (L : Lk) (A : Option Addr) (c : Nat) (hb : Els holE 2 w A L.hs) (hl : L.hs.length ≤ 1000) :
    Calls Try.prog 25 #[lkV L (.slice A L.hs.length c)] w fun e w' => LkAns [] w w' e L := by
  obtain ⟨f, ep, u, ct, fe, go, l⟩ := L
  simp only at hb hl
  have hC := fun W (k : Only [] w W) => clone_any W A c l (hb.kept k (by simp)) hl
  have k1 := (Only.refl [] w).alloc (.cells #[.int .u32 f, .int .u32 ep, .int .u32 u, .int .u32 ct, .bool fe, .bool go, .slice A l.length c] 25)
  have b1 := Lx.new w f ep u ct fe go l (.slice A l.length c)
  obtain ⟨wa, hwa⟩ : ∃ wa, wa = w.alloc (.cells #[.int .u32 f, .int .u32 ep, .int .u32 u, .int .u32 ct, .bool fe, .bool go, .slice A l.length c] 25) := ⟨_, rfl⟩
  have hz : wa.heap.size = w.heap.size + 1 := by rw [hwa]; simp
  rw [← hwa] at k1 b1
  have k2 := k1.alloc (.cells #[.int .u32 0, .int .u32 0, .int .u32 0, .int .u32 0, .bool false, .bool false, .slice none 0 0] 25)
  have b2 := b1.alloc (.cells #[.int .u32 0, .int .u32 0, .int .u32 0, .int .u32 0, .bool false, .bool false, .slice none 0 0] 25)
  have bz := Lx.zero wa
  rw [hz] at bz
  obtain ⟨wb, hwb⟩ : ∃ wb, wb = wa.alloc (.cells #[.int .u32 0, .int .u32 0, .int .u32 0, .int .u32 0, .bool false, .bool false, .slice none 0 0] 25) := ⟨_, rfl⟩
  rw [← hwb] at k2 b2 bz
  have hzb : wb.heap.size = w.heap.size + 2 := by rw [hwb]; simp [hz]
  rw [hwa] at hwb
  clear hwa b1 k1 hz
  simp only [lkV]
  replace hC := Lib.hid hC
  replace hzb := Lib.hid hzb
  go_enter Try.func25, Try.ntmps25
  go_wp2_with fail
  rw [← hwb]
  clear hwb
  refine (hC.out _ k2).mono ?_; rintro e w3 ⟨v, rfl, hm⟩
  have b3 := b2.kept hm.only (by simp)
  have z3 := bz.kept hm.only (by simp)
  clear b2 bz hC
  obtain ⟨c0, c1, c2, c3, c4, c5, c6⟩ := b3.at (Only.refl [] _) (by simp)
  have f6 := b3.free 6
  obtain ⟨A', c', rfl, hel, hcc, hnew, hblk⟩ := hm.shape
  have hv0 : (Value.slice A' l.length c').ownBlock ≠ some w.heap.size := fun h => by rcases hm.new _ h with a | a; cases a; have := hzb.out; omega
  have hv1 : (Value.slice A' l.length c').ownBlock ≠ some (w.heap.size + 1) := fun h => by rcases hm.new _ h with a | a; cases a; have := hzb.out; omega
  have k4 : Only [w.heap.size] w3 (w3.setCell ⟨w.heap.size, 6, none⟩ (.slice A' l.length c')) := (Only.refl _ _).setCell (.inl (by simp)) _
  have hm4 := (Hs.from k2 hm).far k4 (Nat.le_refl _) hv0
  have z4 := z3.kept k4 (by simp)
  replace hm4 := Lib.hid hm4
  clear hm hel hcc hnew hblk k4 z3 b3
  go_wp2_with (refine wpList_store_lk ⟨f, ep, u, ct, fe, go, l⟩ noL (.slice A' l.length c') _ rfl rfl _ _ rfl (w.heap.size + 1) rfl rfl z4 ?_; intro w5 b5 k5)
  refine bodyPost_ret (v := lkV ⟨f, ep, u, ct, fe, go, l⟩ (.slice A' l.length c')) (results_lk rfl _ _ (w.heap.size + 1) rfl _ _ b5) rfl ?_
  exact ⟨_, rfl, hm4.out.far k5 (by omega) hv1⟩
end Go.Proofs.Ytnmmdnecojgccaa
