/- Rows read. -/
import Derived.Test.YtalkhhjfplahkaaGreatKRp14
import Derived.Test.YtalkhhjfplahkaaGreatKMb14
import Derived.Test.YtalkhhjfplahkaaGreatKMs14
import Derived.Test.YtalkhhjfplahkaaGreatKMo14
import Derived.Test.YtalkhhjfplahkaaGreatKMk14
import Derived.Test.YtalkhhjfplahkaaGreatKMw14
namespace Go.Proofs.YtalkhhjfplahkaaGreat
open Go.RowKit
set_option linter.unusedVariables false

theorem MeansB.of {w w2 : World} {mb : Nat} (h : MeansB w mb) (e : w2.heap[mb]? = w.heap[mb]?) : MeansB w2 mb := by
  obtain ⟨es, clock, h1, h2⟩ := h
  exact ⟨es, clock, e.trans h1, h2⟩
theorem results_sta1 {fn : Func} {p u : Tmp} (h : fn.results = #[.cell p 29, .tmp u]) (tmps : Array Value) (w : World) (g : Nat) (hp : tmps.getD p undef = .pointer (some ⟨g, 0, none⟩)) (C : Array Value) (hb : Blk w g 29 C) (hc : C.size = 7) (x : Value) (hx : tmps.getD u undef = x) :
    (results fn tmps).run Tryz.prog w = .ok (.tuple #[.agg C, x]) w := by
  subst hx
  rw [results_cell_tmp h, hp]
  have hl := run_loadVar_mid (P := Tryz.prog) w g 0 29 C.toList _ (Blk.range9 hb) Tryz.underlying29 rfl (by rw [size_sta]; simp [hc])
  simp only [asAddr, Sem.run_pure, Result.andThen_ok, hl]
def zSA : Array Value := #[.int .u32 0, .int .u32 0, .slice none 0 0, .slice none 0 0, .slice none 0 0, .slice none 0 0, .slice none 0 0]
/-- What Read answers. -/
def ReadAns (l : List Ch) (w w' : World) (e : Ending) : Prop :=
  Only [] w w' ∧ ((∃ s q, Reads l (some s) ∧ e = .returned (.tuple #[staV s q, .int .i64 0]) ∧ StM w' s q) ∨ (Reads l none ∧ e = .returned (.tuple #[.agg zSA, .int .i64 25])))

/-- One round: what the row at hand means, by the map's function. -/
def RowIs (b : Bs) (gx : Nat) (s : Sta) (c : Ch) (f : FuncId) : Prop :=
  ∀ (wr w : World) (kp kg vp vg : Nat) (tv ov kv wv sv : Value) (lvs : List Lv) (rk rv : ByteArray) (rg : Bool), LdR b wr gx s tv ov kv wv sv lvs → Only [gx] wr w → LdB w gx s tv ov kv wv sv rk rv rg kp vp → rv = strOf c.val → Two wr.heap.size w kp kg vp vg (c.key.tail, 0) (c.val, 0) → kg < w.heap.size → vg < w.heap.size →
    Calls Tryz.prog f #[.pointer (some ⟨gx, 0, none⟩)] w fun e w' => e = .returned (.tuple #[]) ∧ LdAns b gx (oneL s c) w'
theorem Two.lts {h0 : Nat} {w : World} {kp kg vp vg : Nat} {kb vb : List UInt8 × Nat} (h : Two h0 w kp kg vp vg kb vb) : kp < w.heap.size ∧ vp < w.heap.size :=
  ⟨by obtain ⟨o, c, h⟩ := h.k; exact h.blk.lt, by obtain ⟨o, c, h⟩ := h.v; exact h.blk.lt⟩
theorem row_boot {b : Bs} {gx : Nat} {s : Sta} {c : Ch} {n : Nat} (f : FitB n s) (hn : n ≤ 10000) (hv : c.val.length ≤ 1048576) (hk : c.key = 66 :: c.key.tail) : RowIs b gx s c 42 := by
  intro wr w kp kg vp vg tv ov kv wv sv lvs rk rv rg hL ho hx hrv h2 hkg hvg
  have h := boot_any b wr w gx kp kg vp vg s tv ov kv wv sv lvs rk rv rg c.key.tail c.val hL ho hx h2
  have e : oneL s c = { s with boot := (numAt c.val 0 : Nat) } := by unfold oneL; rw [hk]; rfl
  rw [e]
  exact h
theorem row_next {b : Bs} {gx : Nat} {s : Sta} {c : Ch} {n : Nat} (f : FitB n s) (hn : n ≤ 10000) (hv : c.val.length ≤ 1048576) (hk : c.key = 73 :: c.key.tail) : RowIs b gx s c 43 := by
  intro wr w kp kg vp vg tv ov kv wv sv lvs rk rv rg hL ho hx hrv h2 hkg hvg
  have h := next_any b wr w gx kp kg vp vg s tv ov kv wv sv lvs rk rv rg c.key.tail c.val hL ho hx h2
  have e : oneL s c = { s with next := (numAt c.val 0 : Nat) } := by unfold oneL; rw [hk]; rfl
  rw [e]
  exact h
theorem row_lock {b : Bs} {gx : Nat} {s : Sta} {c : Ch} {n : Nat} (f : FitB n s) (hn : n ≤ 10000) (hv : c.val.length ≤ 1048576) (hk : c.key = 76 :: c.key.tail) : RowIs b gx s c 44 := by
  intro wr w kp kg vp vg tv ov kv wv sv lvs rk rv rg hL ho hx hrv h2 hkg hvg
  have h := lock_any b wr w gx kp kg vp vg s tv ov kv wv sv lvs rk rv rg c.key.tail c.val hL ho hx h2 (by rw [← List.length_map (f := (·.L)), ← hL.lks]; have := f.ll; omega) hv ⟨h2.lts.1, h2.lts.2, hx.lt, hkg, hvg⟩
  have e : oneL s c = { s with locks := s.locks ++ [lockOf c.key.tail c.val] } := by unfold oneL; rw [hk]; rfl
  rw [e]
  exact h
theorem row_inode {b : Bs} {gx : Nat} {s : Sta} {c : Ch} {n : Nat} (f : FitB n s) (hn : n ≤ 10000) (hv : c.val.length ≤ 1048576) (hk : c.key = 78 :: c.key.tail) : RowIs b gx s c 45 := by
  intro wr w kp kg vp vg tv ov kv wv sv lvs rk rv rg hL ho hx hrv h2 hkg hvg
  have h := inode_any b wr w gx kp kg vp vg s tv ov kv wv sv lvs rk rv rg c.key.tail c.val hL ho hx h2 (by have := f.tl; omega)
  have e : oneL s c = { s with tree := s.tree ++ [nodeOf c.key.tail c.val] } := by unfold oneL; rw [hk]; rfl
  rw [e]
  exact h
theorem row_open {b : Bs} {gx : Nat} {s : Sta} {c : Ch} {n : Nat} (f : FitB n s) (hn : n ≤ 10000) (hv : c.val.length ≤ 1048576) (hk : c.key = 79 :: c.key.tail) : RowIs b gx s c 46 := by
  intro wr w kp kg vp vg tv ov kv wv sv lvs rk rv rg hL ho hx hrv h2 hkg hvg
  have h := open_any b wr w gx kp kg vp vg s tv ov kv wv sv lvs rk rv rg c.key.tail c.val hL ho hx h2 (by have := f.ol; omega)
  have e : oneL s c = { s with opens := s.opens ++ [openOf c.key.tail c.val] } := by unfold oneL; rw [hk]; rfl
  rw [e]
  exact h
theorem row_seat {b : Bs} {gx : Nat} {s : Sta} {c : Ch} {n : Nat} (f : FitB n s) (hn : n ≤ 10000) (hv : c.val.length ≤ 1048576) (hk : c.key = 83 :: c.key.tail) : RowIs b gx s c 47 := by
  intro wr w kp kg vp vg tv ov kv wv sv lvs rk rv rg hL ho hx hrv h2 hkg hvg
  have h := seat_any b wr w gx kp kg vp vg s tv ov kv wv sv lvs rk rv rg c.key.tail c.val hL ho hx h2 (by have := f.sl; omega) hrv hv hkg hvg
  have e : oneL s c = { s with seats := s.seats ++ [seatOf c.key.tail c.val] } := by unfold oneL; rw [hk]; rfl
  rw [e]
  exact h
theorem row_work {b : Bs} {gx : Nat} {s : Sta} {c : Ch} {n : Nat} (f : FitB n s) (hn : n ≤ 10000) (hv : c.val.length ≤ 1048576) (hk : c.key = 87 :: c.key.tail) : RowIs b gx s c 48 := by
  intro wr w kp kg vp vg tv ov kv wv sv lvs rk rv rg hL ho hx hrv h2 hkg hvg
  have h := work_any b wr w gx kp kg vp vg s tv ov kv wv sv lvs rk rv rg c.key.tail c.val hL ho hx h2 (by have := f.wl; omega)
  have e : oneL s c = { s with works := s.works ++ [workOf c.key.tail c.val] } := by unfold oneL; rw [hk]; rfl
  rw [e]
  exact h

end Go.Proofs.YtalkhhjfplahkaaGreat
