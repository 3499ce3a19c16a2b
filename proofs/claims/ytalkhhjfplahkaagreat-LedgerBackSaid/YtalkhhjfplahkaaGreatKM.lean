/- Joined: Mem14, Fun14, Str14. -/
import Derived.Test.YtalkhhjfplahkaaGreatKC
import Derived.Test.YtalkhhjfplahkaaGreatKL
import Derived.Test.YtalkhhjfplahkaaGreatKB
import Derived.Test.YtalkhhjfplahkaaGreatKI
import Derived.Deep.CutBlock
namespace Go.Proofs.YtalkhhjfplahkaaGreat
open Go.RowKit

/-! Works. -/
def wkE (x : Wk) : List Value := [.int .u32 x.file, .int .u32 x.client, .int .u32 x.life, .int .u32 x.seq, .int .i64 x.code, .int .u32 x.off, .int .u32 x.len, .string (strOf x.data)]
def wkV (x : Wk) : Value := .agg #[.int .u32 x.file, .int .u32 x.client, .int .u32 x.life, .int .u32 x.seq, .int .i64 x.code, .int .u32 x.off, .int .u32 x.len, .string (strOf x.data)]
theorem wkE_length (x : Wk) : (wkE x).length = 8 := rfl
theorem wkE_one (x : Wk) : ∀ v ∈ wkE x, v.oneCell' = true := by
  intro v hv
  simp [wkE] at hv
  rcases hv with rfl | rfl | rfl | rfl | rfl | rfl | rfl | rfl <;> rfl
theorem info_wk : (Tryz.prog.info? 50).map (fun i => (i.zero, i.size, i.bytes)) = some (some (.agg #[.int .u32 0, .int .u32 0, .int .u32 0, .int .u32 0, .int .i64 0, .int .u32 0, .int .u32 0, .string ⟨#[]⟩]), 8, 48) := by kernel_rfl
theorem wks_at {w : World} {g o : Nat} {l : List Wk} (h : ElsAt wkE 8 w g o l) {i : Nat} (hi : i < l.length) :
    w.cell? ⟨g, o + i * 8, none⟩ = some (.int .u32 l[i].file) ∧ w.cell? ⟨g, o + i * 8 + 1, none⟩ = some (.int .u32 l[i].client) ∧ w.cell? ⟨g, o + i * 8 + 2, none⟩ = some (.int .u32 l[i].life) ∧ w.cell? ⟨g, o + i * 8 + 3, none⟩ = some (.int .u32 l[i].seq) ∧ w.cell? ⟨g, o + i * 8 + 4, none⟩ = some (.int .i64 l[i].code) ∧ w.cell? ⟨g, o + i * 8 + 5, none⟩ = some (.int .u32 l[i].off) ∧ w.cell? ⟨g, o + i * 8 + 6, none⟩ = some (.int .u32 l[i].len) ∧ w.cell? ⟨g, o + i * 8 + 7, none⟩ = some (.string (strOf l[i].data)) :=
  ⟨by simpa using h i hi 0 _ rfl, h i hi 1 _ rfl, h i hi 2 _ rfl, h i hi 3 _ rfl, h i hi 4 _ rfl, h i hi 5 _ rfl, h i hi 6 _ rfl, h i hi 7 _ rfl⟩

/-! Seats. -/
def seaA (x : Sea) : Array Value := #[.int .u32 x.client, .int .i64 x.pk.kind, .int .i64 x.pk.frm, .int .i64 x.pk.to, .int .u32 x.pk.life, .int .u32 x.pk.seq, .int .u32 x.pk.asked, .int .u32 x.pk.boot, .int .i64 x.pk.code, .int .i64 x.pk.err, .int .u32 x.pk.file, .int .u32 x.pk.epoch, .int .u32 x.pk.off, .int .u32 x.pk.len, .int .u32 x.pk.size, .int .u32 x.pk.mode, .int .u32 x.pk.deny, .int .u32 x.pk.handle, .string x.pk.path, .string x.pk.other, .string x.pk.data]
def seaE (x : Sea) : List Value := (seaA x).toList
abbrev seaV (x : Sea) : Value := .agg (seaA x)
theorem seaE_length (x : Sea) : (seaE x).length = 21 := rfl
theorem seaE_one (x : Sea) : ∀ v ∈ seaE x, v.oneCell' = true := by
  intro v hv
  simp only [seaE, seaA, List.mem_cons, List.not_mem_nil, or_false] at hv
  rcases hv with rfl | rfl | rfl | rfl | rfl | rfl | rfl | rfl | rfl | rfl | rfl | rfl | rfl | rfl | rfl | rfl | rfl | rfl | rfl | rfl | rfl <;> rfl
theorem info_sea : (Tryz.prog.info? 56).map (fun i => (i.zero, i.size, i.bytes)) = some (some (.agg #[.int .u32 0, .int .i64 0, .int .i64 0, .int .i64 0, .int .u32 0, .int .u32 0, .int .u32 0, .int .u32 0, .int .i64 0, .int .i64 0, .int .u32 0, .int .u32 0, .int .u32 0, .int .u32 0, .int .u32 0, .int .u32 0, .int .u32 0, .int .u32 0, .string ⟨#[]⟩, .string ⟨#[]⟩, .string ⟨#[]⟩]), 21, 144) := by kernel_rfl
theorem size_sea : (Tryz.prog.info? 56).map (·.size) = some 21 := by kernel_rfl

/-! Changes. -/
def chE (x : Ch) : List Value := [.string (strOf x.key), .string (strOf x.val), .bool x.gone]
def chV (x : Ch) : Value := .agg #[.string (strOf x.key), .string (strOf x.val), .bool x.gone]
theorem chE_length (x : Ch) : (chE x).length = 3 := rfl
theorem chE_one (x : Ch) : ∀ v ∈ chE x, v.oneCell' = true := by
  intro v hv
  simp [chE] at hv
  rcases hv with rfl | rfl | rfl <;> rfl
theorem info_ch : (Tryz.prog.info? 48).map (fun i => (i.zero, i.size, i.bytes)) = some (some (.agg #[.string ⟨#[]⟩, .string ⟨#[]⟩, .bool false]), 3, 40) := by kernel_rfl
theorem size_ch' : ∀ w, (Go.sizeOf 48).run Tryz.prog w = .ok 3 w := Tryz.sizeOf48
theorem chs_at {w : World} {g o : Nat} {l : List Ch} (h : ElsAt chE 3 w g o l) {i : Nat} (hi : i < l.length) :
    w.cell? ⟨g, o + i * 3, none⟩ = some (.string (strOf l[i].key)) ∧ w.cell? ⟨g, o + i * 3 + 1, none⟩ = some (.string (strOf l[i].val)) ∧ w.cell? ⟨g, o + i * 3 + 2, none⟩ = some (.bool l[i].gone) :=
  ⟨by simpa using h i hi 0 _ rfl, h i hi 1 _ rfl, h i hi 2 _ rfl⟩

/-! Locks, and where their holders lie. -/
structure Lv where
  L : Lk
  A : Option Addr
  c : Nat
def lvE (x : Lv) : List Value := [.int .u32 x.L.file, .int .u32 x.L.epoch, .int .u32 x.L.used, .int .u32 x.L.cut, .bool x.L.fenced, .bool x.L.gone, .slice x.A x.L.hs.length x.c]
theorem lvE_length (x : Lv) : (lvE x).length = 7 := rfl
theorem lvE_one (x : Lv) : ∀ v ∈ lvE x, v.oneCell' = true := by
  intro v hv
  simp [lvE] at hv
  rcases hv with rfl | rfl | rfl | rfl | rfl | rfl | rfl <;> rfl
theorem info_lk : (Tryz.prog.info? 45).map (fun i => (i.zero, i.size, i.bytes)) = some (some (.agg #[.int .u32 0, .int .u32 0, .int .u32 0, .int .u32 0, .bool false, .bool false, .slice none 0 0]), 7, 48) := by kernel_rfl
theorem lvs_at {w : World} {g o : Nat} {l : List Lv} (h : ElsAt lvE 7 w g o l) {i : Nat} (hi : i < l.length) :
    w.cell? ⟨g, o + i * 7, none⟩ = some (.int .u32 l[i].L.file) ∧ w.cell? ⟨g, o + i * 7 + 1, none⟩ = some (.int .u32 l[i].L.epoch) ∧ w.cell? ⟨g, o + i * 7 + 2, none⟩ = some (.int .u32 l[i].L.used) ∧ w.cell? ⟨g, o + i * 7 + 3, none⟩ = some (.int .u32 l[i].L.cut) ∧ w.cell? ⟨g, o + i * 7 + 4, none⟩ = some (.bool l[i].L.fenced) ∧ w.cell? ⟨g, o + i * 7 + 5, none⟩ = some (.bool l[i].L.gone) ∧ w.cell? ⟨g, o + i * 7 + 6, none⟩ = some (.slice l[i].A l[i].L.hs.length l[i].c) :=
  ⟨by simpa using h i hi 0 _ rfl, h i hi 1 _ rfl, h i hi 2 _ rfl, h i hi 3 _ rfl, h i hi 4 _ rfl, h i hi 5 _ rfl, h i hi 6 _ rfl⟩
/-- A lock's holders lie where it says. -/
structure LvOk (w : World) (x : Lv) : Prop where
  els : Els holE 2 w x.A x.L.hs
  cap : x.L.hs.length ≤ x.c

/-! A state. -/
structure Sp where
  tA : Option Addr
  tc : Nat
  oA : Option Addr
  oc : Nat
  lA : Option Addr
  lc : Nat
  lv : List Lv
  wA : Option Addr
  wc : Nat
  sA : Option Addr
  sc : Nat
def staA (s : Sta) (p : Sp) : Array Value := #[.int .u32 s.boot, .int .u32 s.next, .slice p.tA s.tree.length p.tc, .slice p.oA s.opens.length p.oc, .slice p.lA s.locks.length p.lc, .slice p.wA s.works.length p.wc, .slice p.sA s.seats.length p.sc]
def staV (s : Sta) (p : Sp) : Value := .agg #[.int .u32 s.boot, .int .u32 s.next, .slice p.tA s.tree.length p.tc, .slice p.oA s.opens.length p.oc, .slice p.lA s.locks.length p.lc, .slice p.wA s.works.length p.wc, .slice p.sA s.seats.length p.sc]
/-- A state of few enough parts lies in memory. -/
structure StM (w : World) (s : Sta) (p : Sp) : Prop where
  tree : Els ndE 5 w p.tA s.tree
  tc : s.tree.length ≤ p.tc
  tl : s.tree.length ≤ 1048576
  opens : Els opE 5 w p.oA s.opens
  oc : s.opens.length ≤ p.oc
  ol : s.opens.length ≤ 1048576
  lks : s.locks = p.lv.map (·.L)
  locks : Els lvE 7 w p.lA p.lv
  lvs : ∀ x ∈ p.lv, LvOk w x
  lc : s.locks.length ≤ p.lc
  ll : s.locks.length ≤ 1048576
  lh : ∀ x ∈ p.lv, x.L.hs.length ≤ 1048576
  works : Els wkE 8 w p.wA s.works
  wc : s.works.length ≤ p.wc
  wl : s.works.length ≤ 1048576
  wd : ∀ x ∈ s.works, x.data.length ≤ 1048576
  seats : Els seaE 21 w p.sA s.seats
  sc : s.seats.length ≤ p.sc
  sl : s.seats.length ≤ 1048576
  fit : s.Fit
theorem StM.kept {w w' : World} {s : Sta} {p : Sp} (h : StM w s p) (k : Only [] w w') : StM w' s p :=
  { h with
    tree := h.tree.kept k (by simp)
    opens := h.opens.kept k (by simp)
    locks := h.locks.kept k (by simp)
    lvs := fun x hx => ⟨(h.lvs x hx).els.kept k (by simp), (h.lvs x hx).cap⟩
    works := h.works.kept k (by simp)
    seats := h.seats.kept k (by simp) }
theorem StM.llen {w : World} {s : Sta} {p : Sp} (h : StM w s p) : s.locks.length = p.lv.length := by rw [h.lks, List.length_map]
/-! Lists that rise. -/
theorem rise_take {α : Type} {f : α → Int} {l : List α} {n : Nat} {x : α} (h : (l.take n).Pairwise (fun a b => f a < f b)) (hx : l[n]? = some x) (hp : ∀ j p, n = j + 1 → l[j]? = some p → f p < f x) : (l.take (n + 1)).Pairwise (fun a b => f a < f b) := by
  rw [List.take_add_one, hx]
  simp only [Option.toList_some]
  rw [List.pairwise_append]
  refine ⟨h, by simp, fun y hy z hz => ?_⟩
  rw [List.mem_singleton] at hz
  subst hz
  have hn : n < l.length := (List.getElem?_eq_some_iff.1 hx).1
  obtain ⟨i, hi, rfl⟩ := List.getElem_of_mem hy
  rw [List.length_take] at hi
  cases n with
  | zero => omega
  | succ j =>
    have hj := hp j l[j] rfl (List.getElem?_eq_getElem (by omega))
    rw [List.getElem_take]
    by_cases e : i = j
    · subst e; exact hj
    · have := (List.pairwise_iff_getElem.1 h) i j (by rw [List.length_take]; omega) (by rw [List.length_take]; omega) (by omega)
      rw [List.getElem_take, List.getElem_take] at this
      omega
theorem rise_bad {α : Type} {f : α → Int} {l : List α} {j : Nat} {x p : α} (hp : l[j]? = some p) (hx : l[j + 1]? = some x) (hn : ¬ f p < f x) : ¬ l.Pairwise (fun a b => f a < f b) := by
  intro h
  obtain ⟨h1, rfl⟩ := List.getElem?_eq_some_iff.1 hp
  obtain ⟨h2, rfl⟩ := List.getElem?_eq_some_iff.1 hx
  exact hn ((List.pairwise_iff_getElem.1 h) j (j + 1) h1 h2 (by omega))
theorem all_take {α : Type} {P : α → Prop} {l : List α} {n : Nat} {x : α} (h : ∀ y ∈ l.take n, P y) (hx : l[n]? = some x) (hp : P x) : ∀ y ∈ l.take (n + 1), P y := by
  intro y hy
  rw [List.take_add_one, hx] at hy
  simp only [Option.toList_some, List.mem_append, List.mem_singleton] at hy
  rcases hy with hy | rfl
  · exact h y hy
  · exact hp
theorem size_sta : (Tryz.prog.info? 29).map (·.size) = some 7 := by kernel_rfl
/-- A boxed state. -/
abbrev Sx (w : World) (g : Nat) (s : Sta) (p : Sp) : Prop := Blk w g 29 (staA s p)
theorem Sx.new (w : World) (s : Sta) (p : Sp) : Sx (w.alloc (.cells #[.int .u32 s.boot, .int .u32 s.next, .slice p.tA s.tree.length p.tc, .slice p.oA s.opens.length p.oc, .slice p.lA s.locks.length p.lc, .slice p.wA s.works.length p.wc, .slice p.sA s.seats.length p.sc] 29)) w.heap.size s p := Blk.new _ _ _
theorem Sx.at {S : List Nat} {w w' : World} {g : Nat} {s : Sta} {p : Sp} (h : Sx w g s p) (k : Only S w w') (hg : g ∉ S) :
    w'.cell? ⟨g, 0, none⟩ = some (.int .u32 s.boot) ∧ w'.cell? ⟨g, 1, none⟩ = some (.int .u32 s.next) ∧ w'.cell? ⟨g, 2, none⟩ = some (.slice p.tA s.tree.length p.tc) ∧ w'.cell? ⟨g, 3, none⟩ = some (.slice p.oA s.opens.length p.oc) ∧ w'.cell? ⟨g, 4, none⟩ = some (.slice p.lA s.locks.length p.lc) ∧ w'.cell? ⟨g, 5, none⟩ = some (.slice p.wA s.works.length p.wc) ∧ w'.cell? ⟨g, 6, none⟩ = some (.slice p.sA s.seats.length p.sc) :=
  have h := Blk.kept h k hg
  ⟨h.cell 0, h.cell 1, h.cell 2, h.cell 3, h.cell 4, h.cell 5, h.cell 6⟩

/-! Whole values out of a list's place. -/
section
variable {P : Program} {ops : Array Oper} {rest : List Oper} {o : Oper} {a : Act} {w : World} {Q : Exit → Act → World → Prop}
theorem wpList_load_at (hw : Region.wanted o (yielded ops a.tmps) = true) (ty : TypeId) (x : Operand) (ho : o.op = .load ty x) (g i : Nat) (hx : a.eval x = .pointer (some ⟨g, i, none⟩)) (cs : List Value) (d : TypeDesc) (hb : w.rangeAt g i cs)
    (hu : P.underlying ty = some d) (hd : d.isRow = true) (hi : (P.info? ty).map (·.size) = some cs.length) (h : wpList P ops Q rest (a.put o.dst (.agg cs.toArray)) w) : wpList P ops Q (o :: rest) a w :=
  wpList_want hw fun _ hK => wp_load_mid ty x ho g i hx cs d hb hu hd hi (hK _ _ h)
end
theorem ElsAt.range {α : Type} {enc : α → List Value} {k : Nat} {w : World} {g o : Nat} {l : List α} (h : ElsAt enc k w g o l) {i : Nat} (hi : i < l.length) : w.rangeAt g (o + i * k) (enc l[i]) := fun j v hj => h i hi j v hj

end Go.Proofs.YtalkhhjfplahkaaGreat
namespace Go.Proofs.YtalkhhjfplahkaaGreat
open Go.RowKit

theorem isClient_any (w : World) (n : Int) (_ : 0 ≤ n) : Calls Tryz.prog 52 #[.int .u32 n] w fun e w' => e = .returned (.bool (cliB n)) ∧ w' = w := by
  unfold cliB
  by_cases h1 : 17 ≤ n
  · have d1 : decide (17 ≤ n) = true := decide_eq_true h1
    by_cases h2 : n < 21
    · have d2 : decide (n < 21) = true := decide_eq_true h2
      rw [d1, d2]
      clear h1 h2
      go_enter Tryz.func52, Tryz.ntmps52
      go_wp2
      go_ret
      exact ⟨rfl, rfl⟩
    · have d2 : decide (n < 21) = false := decide_eq_false h2
      rw [d1, d2]
      clear h1 h2
      go_enter Tryz.func52, Tryz.ntmps52
      go_wp2
      go_ret
      exact ⟨rfl, rfl⟩
  · have d1 : decide (17 ≤ n) = false := decide_eq_false h1
    rw [d1]
    clear h1
    go_enter Tryz.func52, Tryz.ntmps52
    go_wp2
    go_ret
    exact ⟨rfl, rfl⟩

theorem anyB_take {α : Type} {l : List α} {p : α → Bool} {n : Nat} {x : α} (h : l[n]? = some x) : (l.take (n + 1)).any p = ((l.take n).any p || p x) := by
  rw [List.take_add_one, h]
  simp
theorem anyB_at {α : Type} {l : List α} {p : α → Bool} {n : Nat} {x : α} (h : l[n]? = some x) (hp : p x = true) : l.any p = true := List.any_eq_true.2 ⟨x, List.mem_of_getElem? h, hp⟩

theorem fileOf_w (w : World) (x : Nd) (i : Int) (q : Nat) (h : w.cell? ⟨q, 0, none⟩ = some (.int .u32 i)) : Calls Tryz.prog 75 #[ndV x, .pointer (some ⟨q, 0, none⟩)] w fun e w' => e = .returned (.bool (x.id == i && !x.dir)) ∧ Only [] w w' := by
  obtain ⟨x0, x1, x2, x3, x4⟩ := x
  have k : Only [] w (w.alloc (.cells #[.int .u32 x0, .int .u32 x1, .string (strOf x2), .bool x3, .int .u32 x4] 42)) := (Only.refl [] w).alloc _
  have h' := k.cell h (by simp)
  unfold ndV
  simp only
  by_cases e : x0 = i
  · have d : (x0 == i) = true := by simpa using e
    cases x3 with
    | true =>
      rw [d]
      clear e
      go_enter Tryz.func75, Tryz.ntmps75
      go_wp2
      go_ret
      exact ⟨rfl, k⟩
    | false =>
      rw [d]
      clear e
      go_enter Tryz.func75, Tryz.ntmps75
      go_wp2
      go_ret
      exact ⟨rfl, k⟩
  · have d : (x0 == i) = false := by simpa using e
    rw [d]
    clear e
    go_enter Tryz.func75, Tryz.ntmps75
    go_wp2
    go_ret
    exact ⟨rfl, k⟩

set_option maxRecDepth 100000 in
set_option maxHeartbeats 2000000 in
theorem index_nd (w : World) (A : Option Addr) (c : Nat) (l : List Nd) (q : Nat) (p : Nd → Bool) (hb : Els ndE 5 w A l) (hl : l.length ≤ 9223372036854775807)
    (hC : ∀ W, Only [] w W → ∀ x ∈ l, Calls Tryz.prog 75 #[ndV x, .pointer (some ⟨q, 0, none⟩)] W fun e w' => e = .returned (.bool (p x)) ∧ Only [] W w') :
    Calls Tryz.prog 99 #[.slice A l.length c, .func (.func 75) #[] #[.pointer (some ⟨q, 0, none⟩)]] w fun e w' => (∃ r : Int, e = .returned (.int .i64 r) ∧ decide (0 ≤ r) = l.any p) ∧ Only [] w w' := by
  have hlI : (l.length : Int) ≤ 9223372036854775807 := by omega
  replace hC := Lib.hid hC
  go_enter Tryz.func99, Tryz.ntmps99
  go_wp2_with fail
  go_loopw [8] (fun i wr => ∃ n : Nat, n ≤ l.length ∧ i = .int .i64 n ∧ Hid ((l.take n).any p = false) ∧ Only [] w wr) (fun i _ => l.length - (intOf i).toNat)
  case atStart => exact ⟨0, Nat.zero_le _, rfl, rfl, Only.refl _ _⟩
  case round =>
    obtain ⟨n, hn, rfl, hm, hk⟩ := hrel
    by_cases hlt : n < l.length
    · obtain ⟨g, o, rfl, hg, hat⟩ := hb.get hlt
      obtain ⟨c0, c1, c2, c3, c4⟩ := nds_at (hat.kept hk (by simp)) hlt
      have hx : l[n]? = some l[n] := List.getElem?_eq_getElem hlt
      have hst := anyB_take (p := p) hx
      have hyes := anyB_at (p := p) hx
      have hcl := hC.out wr hk l[n] (List.getElem_mem hlt)
      generalize l[n] = x at *
      obtain ⟨x0, x1, x2, x3, x4⟩ := x
      generalize p ⟨x0, x1, x2, x3, x4⟩ = b at *
      unfold ndV at hcl
      simp only at c0 c1 c2 c3 c4 hcl
      replace hcl := Lib.hid hcl
      replace hx := Lib.hid hx
      clear hat
      cases b with
      | true =>
        have hy := Lib.hid (hyes rfl)
        replace hst := Lib.hid hst
        clear hyes
        go_wp2_with fail
        refine hcl.out.mono ?_; rintro e w3 ⟨rfl, k3⟩
        go_wp2
        go_ret
        exact ⟨⟨_, rfl, by rw [hy.out]; exact decide_eq_true (by omega)⟩, hk.trans k3⟩
      | false =>
        have hm' : Hid ((l.take (n + 1)).any p = false) := by rw [hst, hm.out]; rfl
        replace hst := Lib.hid hst
        clear hyes
        go_wp2_with fail
        refine hcl.out.mono ?_; rintro e w3 ⟨rfl, k3⟩
        go_wp2_with fail
        go_roundw
        case rel => exact ⟨n + 1, by omega, by go_num, hm', hk.trans k3⟩
        case measure => simp [intOf]; omega
    · have hm' : Hid (l.any p = false) := by have := hm.out; rwa [List.take_of_length_le (by omega)] at this
      go_wp2
      go_ret
      exact ⟨⟨_, rfl, by rw [hm'.out]; rfl⟩, hk⟩
theorem contains_nd (w : World) (A : Option Addr) (c : Nat) (l : List Nd) (q : Nat) (p : Nd → Bool) (hb : Els ndE 5 w A l) (hl : l.length ≤ 9223372036854775807)
    (hC : ∀ W, Only [] w W → ∀ x ∈ l, Calls Tryz.prog 75 #[ndV x, .pointer (some ⟨q, 0, none⟩)] W fun e w' => e = .returned (.bool (p x)) ∧ Only [] W w') :
    Calls Tryz.prog 74 #[.slice A l.length c, .func (.func 75) #[] #[.pointer (some ⟨q, 0, none⟩)]] w fun e w' => e = .returned (.bool (l.any p)) ∧ Only [] w w' := by
  replace hC := Lib.hid hC
  go_enter Tryz.func74, Tryz.ntmps74
  go_wp2_with fail
  refine (index_nd _ A c l q p hb hl hC.out).mono ?_
  rintro e w1 ⟨⟨r, rfl, hr⟩, k1⟩
  replace hr := Lib.hid hr
  go_wp2
  go_ret
  exact ⟨by rw [← hr.out]; rfl, k1⟩

theorem isFile_any (w : World) (s : Sta) (p : Sp) (i : Int) (h : StM w s p) : Calls Tryz.prog 53 #[staV s p, .int .u32 i] w fun e w' => e = .returned (.bool (isFileL s.tree i)) ∧ Only [] w w' := by
  have hb := h.tree
  have hl := h.tl
  unfold isFileL staV
  clear h
  obtain ⟨b, n, t, o, l, x, y⟩ := s
  obtain ⟨tA, tc, oA, oc, lA, lc, lv, wA, wc, sA, sc⟩ := p
  simp only at hb hl ⊢
  have k : Only [] w ((w.alloc (.cells #[.int .u32 b, .int .u32 n, .slice tA t.length tc, .slice oA o.length oc, .slice lA l.length lc, .slice wA x.length wc, .slice sA y.length sc] 29)).alloc (.cells #[.int .u32 i] 22)) := ((Only.refl [] w).alloc _).alloc _
  have hq : ((w.alloc (.cells #[.int .u32 b, .int .u32 n, .slice tA t.length tc, .slice oA o.length oc, .slice lA l.length lc, .slice wA x.length wc, .slice sA y.length sc] 29)).alloc (.cells #[.int .u32 i] 22)).cell? ⟨w.heap.size + 1, 0, none⟩ = some (.int .u32 i) := by
    simp
  have hc := contains_nd _ tA tc t (w.heap.size + 1) (fun n => n.id == i && !n.dir) (hb.kept k (by simp)) (by omega) (fun W kW x _ => fileOf_w W x i _ (kW.cell hq (by simp)))
  replace hc := Lib.hid hc
  clear hq hb hl
  go_enter Tryz.func53, Tryz.ntmps53
  go_wp2_with fail
  refine hc.out.mono ?_; rintro e w1 ⟨rfl, k1⟩
  go_wp2
  go_ret
  exact ⟨rfl, k.trans k1⟩

end Go.Proofs.YtalkhhjfplahkaaGreat
namespace Go.Proofs.YtalkhhjfplahkaaGreat
open Go.RowKit

theorem strangeO_w (w : World) (s : Sta) (p : Sp) (x : Opn) (q : Nat) (h : StM w s p) (hq : Sx w q s p) (hx : x.Fit) : Calls Tryz.prog 51 #[opV x, .pointer (some ⟨q, 0, none⟩)] w fun e w' => e = .returned (.bool (!cliB x.client || !isFileL s.tree x.file)) ∧ Only [] w w' := by
  have hC := fun W => isClient_any W x.client hx.client.1
  have k : Only [] w (w.alloc (.cells #[.int .u32 x.client, .int .u32 x.handle, .int .u32 x.file, .int .u32 x.access, .int .u32 (x.deny : Int)] 61)) := (Only.refl [] w).alloc _
  have hF := isFile_any _ s p x.file (h.kept k)
  obtain ⟨c0, c1, c2, c3, c4, c5, c6⟩ := hq.at k (by simp)
  have hq1 : q < w.heap.size := hq.lt
  have hq2 : ¬ w.heap.size = q := by omega
  generalize cliB x.client = b1 at *
  generalize isFileL s.tree x.file = b2 at *
  unfold staV at hF
  obtain ⟨x0, x1, x2, x3, x4⟩ := x
  obtain ⟨b, n, t, o, l, y, z⟩ := s
  obtain ⟨tA, tc, oA, oc, lA, lc, lv, wA, wc, sA, sc⟩ := p
  unfold opV
  simp only at hC hF k c0 c1 c2 c3 c4 c5 c6 ⊢
  replace hC := Lib.hid hC
  replace hF := Lib.hid hF
  clear hx h hq
  cases b1 with
  | false =>
    go_enter Tryz.func51, Tryz.ntmps51
    go_wp2_with fail
    refine (hC.out _).mono ?_; rintro e w1 ⟨rfl, rfl⟩
    go_wp2
    go_ret
    exact ⟨rfl, k⟩
  | true =>
    go_enter Tryz.func51, Tryz.ntmps51
    go_wp2_with fail
    refine (hC.out _).mono ?_; rintro e w1 ⟨rfl, rfl⟩
    go_wp2_with fail
    refine hF.out.mono ?_; rintro e w2 ⟨rfl, k2⟩
    go_wp2
    go_ret
    exact ⟨by cases b2 <;> rfl, k.trans k2⟩

theorem strangeH_w (w : World) (x : Hol) (hx : x.Fit) : Calls Tryz.prog 81 #[holV x] w fun e w' => e = .returned (.bool (!(x.client == 0) && !cliB x.client)) ∧ Only [] w w' := by
  have hC := fun W => isClient_any W x.client hx.client.1
  have k : Only [] w (w.alloc (.cells #[.int .u32 x.client, .int .u32 x.mode] 91)) := (Only.refl [] w).alloc _
  generalize cliB x.client = b1 at *
  obtain ⟨x0, x1⟩ := x
  unfold holV
  simp only at hC k ⊢
  replace hC := Lib.hid hC
  clear hx
  by_cases e0 : x0 = 0
  · subst e0
    go_enter Tryz.func81, Tryz.ntmps81
    go_wp2
    go_ret
    exact ⟨rfl, k⟩
  · have d0 : (x0 == 0) = false := by simpa using e0
    have d1 : (x0 != 0) = true := by simpa using e0
    rw [d0]
    clear e0
    go_enter Tryz.func81, Tryz.ntmps81
    go_wp2_with fail
    refine (hC.out _).mono ?_; rintro e w1 ⟨rfl, rfl⟩
    go_wp2
    go_ret
    exact ⟨by cases b1 <;> rfl, k⟩

set_option maxRecDepth 100000 in
set_option maxHeartbeats 2000000 in
theorem index_op (w : World) (A : Option Addr) (c : Nat) (l : List Opn) (q : Nat) (p : Opn → Bool) (hb : Els opE 5 w A l) (hl : l.length ≤ 9223372036854775807)
    (hC : ∀ W, Only [] w W → ∀ x ∈ l, Calls Tryz.prog 51 #[opV x, .pointer (some ⟨q, 0, none⟩)] W fun e w' => e = .returned (.bool (p x)) ∧ Only [] W w') :
    Calls Tryz.prog 80 #[.slice A l.length c, .func (.func 51) #[] #[.pointer (some ⟨q, 0, none⟩)]] w fun e w' => (∃ r : Int, e = .returned (.int .i64 r) ∧ decide (0 ≤ r) = l.any p) ∧ Only [] w w' := by
  have hlI : (l.length : Int) ≤ 9223372036854775807 := by omega
  replace hC := Lib.hid hC
  go_enter Tryz.func80, Tryz.ntmps80
  go_wp2_with fail
  go_loopw [8] (fun i wr => ∃ n : Nat, n ≤ l.length ∧ i = .int .i64 n ∧ Hid ((l.take n).any p = false) ∧ Only [] w wr) (fun i _ => l.length - (intOf i).toNat)
  case atStart => exact ⟨0, Nat.zero_le _, rfl, rfl, Only.refl _ _⟩
  case round =>
    obtain ⟨n, hn, rfl, hm, hk⟩ := hrel
    by_cases hlt : n < l.length
    · obtain ⟨g, o, rfl, hg, hat⟩ := hb.get hlt
      obtain ⟨c0, c1, c2, c3, c4⟩ := ops_at (hat.kept hk (by simp)) hlt
      have hx : l[n]? = some l[n] := List.getElem?_eq_getElem hlt
      have hst := anyB_take (p := p) hx
      have hyes := anyB_at (p := p) hx
      have hcl := hC.out wr hk l[n] (List.getElem_mem hlt)
      generalize l[n] = x at *
      obtain ⟨x0, x1, x2, x3, x4⟩ := x
      generalize p ⟨x0, x1, x2, x3, x4⟩ = b at *
      unfold opV at hcl
      simp only at c0 c1 c2 c3 c4 hcl
      replace hcl := Lib.hid hcl
      replace hx := Lib.hid hx
      clear hat
      cases b with
      | true =>
        have hy := Lib.hid (hyes rfl)
        replace hst := Lib.hid hst
        clear hyes
        go_wp2_with fail
        refine hcl.out.mono ?_; rintro e w3 ⟨rfl, k3⟩
        go_wp2
        go_ret
        exact ⟨⟨_, rfl, by rw [hy.out]; exact decide_eq_true (by omega)⟩, hk.trans k3⟩
      | false =>
        have hm' : Hid ((l.take (n + 1)).any p = false) := by rw [hst, hm.out]; rfl
        replace hst := Lib.hid hst
        clear hyes
        go_wp2_with fail
        refine hcl.out.mono ?_; rintro e w3 ⟨rfl, k3⟩
        go_wp2_with fail
        go_roundw
        case rel => exact ⟨n + 1, by omega, by go_num, hm', hk.trans k3⟩
        case measure => simp [intOf]; omega
    · have hm' : Hid (l.any p = false) := by have := hm.out; rwa [List.take_of_length_le (by omega)] at this
      go_wp2
      go_ret
      exact ⟨⟨_, rfl, by rw [hm'.out]; rfl⟩, hk⟩
theorem contains_op (w : World) (A : Option Addr) (c : Nat) (l : List Opn) (q : Nat) (p : Opn → Bool) (hb : Els opE 5 w A l) (hl : l.length ≤ 9223372036854775807)
    (hC : ∀ W, Only [] w W → ∀ x ∈ l, Calls Tryz.prog 51 #[opV x, .pointer (some ⟨q, 0, none⟩)] W fun e w' => e = .returned (.bool (p x)) ∧ Only [] W w') :
    Calls Tryz.prog 55 #[.slice A l.length c, .func (.func 51) #[] #[.pointer (some ⟨q, 0, none⟩)]] w fun e w' => e = .returned (.bool (l.any p)) ∧ Only [] w w' := by
  replace hC := Lib.hid hC
  go_enter Tryz.func55, Tryz.ntmps55
  go_wp2_with fail
  refine (index_op _ A c l q p hb hl hC.out).mono ?_
  rintro e w1 ⟨⟨r, rfl, hr⟩, k1⟩
  replace hr := Lib.hid hr
  go_wp2
  go_ret
  exact ⟨by rw [← hr.out]; rfl, k1⟩

set_option maxRecDepth 100000 in
set_option maxHeartbeats 2000000 in
theorem index_hol (w : World) (A : Option Addr) (c : Nat) (l : List Hol) (p : Hol → Bool) (hb : Els holE 2 w A l) (hl : l.length ≤ 9223372036854775807)
    (hC : ∀ W, Only [] w W → ∀ x ∈ l, Calls Tryz.prog 81 #[holV x] W fun e w' => e = .returned (.bool (p x)) ∧ Only [] W w') :
    Calls Tryz.prog 107 #[.slice A l.length c, .func (.func 81) #[] #[]] w fun e w' => (∃ r : Int, e = .returned (.int .i64 r) ∧ decide (0 ≤ r) = l.any p) ∧ Only [] w w' := by
  have hlI : (l.length : Int) ≤ 9223372036854775807 := by omega
  replace hC := Lib.hid hC
  go_enter Tryz.func107, Tryz.ntmps107
  go_wp2_with fail
  go_loopw [8] (fun i wr => ∃ n : Nat, n ≤ l.length ∧ i = .int .i64 n ∧ Hid ((l.take n).any p = false) ∧ Only [] w wr) (fun i _ => l.length - (intOf i).toNat)
  case atStart => exact ⟨0, Nat.zero_le _, rfl, rfl, Only.refl _ _⟩
  case round =>
    obtain ⟨n, hn, rfl, hm, hk⟩ := hrel
    by_cases hlt : n < l.length
    · obtain ⟨g, o, rfl, hg, hat⟩ := hb.get hlt
      obtain ⟨c0, c1⟩ := hols_at (hat.kept hk (by simp)) hlt
      have hx : l[n]? = some l[n] := List.getElem?_eq_getElem hlt
      have hst := anyB_take (p := p) hx
      have hyes := anyB_at (p := p) hx
      have hcl := hC.out wr hk l[n] (List.getElem_mem hlt)
      generalize l[n] = x at *
      obtain ⟨x0, x1⟩ := x
      generalize p ⟨x0, x1⟩ = b at *
      unfold holV at hcl
      simp only at c0 c1 hcl
      replace hcl := Lib.hid hcl
      replace hx := Lib.hid hx
      clear hat
      cases b with
      | true =>
        have hy := Lib.hid (hyes rfl)
        replace hst := Lib.hid hst
        clear hyes
        go_wp2_with fail
        refine hcl.out.mono ?_; rintro e w3 ⟨rfl, k3⟩
        go_wp2
        go_ret
        exact ⟨⟨_, rfl, by rw [hy.out]; exact decide_eq_true (by omega)⟩, hk.trans k3⟩
      | false =>
        have hm' : Hid ((l.take (n + 1)).any p = false) := by rw [hst, hm.out]; rfl
        replace hst := Lib.hid hst
        clear hyes
        go_wp2_with fail
        refine hcl.out.mono ?_; rintro e w3 ⟨rfl, k3⟩
        go_wp2_with fail
        go_roundw
        case rel => exact ⟨n + 1, by omega, by go_num, hm', hk.trans k3⟩
        case measure => simp [intOf]; omega
    · have hm' : Hid (l.any p = false) := by have := hm.out; rwa [List.take_of_length_le (by omega)] at this
      go_wp2
      go_ret
      exact ⟨⟨_, rfl, by rw [hm'.out]; rfl⟩, hk⟩
theorem contains_hol (w : World) (A : Option Addr) (c : Nat) (l : List Hol) (p : Hol → Bool) (hb : Els holE 2 w A l) (hl : l.length ≤ 9223372036854775807)
    (hC : ∀ W, Only [] w W → ∀ x ∈ l, Calls Tryz.prog 81 #[holV x] W fun e w' => e = .returned (.bool (p x)) ∧ Only [] W w') :
    Calls Tryz.prog 83 #[.slice A l.length c, .func (.func 81) #[] #[]] w fun e w' => e = .returned (.bool (l.any p)) ∧ Only [] w w' := by
  replace hC := Lib.hid hC
  go_enter Tryz.func83, Tryz.ntmps83
  go_wp2_with fail
  refine (index_hol _ A c l p hb hl hC.out).mono ?_
  rintro e w1 ⟨⟨r, rfl, hr⟩, k1⟩
  replace hr := Lib.hid hr
  go_wp2
  go_ret
  exact ⟨by rw [← hr.out]; rfl, k1⟩

end Go.Proofs.YtalkhhjfplahkaaGreat
