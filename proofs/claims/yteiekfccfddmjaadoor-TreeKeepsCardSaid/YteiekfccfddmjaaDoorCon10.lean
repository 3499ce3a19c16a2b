/- Does one lie inside another one: the program's contains (its recursive closure), height. -/
import Derived.Test.YteiekfccfddmjaaDoorFind11
namespace Go.Proofs.YteiekfccfddmjaaDoor
open Go.RowKit

def insF (l : List Nd) : Nat → Int → Int → Bool
  | 0, d, i => i == d
  | k + 1, d, i => if i = d then true else if i = 1 then false else match getI l i with
    | some x => insF l k d x.par
    | none => false
def insB (l : List Nd) (d i : Int) : Bool := insF l 7 d i
theorem insF_step (l : List Nd) (k : Nat) (d i : Int) : insF l (k + 1) d i = if i = d then true else if i = 1 then false else match getI l i with
    | some x => insF l k d x.par
    | none => false := rfl
theorem insF_one (l : List Nd) (k : Nat) (d : Int) : insF l k d 1 = ((1 : Int) == d) := by
  cases k with
  | zero => rfl
  | succ k =>
    rw [insF_step]
    by_cases h : (1 : Int) = d <;> simp [h]
theorem insF_same (l : List Nd) (k : Nat) (d : Int) : insF l k d d = true := by
  cases k with
  | zero => simp [insF]
  | succ k => simp [insF_step]

set_option maxRecDepth 100000 in
set_option maxHeartbeats 4000000 in
theorem inside_any (A : Option Addr) (c : Nat) (l : List Nd) (hl : l.length ≤ 1048576) (hT : Tree l) (dir : Int) (bd bt bf : Nat) : ∀ (k f : Nat) (i : Int) (w : World), k ≤ f → up (parF l) k i = some 1 → (∃ x ∈ l, x.id = i) →
    Els ndE 5 w A l → w.cell? ⟨bd, 0, none⟩ = some (.int .u32 dir) → w.cell? ⟨bt, 0, none⟩ = some (.slice A l.length c) → w.cell? ⟨bf, 0, none⟩ = some (.func (.func 72) #[] #[.pointer (some ⟨bd, 0, none⟩), .pointer (some ⟨bt, 0, none⟩), .pointer (some ⟨bf, 0, none⟩)]) →
    Calls Tryd.prog 72 #[.int .u32 i, .pointer (some ⟨bd, 0, none⟩), .pointer (some ⟨bt, 0, none⟩), .pointer (some ⟨bf, 0, none⟩)] w fun e w' => e = .returned (.bool (insF l f dir i)) ∧ Only [] w w' := by
  intro k
  induction k with
  | zero =>
    intro f i w hf hu hi hb hd ht hfn
    simp only [up, Option.some.injEq] at hu
    subst hu
    rw [insF_one]
    have e1 : ((1 : Int) == dir) = ((1 : Int) == dir) := rfl
    clear hi hb ht hfn hT
    by_cases h1 : (1 : Int) = dir
    · subst h1
      go_enter Tryd.func72, Tryd.ntmps72
      go_wp2
      go_ret
      exact ⟨rfl, Only.refl _ _⟩
    · have h1b : ((1 : Int) == dir) = false := by simpa using h1
      rw [h1b]
      go_enter Tryd.func72, Tryd.ntmps72
      go_wp2
      go_ret
      exact ⟨rfl, Only.refl _ _⟩
  | succ k ih =>
    intro f i w hf hu hi hb hd ht hfn
    obtain ⟨f', rfl⟩ : ∃ f', f = f' + 1 := ⟨f - 1, by omega⟩
    have hi1 : i ≠ 1 := fun e => by
      rw [e] at hu
      have := up_uniq hT.par1 hT.par0 hu (b := 0) rfl
      omega
    rw [insF_step]
    by_cases h1 : i = dir
    · subst h1
      rw [if_pos rfl]
      clear ih hu hi hb ht hfn hT
      go_enter Tryd.func72, Tryd.ntmps72
      go_wp2
      go_ret
      exact ⟨rfl, Only.refl _ _⟩
    rw [if_neg h1, if_neg hi1]
    obtain ⟨x, hx, hxi⟩ := hi
    have hg : getI l i = some x := by rw [← hxi]; exact hT.get hx
    have hpar : up (parF l) k x.par = some 1 := by
      rw [← hxi] at hu
      simpa [up, hT.parF_of hx] using hu
    have hx1 : x.id ≠ 1 := by rw [hxi]; exact hi1
    obtain ⟨p, hp, _⟩ := hT.dirs x (hT.tail_of hx hx1)
    have hpm := getI_mem hp
    have hpo := getI_pos hT.rise hg
    have hpl := place_any w A c l i hb hT.rise hl
    rw [hg] at hpl ⊢
    simp only [Option.isSome_some] at hpl ⊢
    generalize posN l i = po at *
    have hlt : po < l.length := (List.getElem?_eq_some_iff.1 hpo).1
    have hxe : l[po] = x := (List.getElem?_eq_some_iff.1 hpo).2
    obtain ⟨g, o, rfl, _, hat⟩ := hb.get hlt
    have hIH := fun W (kk : Only [] w W) => ih f' x.par W (by omega) hpar ⟨p, hpm.1, hpm.2⟩ (hb.kept kk (by simp)) (kk.cell hd (by simp)) (kk.cell ht (by simp)) (kk.cell hfn (by simp))
    have hcl := fun W (kk : Only [] w W) => (nds_at (hat.kept kk (by simp)) hlt).2.1
    rw [hxe] at hcl
    have hpI : (po : Int) < (l.length : Int) := by omega
    have hp0 : (0 : Int) ≤ (po : Int) := by omega
    have h1b : (i == dir) = false := by simpa using h1
    have hi1b : (i == 1) = false := by simpa using hi1
    generalize x.par = xp at *
    generalize insF l f' dir xp = r at *
    replace hIH := Lib.hid hIH
    replace hcl := Lib.hid hcl
    replace hpl := Lib.hid hpl
    have KP : Hid (∀ w', Only [] w w' → w'.cell? ⟨bt, 0, none⟩ = some (.slice (some ⟨g, o, none⟩) l.length c) ∧ w'.cell? ⟨bf, 0, none⟩ = some (.func (.func 72) #[] #[.pointer (some ⟨bd, 0, none⟩), .pointer (some ⟨bt, 0, none⟩), .pointer (some ⟨bf, 0, none⟩)]) ∧ w'.cell? ⟨g, o + po * 5 + 1, none⟩ = some (.int .u32 xp)) := fun w' kk => ⟨kk.cell ht (by simp), kk.cell hfn (by simp), hcl.out w' kk⟩
    clear ih hu hpar hx hxi hg hpo hxe hat hp hpm hT hx1 h1 hi1 hf
    go_enter Tryd.func72, Tryd.ntmps72
    go_wp2_with fail
    refine hpl.out.mono ?_; rintro e w2 ⟨rfl, k2⟩
    clear hd ht hfn
    go_wp2_with fail
    go_region_held3 (fun w' => w'.cell? ⟨bt, 0, none⟩ = some (.slice (some ⟨g, o, none⟩) l.length c) ∧ w'.cell? ⟨bf, 0, none⟩ = some (.func (.func 72) #[] #[.pointer (some ⟨bd, 0, none⟩), .pointer (some ⟨bt, 0, none⟩), .pointer (some ⟨bf, 0, none⟩)]) ∧ w'.cell? ⟨g, o + po * 5 + 1, none⟩ = some (.int .u32 xp))
      (first | with_reducible exact KP.out _ k2.drew | with_reducible exact KP.out _ k3)
      (first | (go_at_call 72; refine (hIH.out _ k2.drew).mono ?_; rintro e w3 ⟨rfl, k3⟩; replace k3 := k2.trans k3.undrew))
    go_wp2
    go_ret
    exact ⟨rfl, k3⟩

set_option maxRecDepth 100000 in
set_option maxHeartbeats 4000000 in
theorem contains_any (w : World) (A : Option Addr) (c : Nat) (l : List Nd) (dir i : Int) (hb : Els ndE 5 w A l) (hl : l.length ≤ 1048576) (hT : Tree l) (hi : ∃ x ∈ l, x.id = i) :
    Calls Tryd.prog 59 #[.slice A l.length c, .int .u32 dir, .int .u32 i] w fun e w' => e = .returned (.bool (insB l dir i)) ∧ Only [] w w' := by
  obtain ⟨k, hk, hu⟩ : ∃ k, k ≤ 6 ∧ up (parF l) k i = some 1 := by
    obtain ⟨x, hx, rfl⟩ := hi
    exact hT.depth hx
  have hmf : ∀ (fn : Fn) (first cap : Array Value) (w : World), (Instr.makeFunc fn first cap).run Tryd.prog w = .ok (.func fn first cap) w := fun _ _ _ _ => rfl
  have hIn := fun W bd bt bf (kk : Only [] w W) h1 h2 h3 => inside_any A c l hl hT dir bd bt bf k 7 i W (by omega) hu hi (hb.kept kk (by simp)) h1 h2 h3
  have e1 : insB l dir i = insF l 7 dir i := rfl
  rw [e1]
  generalize insF l 7 dir i = r at *
  replace hIn := Lib.hid hIn
  clear hu hi hT hb e1
  have hb3 : Blk (((w.alloc (.cells #[.slice A l.length c] 22)).alloc (.cells #[.int .u32 dir] 23)).alloc (.cells #[.nilFunc] 99)) (w.heap.size + 1 + 1) 99 #[.nilFunc] := by
    have := Blk.new ((w.alloc (.cells #[.slice A l.length c] 22)).alloc (.cells #[.int .u32 dir] 23)) 99 #[.nilFunc]
    rwa [show ((w.alloc (.cells #[.slice A l.length c] 22)).alloc (.cells #[.int .u32 dir] 23)).heap.size = w.heap.size + 1 + 1 by simp] at this
  have hst : ∀ V, V.oneCell' = true → (store ⟨w.heap.size + 1 + 1, 0, none⟩ V).run Tryd.prog (((w.alloc (.cells #[.slice A l.length c] 22)).alloc (.cells #[.int .u32 dir] 23)).alloc (.cells #[.nilFunc] 99)) = .ok () ((((w.alloc (.cells #[.slice A l.length c] 22)).alloc (.cells #[.int .u32 dir] 23)).alloc (.cells #[.nilFunc] 99)).setCell ⟨w.heap.size + 1 + 1, 0, none⟩ V) := fun V h => by
    rw [run_store Tryd.prog _ _ V _ h, hb3.cell 0]
    simp [hb3.free 0]
  have hst := hst (.func (.func 72) #[] #[.pointer (some ⟨w.heap.size + 1, 0, none⟩), .pointer (some ⟨w.heap.size, 0, none⟩), .pointer (some ⟨w.heap.size + 1 + 1, 0, none⟩)]) rfl
  go_enter Tryd.func59, Tryd.ntmps59
  go_wp2_with (simp only [hst])
  have hk : Only [] w (((w.alloc (.cells #[.slice A l.length c] 22)).alloc (.cells #[.int .u32 dir] 23)).alloc (.cells #[.func (.func 72) #[] #[.pointer (some ⟨w.heap.size + 1, 0, none⟩), .pointer (some ⟨w.heap.size, 0, none⟩), .pointer (some ⟨w.heap.size + 1 + 1, 0, none⟩)]] 99)) := (((Only.refl [] w).alloc _).alloc _).alloc _
  have h1 : Blk (((w.alloc (.cells #[.slice A l.length c] 22)).alloc (.cells #[.int .u32 dir] 23)).alloc (.cells #[.func (.func 72) #[] #[.pointer (some ⟨w.heap.size + 1, 0, none⟩), .pointer (some ⟨w.heap.size, 0, none⟩), .pointer (some ⟨w.heap.size + 1 + 1, 0, none⟩)]] 99)) w.heap.size 22 #[.slice A l.length c] := ((Blk.new w _ _).alloc _).alloc _
  have h2 : Blk (((w.alloc (.cells #[.slice A l.length c] 22)).alloc (.cells #[.int .u32 dir] 23)).alloc (.cells #[.func (.func 72) #[] #[.pointer (some ⟨w.heap.size + 1, 0, none⟩), .pointer (some ⟨w.heap.size, 0, none⟩), .pointer (some ⟨w.heap.size + 1 + 1, 0, none⟩)]] 99)) (w.heap.size + 1) 23 #[.int .u32 dir] := by
    have := (Blk.new (w.alloc (.cells #[.slice A l.length c] 22)) 23 #[.int .u32 dir]).alloc (.cells #[.func (.func 72) #[] #[.pointer (some ⟨w.heap.size + 1, 0, none⟩), .pointer (some ⟨w.heap.size, 0, none⟩), .pointer (some ⟨w.heap.size + 1 + 1, 0, none⟩)]] 99)
    rwa [show (w.alloc (.cells #[.slice A l.length c] 22)).heap.size = w.heap.size + 1 by simp] at this
  have h3 : Blk (((w.alloc (.cells #[.slice A l.length c] 22)).alloc (.cells #[.int .u32 dir] 23)).alloc (.cells #[.func (.func 72) #[] #[.pointer (some ⟨w.heap.size + 1, 0, none⟩), .pointer (some ⟨w.heap.size, 0, none⟩), .pointer (some ⟨w.heap.size + 1 + 1, 0, none⟩)]] 99)) (w.heap.size + 1 + 1) 99 #[.func (.func 72) #[] #[.pointer (some ⟨w.heap.size + 1, 0, none⟩), .pointer (some ⟨w.heap.size, 0, none⟩), .pointer (some ⟨w.heap.size + 1 + 1, 0, none⟩)]] := by
    have := Blk.new ((w.alloc (.cells #[.slice A l.length c] 22)).alloc (.cells #[.int .u32 dir] 23)) 99 #[.func (.func 72) #[] #[.pointer (some ⟨w.heap.size + 1, 0, none⟩), .pointer (some ⟨w.heap.size, 0, none⟩), .pointer (some ⟨w.heap.size + 1 + 1, 0, none⟩)]]
    rwa [show ((w.alloc (.cells #[.slice A l.length c] 22)).alloc (.cells #[.int .u32 dir] 23)).heap.size = w.heap.size + 1 + 1 by simp] at this
  refine (hIn.out _ _ _ _ hk (h2.cell 0) (h1.cell 0) (h3.cell 0)).mono ?_; rintro e w5 ⟨rfl, k5⟩
  go_wp2
  go_ret
  exact ⟨rfl, hk.trans k5⟩

/-- How much deeper than n lies what is inside it. -/
def depN (l : List Nd) (x : Nd) : Nat := (dpP l 6 x).getD 7
def hgtF (l : List Nd) (n : Nd) (m : Nat) (x : Nd) : Nat := if insB l n.id x.id = true then max m (depN l x - depN l n) else m
def hgtN (l : List Nd) (n : Nd) : Nat := l.foldl (hgtF l n) 0
theorem insF_up {l : List Nd} (hT : Tree l) : ∀ (k : Nat) (d i : Int) (a : Nat), up (parF l) a i = some 1 → a ≤ k → (insF l k d i = true ↔ ∃ j, j ≤ a ∧ up (parF l) j i = some d) := by
  intro k
  induction k with
  | zero =>
    intro d i a ha hk
    obtain rfl : a = 0 := by omega
    simp only [up, Option.some.injEq] at ha
    subst ha
    simp only [insF, beq_iff_eq]
    constructor
    · rintro h
      exact ⟨0, Nat.le_refl _, by simp [up, h]⟩
    · rintro ⟨j, hj, hu⟩
      obtain rfl : j = 0 := by omega
      simpa [up] using hu
  | succ k ih =>
    intro d i a ha hk
    rw [insF_step]
    by_cases h1 : i = d
    · rw [if_pos h1]
      simp only [true_iff]
      exact ⟨0, Nat.zero_le _, by simp [up, h1]⟩
    rw [if_neg h1]
    by_cases h2 : i = 1
    · rw [if_pos h2]
      subst h2
      have h0 := up_uniq hT.par1 hT.par0 ha (b := 0) rfl
      subst h0
      simp only [Bool.false_eq_true, false_iff]
      rintro ⟨j, hj, hu⟩
      obtain rfl : j = 0 := by omega
      simp [up] at hu
      exact h1 hu
    rw [if_neg h2]
    obtain ⟨b, rfl⟩ : ∃ b, a = b + 1 := by
      cases a with
      | zero => simp [up] at ha; exact absurd ha h2
      | succ b => exact ⟨b, rfl⟩
    have ha0 := ha
    simp only [up, parF] at ha
    cases hg : getI l i with
    | none => rw [hg] at ha; simp at ha
    | some x =>
      rw [hg] at ha
      simp only [Option.map_some, Option.bind_some] at ha
      have ih2 := ih d x.par b ha (by omega)
      simp only
      rw [ih2]
      constructor
      · rintro ⟨j, hj, hu⟩
        exact ⟨j + 1, by omega, by simpa [up, parF, hg] using hu⟩
      · rintro ⟨j, hj, hu⟩
        cases j with
        | zero => simp [up] at hu; exact absurd hu h1
        | succ j => exact ⟨j, by omega, by simpa [up, parF, hg] using hu⟩
theorem insB_iff {l : List Nd} (hT : Tree l) {d i : Int} (hi : ∃ x ∈ l, x.id = i) (hd : d ≠ 0) : insB l d i = true ↔ Ins l d i := by
  obtain ⟨x, hx, rfl⟩ := hi
  obtain ⟨k, hk, hu⟩ := hT.depth hx
  unfold insB Ins
  rw [insF_up hT 7 d x.id k hu (by omega)]
  constructor
  · rintro ⟨j, _, h⟩
    exact ⟨j, h⟩
  · rintro ⟨j, h⟩
    exact ⟨j, (up_split hT.par1 hT.par0 hu h hd).1, h⟩
theorem depN_of {l : List Nd} (hT : Tree l) {x : Nd} (hx : x ∈ l) {k : Nat} (hu : up (parF l) k x.id = some 1) : depN l x = k ∧ k ≤ 6 := by
  obtain ⟨a, ha, hua⟩ := hT.depth hx
  have := up_uniq hT.par1 hT.par0 hu hua
  subst this
  exact ⟨by rw [depN, hT.dpP_of 6 hx hu ha]; rfl, ha⟩
theorem depN_le {l : List Nd} (hT : Tree l) {n x : Nd} (hn : n ∈ l) (hx : x ∈ l) (h : insB l n.id x.id = true) : depN l n ≤ depN l x := by
  have hn1 := hT.pos hn
  obtain ⟨j, hj⟩ := (insB_iff hT ⟨x, hx, rfl⟩ (by omega)).1 h
  obtain ⟨a, ha, hua⟩ := hT.depth hx
  obtain ⟨h1, h2⟩ := up_split hT.par1 hT.par0 hua hj (by omega)
  rw [(depN_of hT hx hua).1, (depN_of hT hn h2).1]
  omega
theorem depN_six {l : List Nd} (hT : Tree l) {x : Nd} (hx : x ∈ l) : depN l x ≤ 6 := by
  obtain ⟨a, ha, hua⟩ := hT.depth hx
  rw [(depN_of hT hx hua).1]
  exact ha
theorem hgt_take {l : List Nd} {n : Nd} {k : Nat} {x : Nd} (h : l[k]? = some x) : (l.take (k + 1)).foldl (hgtF l n) 0 = hgtF l n ((l.take k).foldl (hgtF l n) 0) x := by
  rw [get_snoc h, List.foldl_append]
  rfl

set_option maxRecDepth 100000 in
set_option maxHeartbeats 4000000 in
theorem height_any (w : World) (A : Option Addr) (c : Nat) (l : List Nd) (n : Nd) (hb : Els ndE 5 w A l) (hl : l.length ≤ 1000) (hT : Tree l) (hn : n ∈ l) :
    Calls Tryd.prog 60 #[.slice A l.length c, ndV n] w fun e w' => e = .returned (.int .i64 (hgtN l n : Nat)) ∧ Only [] w w' := by
  have hlI : (l.length : Int) ≤ 1000 := by omega
  have hC := fun W (k : Only [] w W) i hi => contains_any W A c l n.id i (hb.kept k (by simp)) (by omega) hT hi
  have hD := fun W (k : Only [] w W) x => depth_any W A c l x (hb.kept k (by simp)) hT.rise (by omega)
  have hle := fun x (hx : x ∈ l) (h : insB l n.id x.id = true) => depN_le hT hn hx h
  have h6 := fun x (hx : x ∈ l) => depN_six hT hx
  have hn6 := depN_six hT hn
  obtain ⟨R, hR⟩ : ∃ R, R = hgtN l n := ⟨_, rfl⟩
  rw [← hR]
  have hDn := fun W (k : Only [] w W) => hD W k n
  have hdn : (dpP l 6 n).getD 7 = depN l n := rfl
  rw [hdn] at hDn
  have hstep := fun (k : Nat) (x : Nd) (h : l[k]? = some x) => hgt_take (n := n) h
  have hFd : ∀ m x, hgtF l n m x = if insB l n.id x.id = true then max m (depN l x - depN l n) else m := fun _ _ => rfl
  unfold hgtN at hR
  generalize hF : hgtF l n = F at *
  generalize hdd : depN l n = dn at *
  obtain ⟨n0, n1, n2, n3, n4⟩ := n
  simp only at hC hle hFd
  have hb0 := Bx.new w ⟨n0, n1, n2, n3, n4⟩
  have hk0 := (Only.refl [] w).alloc (.cells #[.int .u32 n0, .int .u32 n1, .string (strOf n2), .bool n3, .int .u32 n4] 28)
  simp only at hb0
  have hv : ndV ⟨n0, n1, n2, n3, n4⟩ = .agg #[.int .u32 n0, .int .u32 n1, .string (strOf n2), .bool n3, .int .u32 n4] := rfl
  rw [hv] at hDn ⊢
  replace hC := Lib.hid hC
  replace hD := Lib.hid hD
  replace hDn := Lib.hid hDn
  replace hle := Lib.hid hle
  replace h6 := Lib.hid h6
  replace hR := Lib.hid hR
  replace hstep := Lib.hid hstep
  replace hFd := Lib.hid hFd
  replace hF := Lib.hid hF
  replace hdd := Lib.hid hdd
  replace hn := Lib.hid hn
  clear hdn
  go_enter Tryd.func60, Tryd.ntmps60
  go_wp2_with fail
  have hqs : w.heap.size < (w.alloc (.cells #[.int .u32 n0, .int .u32 n1, .string (strOf n2), .bool n3, .int .u32 n4] 28)).heap.size := by simp
  generalize (w.alloc (.cells #[.int .u32 n0, .int .u32 n1, .string (strOf n2), .bool n3, .int .u32 n4] 28)) = w0 at *
  go_loopw [10, 5] (fun i m wr => ∃ (k a : Nat), i = .int .i64 k ∧ m = .int .i64 a ∧ k ≤ l.length ∧ a ≤ 7 ∧ Hid (a = (l.take k).foldl F 0) ∧ Only [] w0 wr) (fun i _ _ => l.length - (intOf i).toNat)
  case atStart => exact ⟨0, 0, rfl, rfl, Nat.zero_le _, by omega, rfl, Only.refl _ _⟩
  case round =>
    obtain ⟨k, a, rfl, rfl, hkl, ha7, ha, hk⟩ := hrel
    have hkw := hk0.trans hk
    by_cases hlt : k < l.length
    · obtain ⟨g, o, rfl, hg, hat⟩ := hb.get hlt
      obtain ⟨c0, c1, c2, c3, c4⟩ := nds_at (hat.kept hkw (by simp)) hlt
      have hx : l[k]? = some l[k] := List.getElem?_eq_getElem hlt
      have hmem : l[k] ∈ l := List.getElem_mem hlt
      have hst := hstep.out k _ hx
      rw [hFd.out] at hst
      have hCx := fun W kk => hC.out W kk l[k].id ⟨_, hmem, rfl⟩
      have hDx := fun W kk => hD.out W kk l[k]
      have hlex := hle.out _ hmem
      have h6x := h6.out _ hmem
      have hdx : (dpP l 6 l[k]).getD 7 = depN l l[k] := rfl
      rw [hdx] at hDx
      generalize hxx : l[k] = x at *
      generalize hdp : depN l x = dx at *
      obtain ⟨x0, x1, x2, x3, x4⟩ := x
      simp only at c0 c1 c2 c3 c4 hst hCx hlex
      have bx := Bx.new wr ⟨x0, x1, x2, x3, x4⟩
      simp only at bx
      have hk1 := hkw.alloc (.cells #[.int .u32 x0, .int .u32 x1, .string (strOf x2), .bool x3, .int .u32 x4] 28)
      have hk1' := hk.alloc (.cells #[.int .u32 x0, .int .u32 x1, .string (strOf x2), .bool x3, .int .u32 x4] 28)
      have b1 := (hb0.kept hk (by simp)).alloc (.cells #[.int .u32 x0, .int .u32 x1, .string (strOf x2), .bool x3, .int .u32 x4] 28)
      obtain ⟨e0, e1, e2, e3, e4⟩ := b1.cells
      simp only at e0 e1 e2 e3 e4
      generalize hin : insB l n0 x0 = bi at *
      replace hx := Lib.hid hx
      replace hmem := Lib.hid hmem
      replace hCx := Lib.hid hCx
      replace hDx := Lib.hid hDx
      replace hxx := Lib.hid hxx
      replace hdp := Lib.hid hdp
      replace hin := Lib.hid hin
      clear hdx hat
      cases bi with
      | false =>
        have ha' : Hid (a = (l.take (k + 1)).foldl F 0) := by rw [hst, if_neg (by simp)]; exact ha.out
        replace hst := Lib.hid hst
        clear hlex
        go_wp2_with fail
        refine (hCx.out _ hk1).mono ?_; rintro e w3 ⟨rfl, k3⟩
        go_wp2_with fail
        go_roundw
        case rel => exact ⟨k + 1, a, by go_num, rfl, by omega, ha7, ha', hk1'.trans k3⟩
        case measure => simp [intOf]; omega
      | true =>
        have hled := hlex rfl
        have ha' : Hid (max a (dx - dn) = (l.take (k + 1)).foldl F 0) := by rw [hst, if_pos rfl, ← ha.out]; exact rfl
        replace hst := Lib.hid hst
        clear hlex
        go_wp2_with fail
        refine (hCx.out _ hk1).mono ?_; rintro e w3 ⟨rfl, k3⟩
        have hk3 := hk1.trans k3
        have hk3' := hk1'.trans k3
        have bx3 := bx.kept k3 (by simp)
        have b3 := b1.kept k3 (by simp)
        clear e0 e1 e2 e3 e4 c0 c1 c2 c3 c4
        go_wp2_with fail
        generalize wr.heap.size = gx at *
        have KP : Hid (∀ w', Only [] w3 w' → w'.cell? ⟨gx, 0, none⟩ = some (.int .u32 x0) ∧ w'.cell? ⟨gx, 1, none⟩ = some (.int .u32 x1) ∧ w'.cell? ⟨gx, 2, none⟩ = some (.string (strOf x2)) ∧ w'.cell? ⟨gx, 3, none⟩ = some (.bool x3) ∧ w'.cell? ⟨gx, 4, none⟩ = some (.int .u32 x4) ∧ w'.cell? ⟨w.heap.size, 0, none⟩ = some (.int .u32 n0) ∧ w'.cell? ⟨w.heap.size, 1, none⟩ = some (.int .u32 n1) ∧ w'.cell? ⟨w.heap.size, 2, none⟩ = some (.string (strOf n2)) ∧ w'.cell? ⟨w.heap.size, 3, none⟩ = some (.bool n3) ∧ w'.cell? ⟨w.heap.size, 4, none⟩ = some (.int .u32 n4)) := fun w' kk => by
          obtain ⟨p0, p1, p2, p3, p4⟩ := (bx3.kept kk (by simp)).cells
          obtain ⟨r0, r1, r2, r3, r4⟩ := (b3.kept kk (by simp)).cells
          exact ⟨p0, p1, p2, p3, p4, r0, r1, r2, r3, r4⟩
        have hv1 : ndV ⟨x0, x1, x2, x3, x4⟩ = .agg #[.int .u32 x0, .int .u32 x1, .string (strOf x2), .bool x3, .int .u32 x4] := rfl
        rw [hv1] at hDx
        go_region_held3 (fun w' => w'.cell? ⟨gx, 0, none⟩ = some (.int .u32 x0) ∧ w'.cell? ⟨gx, 1, none⟩ = some (.int .u32 x1) ∧ w'.cell? ⟨gx, 2, none⟩ = some (.string (strOf x2)) ∧ w'.cell? ⟨gx, 3, none⟩ = some (.bool x3) ∧ w'.cell? ⟨gx, 4, none⟩ = some (.int .u32 x4) ∧ w'.cell? ⟨w.heap.size, 0, none⟩ = some (.int .u32 n0) ∧ w'.cell? ⟨w.heap.size, 1, none⟩ = some (.int .u32 n1) ∧ w'.cell? ⟨w.heap.size, 2, none⟩ = some (.string (strOf n2)) ∧ w'.cell? ⟨w.heap.size, 3, none⟩ = some (.bool n3) ∧ w'.cell? ⟨w.heap.size, 4, none⟩ = some (.int .u32 n4))
          (first | with_reducible exact KP.out _ (Only.refl [] _).drew | with_reducible exact KP.out _ k6 | with_reducible exact KP.out _ k5)
          (first | (go_at_call 41; refine (hDn.out _ (hk3.trans k5)).mono ?_; rintro e w6 ⟨rfl, k6⟩; replace k6 := k5.trans k6) | (go_at_call 41; refine (hDx.out _ hk3.drew).mono ?_; rintro e w5 ⟨rfl, k5⟩; replace k5 := k5.undrew))
        have hwr : IntKind.i64.wrap ((dx : Int) - (dn : Int)) = ((dx - dn : Nat) : Int) := by simp only [IntKind.wrap, IntKind.bits, IntKind.signed]; simp; omega
        have hmx : max (a : Int) (IntKind.i64.wrap ((dx : Int) - (dn : Int))) = ((max a (dx - dn) : Nat) : Int) := by rw [hwr]; omega
        rw [hmx]
        have hm7 : max a (dx - dn) ≤ 7 := by omega
        generalize max a (dx - dn) = mx at *
        go_wp2
        go_roundw
        case rel => exact ⟨k + 1, mx, by go_num, rfl, by omega, hm7, ha', hk3'.trans k6⟩
        case measure => simp [intOf]; omega
    · have hfin : R = a := by rw [hR.out, ha.out, List.take_of_length_le (by omega)]
      subst hfin
      go_wp2
      go_ret
      exact ⟨rfl, hkw⟩
end Go.Proofs.YteiekfccfddmjaaDoor
