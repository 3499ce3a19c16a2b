/- Whether a state's locks may be. -/
import Derived.Test.YtalkhhjfplahkaaGreatKLrt14
namespace Go.Proofs.YtalkhhjfplahkaaGreat
open Go.RowKit
set_option linter.unusedVariables false

def filesN (t : List Nd) : Nat := t.countP (fun n => !n.dir)
def locksN (l : List Lv) : Nat := l.countP (fun x => !x.L.gone)
theorem count_take {α : Type} {p : α → Bool} {l : List α} {n : Nat} {x : α} (h : l[n]? = some x) : (l.take (n + 1)).countP p = (l.take n).countP p + (if p x = true then 1 else 0) := by
  rw [List.take_add_one, h]
  simp only [Option.toList_some, List.countP_append, List.countP_singleton]
structure LkInv (t : List Nd) (nx : Int) (l : List Lv) (n : Nat) : Prop where
  each : ∀ x ∈ l.take n, LockR x.L ∧ x.L.file < nx ∧ (x.L.gone = false → isFileL t x.L.file = true)
  rise : (l.take n).Pairwise (fun a b => a.L.file < b.L.file)
theorem LkInv.zero (t : List Nd) (nx : Int) (l : List Lv) : LkInv t nx l 0 := ⟨by simp, by simp⟩
theorem LkInv.succ {t : List Nd} {nx : Int} {l : List Lv} {n : Nat} {x : Lv} (h : LkInv t nx l n) (hx : l[n]? = some x) (h1 : LockR x.L) (h2 : x.L.file < nx) (h4 : x.L.gone = false → isFileL t x.L.file = true) (h3 : ∀ j p, n = j + 1 → l[j]? = some p → p.L.file < x.L.file) : LkInv t nx l (n + 1) :=
  ⟨all_take h.each hx ⟨h1, h2, h4⟩, rise_take (f := (·.L.file)) h.rise hx h3⟩
theorem locksR_iff {s : Sta} {lv : List Lv} (h : s.locks = lv.map (·.L)) : LocksR s ↔ (lv.length ≤ 40 ∧ LkInv s.tree s.next lv lv.length ∧ filesN s.tree = locksN lv) := by
  have hc : s.locks.countP (fun l => !l.gone) = locksN lv := by rw [h, List.countP_map]; rfl
  constructor
  · intro r
    refine ⟨by have := r.len; rw [h, List.length_map] at this; exact this, ⟨?_, ?_⟩, ?_⟩
    · rw [List.take_length]
      exact fun x hx => r.each x.L (by rw [h]; exact List.mem_map.2 ⟨x, hx, rfl⟩)
    · rw [List.take_length]
      have := r.rise
      rw [h, List.pairwise_map] at this
      exact this
    · rw [← hc]; exact r.count
  · rintro ⟨h1, ⟨h2, h3⟩, h4⟩
    rw [List.take_length] at h2 h3
    refine ⟨by rw [h, List.length_map]; exact h1, ?_, by rw [h, List.pairwise_map]; exact h3, by rw [hc]; exact h4⟩
    intro l hl
    rw [h] at hl
    obtain ⟨x, hx, rfl⟩ := List.mem_map.1 hl
    exact h2 x hx

set_option maxRecDepth 100000 in
set_option maxHeartbeats 16000000 in
theorem locksRight_any (w : World) (s : Sta) (p : Sp) (h : StM w s p) : Calls Tryz.prog 32 #[staV s p] w fun e w' => Says (LocksR s) e ∧ Only [] w w' := by
  have k0 : Only [] w (w.alloc (.cells #[.int .u32 s.boot, .int .u32 s.next, .slice p.tA s.tree.length p.tc, .slice p.oA s.opens.length p.oc, .slice p.lA s.locks.length p.lc, .slice p.wA s.works.length p.wc, .slice p.sA s.seats.length p.sc] 29)) := (Only.refl [] w).alloc _
  have bx := Sx.new w s p
  have hF0 := fun (i : Int) W (kW : Only [] w W) => isFile_any W s p i (h.kept kW)
  have hW0 := fun x (hx : x ∈ p.lv) W (kW : Only [] w W) => lockRight_any W x.L x.A x.c ((h.lvs x hx).els.kept kW (by simp)) (h.lh x hx) (h.fit.locks x.L (by rw [h.lks]; exact List.mem_map.2 ⟨x, hx, rfl⟩))
  have hb := h.locks
  have hl := h.ll
  have hlen : s.locks.length = p.lv.length := h.llen
  have htb := h.tree
  have htl := h.tl
  have hiff := locksR_iff h.lks
  have hz := LkInv.zero s.tree s.next p.lv
  have hsu := fun n x => LkInv.succ (t := s.tree) (nx := s.next) (l := p.lv) (n := n) (x := x)
  have b0 : ¬ p.lv.length ≤ 40 → ¬ LocksR s := fun e r => e (hiff.1 r).1
  have bq : ∀ x ∈ p.lv, LocksR s → LockR x.L ∧ x.L.file < s.next ∧ (x.L.gone = false → isFileL s.tree x.L.file = true) := fun x hx r => (hiff.1 r).2.1.each x (by rw [List.take_length]; exact hx)
  have b1 : ∀ x ∈ p.lv, ¬ LockR x.L → ¬ LocksR s := fun x hx e r => e (bq x hx r).1
  have b2 : ∀ x ∈ p.lv, ¬ x.L.file < s.next → ¬ LocksR s := fun x hx e r => e (bq x hx r).2.1
  have b4 : ∀ x ∈ p.lv, x.L.gone = false → isFileL s.tree x.L.file = false → ¬ LocksR s := fun x hx e f r => by rw [(bq x hx r).2.2 e] at f; cases f
  have b3 : ∀ j (x q : Lv), p.lv[j]? = some q → p.lv[j + 1]? = some x → ¬ q.L.file < x.L.file → ¬ LocksR s := fun j x q hq hx hn r => rise_bad (f := (·.L.file)) hq hx hn (by have := (hiff.1 r).2.1.rise; rw [List.take_length] at this; exact this)
  have hdo : p.lv.length ≤ 40 → ∀ n, LkInv s.tree s.next p.lv n → p.lv.length ≤ n → (LocksR s ↔ filesN s.tree = locksN p.lv) := fun h40 n hi hn => by
    rw [hiff]
    have : LkInv s.tree s.next p.lv p.lv.length := by
      obtain ⟨a, b⟩ := hi
      rw [List.take_of_length_le hn] at a b
      exact ⟨by rw [List.take_length]; exact a, by rw [List.take_length]; exact b⟩
    exact ⟨fun r => r.2.2, fun r => ⟨h40, this, r⟩⟩
  clear bq hiff
  unfold staV at hF0 ⊢
  generalize LocksR s = R at *
  obtain ⟨sb, sn, t, so, sl, sw, ss⟩ := s
  obtain ⟨tA, tc, oA, oc, lA, lc, lv, wA, wc, sA, sc⟩ := p
  simp only at k0 bx hF0 hW0 hb hl hz hsu hdo b0 b1 b2 b3 b4 hlen htb htl ⊢
  have KB := fun W kW => bx.at (S := []) (w' := W) kW (by simp)
  simp only at KB
  generalize hIt : isFileL t = IF at *
  obtain ⟨I, hI⟩ : ∃ I, I = LkInv t sn lv := ⟨_, rfl⟩
  rw [← hI] at hz
  simp only [← hI] at hsu hdo
  replace hI := Lib.hid hI
  replace hIt := Lib.hid hIt
  replace hF0 := Lib.hid hF0
  replace hW0 := Lib.hid hW0
  replace hz := Lib.hid hz
  replace hsu := Lib.hid hsu
  replace b1 := Lib.hid b1
  replace b2 := Lib.hid b2
  replace b3 := Lib.hid b3
  replace b4 := Lib.hid b4
  obtain ⟨c0, c1, c2, c3, c4, c5, c6⟩ := KB _ (Only.refl _ _)
  replace KB := Lib.hid KB
  clear h bx
  have hlI : (sl.length : Int) ≤ 1048576 := by omega
  have htI : (t.length : Int) ≤ 1048576 := by omega
  replace b0 : (40 : Int) < (sl.length : Int) → ¬ R := fun e => b0 (by omega)
  replace hdo : ¬ (40 : Int) < (sl.length : Int) → ∀ n, I n → sl.length ≤ n → (R ↔ filesN t = locksN lv) := fun e n hi hn => hdo (by omega) n hi (by omega)
  replace hlen := Lib.hid hlen
  by_cases h40 : (40 : Int) < (sl.length : Int)
  · have hn := Lib.hid (b0 h40)
    have d40 : decide ((40 : Int) < (sl.length : Int)) = true := decide_eq_true h40
    clear hdo b0
    go_enter Tryz.func32, Tryz.ntmps32
    go_wp2
    go_ret
    exact ⟨Says.no hn.out, k0⟩
  have hdo2 := Lib.hid (hdo h40)
  have d40 : decide ((40 : Int) < (sl.length : Int)) = false := decide_eq_false h40
  clear hdo b0
  go_enter Tryz.func32, Tryz.ntmps32
  go_wp2_with fail
  clear c0 c1 c2 c3 c4 c5 c6
  go_loopw [15, 3] (fun i m wr => ∃ n k : Nat, n ≤ t.length ∧ i = .int .i64 n ∧ m = .int .i64 k ∧ k ≤ n ∧ Hid (k = (t.take n).countP (fun n => !n.dir)) ∧ Only [] (w.alloc (.cells #[.int .u32 sb, .int .u32 sn, .slice tA t.length tc, .slice oA so.length oc, .slice lA sl.length lc, .slice wA sw.length wc, .slice sA ss.length sc] 29)) wr) (fun i _ _ => t.length - (intOf i).toNat)
  case atStart => exact ⟨0, 0, Nat.zero_le _, rfl, rfl, Nat.le_refl _, rfl, Only.refl _ _⟩
  case round =>
    obtain ⟨n, k, hn, rfl, rfl, hkn, hcn, hk⟩ := hrel
    have hkw := k0.trans hk
    by_cases hlt : n < t.length
    · obtain ⟨g, o, rfl, hg, hat⟩ := htb.get hlt
      obtain ⟨e0, e1, e2, e3, e4⟩ := nds_at (hat.kept hkw (by simp)) hlt
      have hx : t[n]? = some t[n] := List.getElem?_eq_getElem hlt
      have hct := count_take (p := fun n => !n.dir) hx
      generalize t[n] = x at *
      obtain ⟨x0, x1, x2, x3, x4⟩ := x
      simp only at e0 e1 e2 e3 e4 hct
      replace hx := Lib.hid hx
      have hka := hk.alloc (.cells #[.int .u32 x0, .int .u32 x1, .string (strOf x2), .bool x3, .int .u32 x4] 42)
      clear hat
      cases x3 with
      | true =>
        have hc2 : Hid (k = (t.take (n + 1)).countP (fun n => !n.dir)) := by rw [hct, ← hcn.out]; rfl
        replace hct := Lib.hid hct
        go_wp2
        go_roundw
        case rel => exact ⟨n + 1, k, by omega, by go_num, rfl, by omega, hc2, hka⟩
        case measure => simp [intOf]; omega
      | false =>
        have hc2 : Hid (k + 1 = (t.take (n + 1)).countP (fun n => !n.dir)) := by rw [hct, ← hcn.out]; rfl
        replace hct := Lib.hid hct
        go_wp2
        go_roundw
        case rel => exact ⟨n + 1, k + 1, by omega, by go_num, by go_num, by omega, hc2, hka⟩
        case measure => simp [intOf]; omega
    · have hF : Hid (k = filesN t) := by have := hcn.out; rwa [List.take_of_length_le (by omega)] at this
      obtain ⟨c0, c1, c2, c3, c4, c5, c6⟩ := KB.out _ hk
      have hkb : k ≤ 1048576 := by omega
      clear hcn
      go_wp2_with fail
      clear c0 c1 c2 c3 c4 c5 c6
      go_loopw [28, 3] (fun i m wr => ∃ n r : Nat, n ≤ sl.length ∧ i = .int .i64 n ∧ m = .int .i64 ((k : Int) - r) ∧ r ≤ n ∧ Hid (r = locksN (lv.take n)) ∧ Hid (I n) ∧ Only [] (w.alloc (.cells #[.int .u32 sb, .int .u32 sn, .slice tA t.length tc, .slice oA so.length oc, .slice lA sl.length lc, .slice wA sw.length wc, .slice sA ss.length sc] 29)) wr) (fun i _ _ => sl.length - (intOf i).toNat)
      case atStart => exact ⟨0, 0, Nat.zero_le _, rfl, by simp, Nat.le_refl _, rfl, hz, hk⟩
      case round =>
        clear hk hkw
        obtain ⟨n, r, hn, rfl, rfl, hrn, hcn, hi, hk⟩ := hrel
        have hkw := k0.trans hk
        by_cases hlt : n < sl.length
        rotate_left
        · have hfin := hdo2.out n hi.out (by omega)
          have hr : r = locksN lv := by have := hcn.out; rwa [List.take_of_length_le (by have := hlen.out; omega)] at this
          rw [← hF.out, ← hr] at hfin
          replace hfin := Lib.hid hfin
          replace hr := Lib.hid hr
          by_cases hkr : k = r
          · have hy := Lib.hid (hfin.out.2 hkr)
            subst hkr
            have d0 : (k : Int) - k = 0 := by omega
            rw [d0]
            go_wp2
            go_ret
            exact ⟨Says.yes hy.out, hkw⟩
          · have hy := Lib.hid (fun h => hkr (hfin.out.1 h))
            have d0 : ((k : Int) - r == 0) = false := by simp; omega
            have d1 : ¬ (k : Int) - r = 0 := by omega
            generalize (k : Int) - r = z at *
            go_wp2
            go_ret
            exact ⟨⟨_, rfl, by simp; exact hy.out⟩, hkw⟩
        have hltv : n < lv.length := by have := hlen.out; omega
        obtain ⟨g, o, rfl, hg, hat⟩ := hb.get hltv
        have hat' := hat.kept hkw (by simp)
        obtain ⟨e0, e1, e2, e3, e4, e5, e6⟩ := lvs_at hat' hltv
        have hx : lv[n]? = some lv[n] := List.getElem?_eq_getElem hltv
        have hxm : lv[n] ∈ lv := List.getElem_mem hltv
        have hct := count_take (p := fun x => !x.L.gone) hx
        have hprev : ∀ j, n = j + 1 → ∃ p : Lv, lv[j]? = some p ∧ ∀ W, Only [] w W → W.cell? ⟨g, o + j * 7, none⟩ = some (.int .u32 p.L.file) := fun j hj => by
          have hj' : j < lv.length := by omega
          exact ⟨lv[j], List.getElem?_eq_getElem hj', fun W kW => (lvs_at (hat.kept kW (by simp)) hj').1⟩
        generalize lv[n] = x at *
        have hF1 := hF0.out x.L.file
        have hW := hW0.out x hxm
        have hb1 := b1.out x hxm
        have hb2 := b2.out x hxm
        have hb4 := b4.out x hxm
        have hb3 := fun j p (hj : n = j + 1) (hp : lv[j]? = some p) => b3.out j x p hp (by rw [← hj]; exact hx)
        have hs1 := hsu.out n x hi.out hx
        obtain ⟨Rw, hRw⟩ : ∃ Rw, Rw = LockR x.L := ⟨_, rfl⟩
        rw [← hRw] at hW hb1 hs1
        obtain ⟨⟨x0, x1, x2, x3, x4, x5, xl⟩, xA, xd⟩ := x
        simp only [lkV] at hF1 hW hb2 hb3 hb4 hs1 hct e0 e1 e2 e3 e4 e5 e6
        have hsg : x5 = true → r = locksN (lv.take (n + 1)) := fun e => by
          have := hcn.out
          unfold locksN at this ⊢
          rw [hct, e, ← this]
          rfl
        have hsf : x5 = false → r + 1 = locksN (lv.take (n + 1)) := fun e => by
          have := hcn.out
          unfold locksN at this ⊢
          rw [hct, e, ← this]
          rfl
        replace hct := Lib.hid hct
        have hka : Only [] (w.alloc (.cells #[.int .u32 sb, .int .u32 sn, .slice tA t.length tc, .slice oA so.length oc, .slice (some ⟨g, o, none⟩) sl.length lc, .slice wA sw.length wc, .slice sA ss.length sc] 29)) (wr.alloc (.cells #[.int .u32 x0, .int .u32 x1, .int .u32 x2, .int .u32 x3, .bool x4, .bool x5, .slice xA xl.length xd] 45)) := hk.alloc _
        have hwa := k0.trans hka
        have wx := Blk.new wr 45 #[.int .u32 x0, .int .u32 x1, .int .u32 x2, .int .u32 x3, .bool x4, .bool x5, .slice xA xl.length xd]
        have KP : Hid (∀ w', Only [] (wr.alloc (.cells #[.int .u32 x0, .int .u32 x1, .int .u32 x2, .int .u32 x3, .bool x4, .bool x5, .slice xA xl.length xd] 45)) w' → (w'.cell? ⟨w.heap.size, 1, none⟩ = some (.int .u32 sn) ∧ w'.cell? ⟨w.heap.size, 4, none⟩ = some (.slice (some ⟨g, o, none⟩) sl.length lc)) ∧ (w'.cell? ⟨wr.heap.size, 0, none⟩ = some (.int .u32 x0) ∧ w'.cell? ⟨wr.heap.size, 1, none⟩ = some (.int .u32 x1) ∧ w'.cell? ⟨wr.heap.size, 2, none⟩ = some (.int .u32 x2) ∧ w'.cell? ⟨wr.heap.size, 3, none⟩ = some (.int .u32 x3) ∧ w'.cell? ⟨wr.heap.size, 4, none⟩ = some (.bool x4) ∧ w'.cell? ⟨wr.heap.size, 5, none⟩ = some (.bool x5) ∧ w'.cell? ⟨wr.heap.size, 6, none⟩ = some (.slice xA xl.length xd))) := fun W kW => by
          obtain ⟨a0, a1, a2, a3, a4, a5, a6⟩ := KB.out W (hka.trans kW)
          have b := Blk.kept wx kW (by simp)
          exact ⟨⟨a1, a4⟩, b.cell 0, b.cell 1, b.cell 2, b.cell 3, b.cell 4, b.cell 5, b.cell 6⟩
        replace hF1 := Lib.hid hF1
        replace hW := Lib.hid hW
        replace hx := Lib.hid hx
        replace hxm := Lib.hid hxm
        replace hb1 := Lib.hid hb1
        replace hb2 := Lib.hid hb2
        replace hb3 := Lib.hid hb3
        replace hb4 := Lib.hid hb4
        replace hs1 := Lib.hid hs1
        replace hsg := Lib.hid hsg
        replace hsf := Lib.hid hsf
        replace hprev := Lib.hid hprev
        replace hRw := Lib.hid hRw
        replace hk := Lib.hid hk
        clear hat hat' hb wx
        generalize hfb : IF x0 = fb at *
        replace hfb := Lib.hid hfb
        have hrk : (r : Int) ≤ 1048576 := by omega
        have hkk : (k : Int) ≤ 1048576 := by omega
        go_wp2_with fail
        clear e0 e1 e2 e3 e4 e5 e6
        generalize (wr.alloc (.cells #[.int .u32 x0, .int .u32 x1, .int .u32 x2, .int .u32 x3, .bool x4, .bool x5, .slice xA xl.length xd] 45)) = wa at *
        generalize wr.heap.size = ga at *
        by_cases hwr : Rw
        rotate_left
        · have hnt := Lib.hid (hb1.out hwr)
          replace hwr := Lib.hid hwr
          refine wp_region_held_drew (S := fun w' => (w'.cell? ⟨w.heap.size, 1, none⟩ = some (.int .u32 sn) ∧ w'.cell? ⟨w.heap.size, 4, none⟩ = some (.slice (some ⟨g, o, none⟩) sl.length lc)) ∧ (w'.cell? ⟨ga, 0, none⟩ = some (.int .u32 x0) ∧ w'.cell? ⟨ga, 1, none⟩ = some (.int .u32 x1) ∧ w'.cell? ⟨ga, 2, none⟩ = some (.int .u32 x2) ∧ w'.cell? ⟨ga, 3, none⟩ = some (.int .u32 x3) ∧ w'.cell? ⟨ga, 4, none⟩ = some (.bool x4) ∧ w'.cell? ⟨ga, 5, none⟩ = some (.bool x5) ∧ w'.cell? ⟨ga, 6, none⟩ = some (.slice xA xl.length xd))) (by kernel_rfl) (KP.out _ (Only.refl [] _).drew) (fun hHeld => ?_)
          refine held_take 0 (.agg #[.int .u32 x0, .int .u32 x1, .int .u32 x2, .int .u32 x3, .bool x4, .bool x5, .slice xA xl.length xd]) rfl (by kernel_rfl) (by kernel_rfl) (by kernel_rfl) (fun _ _ _ h => h) hHeld (Or.inl ⟨by rfl, fun w' hSw => by (try dsimp only at hSw); (try subst hSw); go_simp⟩) ?_
          simp only [Act.put, List.setIfInBounds_toArray, List.set_cons_zero, List.set_cons_succ]
          refine held_step 1 rfl (by kernel_rfl) (fun K hK => ?_)
          go_simp
          refine (hW.out _ hwa.drew).mono ?_; rintro e w6 ⟨⟨r, rfl, hr⟩, k6⟩
          obtain rfl : r = false := by { cases r; rfl; exact absurd (hr.1 rfl) hwr.out }
          clear hr; replace k6 := k6.undrew
          go_wp2_with fail
          refine hK.out _ _ (KP.out _ k6) (fun hHeld => ?_)
          clear hK K
          refine held_take 2 (.bool true) rfl (by kernel_rfl) (by kernel_rfl) (by kernel_rfl) (fun _ _ _ h => h) hHeld (Or.inl ⟨by rfl, fun w' hSw => by (try dsimp only at hSw); (try subst hSw); go_simp⟩) ?_
          simp only [Act.put, List.setIfInBounds_toArray, List.set_cons_zero, List.set_cons_succ]
          refine held_take 3 (.bool true) rfl (by kernel_rfl) (by kernel_rfl) (by kernel_rfl) (fun _ _ _ h => h) hHeld (Or.inl ⟨by rfl, fun w' hSw => by (try dsimp only at hSw); (try subst hSw); go_simp⟩) ?_
          simp only [Act.put, List.setIfInBounds_toArray, List.set_cons_zero, List.set_cons_succ]
          refine held_take 4 undef rfl (by kernel_rfl) (by kernel_rfl) (by kernel_rfl) (fun _ _ _ h => h) hHeld (Or.inr ⟨by rfl, rfl⟩) ?_
          simp only [Act.put, List.setIfInBounds_toArray, List.set_cons_zero, List.set_cons_succ]
          refine held_take 5 undef rfl (by kernel_rfl) (by kernel_rfl) (by kernel_rfl) (fun _ _ _ h => h) hHeld (Or.inr ⟨by rfl, rfl⟩) ?_
          simp only [Act.put, List.setIfInBounds_toArray, List.set_cons_zero, List.set_cons_succ]
          refine held_take 6 undef rfl (by kernel_rfl) (by kernel_rfl) (by kernel_rfl) (fun _ _ _ h => h) hHeld (Or.inr ⟨by rfl, rfl⟩) ?_
          simp only [Act.put, List.setIfInBounds_toArray, List.set_cons_zero, List.set_cons_succ]
          refine held_take 7 undef rfl (by kernel_rfl) (by kernel_rfl) (by kernel_rfl) (fun _ _ _ h => h) hHeld (Or.inr ⟨by rfl, rfl⟩) ?_
          simp only [Act.put, List.setIfInBounds_toArray, List.set_cons_zero, List.set_cons_succ]
          refine held_take 8 undef rfl (by kernel_rfl) (by kernel_rfl) (by kernel_rfl) (fun _ _ _ h => h) hHeld (Or.inr ⟨by rfl, rfl⟩) ?_
          simp only [Act.put, List.setIfInBounds_toArray, List.set_cons_zero, List.set_cons_succ]
          refine held_take 9 (.bool true) rfl (by kernel_rfl) (by kernel_rfl) (by kernel_rfl) (fun _ _ _ h => h) hHeld (Or.inl ⟨by rfl, fun w' hSw => by (try dsimp only at hSw); (try subst hSw); go_simp⟩) ?_
          simp only [Act.put, List.setIfInBounds_toArray, List.set_cons_zero, List.set_cons_succ]
          refine held_take 10 (.bool true) rfl (by kernel_rfl) (by kernel_rfl) (by kernel_rfl) (fun _ _ _ h => h) hHeld (Or.inl ⟨by rfl, fun w' hSw => by (try dsimp only at hSw); (try subst hSw); go_simp⟩) ?_
          simp only [Act.put, List.setIfInBounds_toArray, List.set_cons_zero, List.set_cons_succ]
          refine held_take 11 undef rfl (by kernel_rfl) (by kernel_rfl) (by kernel_rfl) (fun _ _ _ h => h) hHeld (Or.inr ⟨by rfl, rfl⟩) ?_
          simp only [Act.put, List.setIfInBounds_toArray, List.set_cons_zero, List.set_cons_succ]
          refine held_take 12 undef rfl (by kernel_rfl) (by kernel_rfl) (by kernel_rfl) (fun _ _ _ h => h) hHeld (Or.inr ⟨by rfl, rfl⟩) ?_
          simp only [Act.put, List.setIfInBounds_toArray, List.set_cons_zero, List.set_cons_succ]
          refine held_take 13 undef rfl (by kernel_rfl) (by kernel_rfl) (by kernel_rfl) (fun _ _ _ h => h) hHeld (Or.inr ⟨by rfl, rfl⟩) ?_
          simp only [Act.put, List.setIfInBounds_toArray, List.set_cons_zero, List.set_cons_succ]
          refine held_take 14 undef rfl (by kernel_rfl) (by kernel_rfl) (by kernel_rfl) (fun _ _ _ h => h) hHeld (Or.inr ⟨by rfl, rfl⟩) ?_
          simp only [Act.put, List.setIfInBounds_toArray, List.set_cons_zero, List.set_cons_succ]
          refine held_take 15 undef rfl (by kernel_rfl) (by kernel_rfl) (by kernel_rfl) (fun _ _ _ h => h) hHeld (Or.inr ⟨by rfl, rfl⟩) ?_
          simp only [Act.put, List.setIfInBounds_toArray, List.set_cons_zero, List.set_cons_succ]
          refine held_take 16 undef rfl (by kernel_rfl) (by kernel_rfl) (by kernel_rfl) (fun _ _ _ h => h) hHeld (Or.inr ⟨by rfl, rfl⟩) ?_
          simp only [Act.put, List.setIfInBounds_toArray, List.set_cons_zero, List.set_cons_succ]
          refine held_take 17 undef rfl (by kernel_rfl) (by kernel_rfl) (by kernel_rfl) (fun _ _ _ h => h) hHeld (Or.inr ⟨by rfl, rfl⟩) ?_
          simp only [Act.put, List.setIfInBounds_toArray, List.set_cons_zero, List.set_cons_succ]
          refine held_take 18 undef rfl (by kernel_rfl) (by kernel_rfl) (by kernel_rfl) (fun _ _ _ h => h) hHeld (Or.inr ⟨by rfl, rfl⟩) ?_
          simp only [Act.put, List.setIfInBounds_toArray, List.set_cons_zero, List.set_cons_succ]
          refine held_take 19 undef rfl (by kernel_rfl) (by kernel_rfl) (by kernel_rfl) (fun _ _ _ h => h) hHeld (Or.inr ⟨by rfl, rfl⟩) ?_
          simp only [Act.put, List.setIfInBounds_toArray, List.set_cons_zero, List.set_cons_succ]
          refine held_take 20 undef rfl (by kernel_rfl) (by kernel_rfl) (by kernel_rfl) (fun _ _ _ h => h) hHeld (Or.inr ⟨by rfl, rfl⟩) ?_
          simp only [Act.put, List.setIfInBounds_toArray, List.set_cons_zero, List.set_cons_succ]
          refine held_take 21 undef rfl (by kernel_rfl) (by kernel_rfl) (by kernel_rfl) (fun _ _ _ h => h) hHeld (Or.inr ⟨by rfl, rfl⟩) ?_
          simp only [Act.put, List.setIfInBounds_toArray, List.set_cons_zero, List.set_cons_succ]
          refine held_take 22 undef rfl (by kernel_rfl) (by kernel_rfl) (by kernel_rfl) (fun _ _ _ h => h) hHeld (Or.inr ⟨by rfl, rfl⟩) ?_
          simp only [Act.put, List.setIfInBounds_toArray, List.set_cons_zero, List.set_cons_succ]
          refine held_take 23 undef rfl (by kernel_rfl) (by kernel_rfl) (by kernel_rfl) (fun _ _ _ h => h) hHeld (Or.inr ⟨by rfl, rfl⟩) ?_
          simp only [Act.put, List.setIfInBounds_toArray, List.set_cons_zero, List.set_cons_succ]
          refine held_take 24 undef rfl (by kernel_rfl) (by kernel_rfl) (by kernel_rfl) (fun _ _ _ h => h) hHeld (Or.inr ⟨by rfl, rfl⟩) ?_
          simp only [Act.put, List.setIfInBounds_toArray, List.set_cons_zero, List.set_cons_succ]
          refine held_take 25 (.bool true) rfl (by kernel_rfl) (by kernel_rfl) (by kernel_rfl) (fun _ _ _ h => h) hHeld (Or.inl ⟨by rfl, fun w' hSw => by (try dsimp only at hSw); (try subst hSw); go_simp⟩) ?_
          simp only [Act.put, List.setIfInBounds_toArray, List.set_cons_zero, List.set_cons_succ]
          refine wpAnyH_done (by kernel_rfl) ?_ _
          clear hHeld
          go_wp2
          go_ret
          exact ⟨Says.no hnt.out, hwa.trans k6⟩
        replace hwr := Lib.hid hwr
        by_cases hnx0 : x0 < sn
        rotate_left
        · have hnt := Lib.hid (hb2.out (by omega))
          have d7 : decide (sn ≤ x0) = true := decide_eq_true (by omega)
          have d8 : sn ≤ x0 := by omega
          refine wp_region_held_drew (S := fun w' => (w'.cell? ⟨w.heap.size, 1, none⟩ = some (.int .u32 sn) ∧ w'.cell? ⟨w.heap.size, 4, none⟩ = some (.slice (some ⟨g, o, none⟩) sl.length lc)) ∧ (w'.cell? ⟨ga, 0, none⟩ = some (.int .u32 x0) ∧ w'.cell? ⟨ga, 1, none⟩ = some (.int .u32 x1) ∧ w'.cell? ⟨ga, 2, none⟩ = some (.int .u32 x2) ∧ w'.cell? ⟨ga, 3, none⟩ = some (.int .u32 x3) ∧ w'.cell? ⟨ga, 4, none⟩ = some (.bool x4) ∧ w'.cell? ⟨ga, 5, none⟩ = some (.bool x5) ∧ w'.cell? ⟨ga, 6, none⟩ = some (.slice xA xl.length xd))) (by kernel_rfl) (KP.out _ (Only.refl [] _).drew) (fun hHeld => ?_)
          refine held_take 0 (.agg #[.int .u32 x0, .int .u32 x1, .int .u32 x2, .int .u32 x3, .bool x4, .bool x5, .slice xA xl.length xd]) rfl (by kernel_rfl) (by kernel_rfl) (by kernel_rfl) (fun _ _ _ h => h) hHeld (Or.inl ⟨by rfl, fun w' hSw => by (try dsimp only at hSw); (try subst hSw); go_simp⟩) ?_
          simp only [Act.put, List.setIfInBounds_toArray, List.set_cons_zero, List.set_cons_succ]
          refine held_step 1 rfl (by kernel_rfl) (fun K hK => ?_)
          go_simp
          refine (hW.out _ hwa.drew).mono ?_; rintro e w6 ⟨⟨r, rfl, hr⟩, k6⟩
          obtain rfl := hr.2 hwr.out
          clear hr; replace k6 := k6.undrew
          go_wp2_with fail
          refine hK.out _ _ (KP.out _ k6) (fun hHeld => ?_)
          clear hK K
          refine held_take 2 (.bool false) rfl (by kernel_rfl) (by kernel_rfl) (by kernel_rfl) (fun _ _ _ h => h) hHeld (Or.inl ⟨by rfl, fun w' hSw => by (try dsimp only at hSw); (try subst hSw); go_simp⟩) ?_
          simp only [Act.put, List.setIfInBounds_toArray, List.set_cons_zero, List.set_cons_succ]
          refine held_take 3 (.bool false) rfl (by kernel_rfl) (by kernel_rfl) (by kernel_rfl) (fun _ _ _ h => h) hHeld (Or.inl ⟨by rfl, fun w' hSw => by (try dsimp only at hSw); (try subst hSw); go_simp⟩) ?_
          simp only [Act.put, List.setIfInBounds_toArray, List.set_cons_zero, List.set_cons_succ]
          refine held_take 4 (.pointer (some ⟨ga, 0, none⟩)) rfl (by kernel_rfl) (by kernel_rfl) (by kernel_rfl) (fun _ _ _ h => h) hHeld (Or.inl ⟨by rfl, fun w' hSw => by (try dsimp only at hSw); (try subst hSw); go_simp⟩) ?_
          simp only [Act.put, List.setIfInBounds_toArray, List.set_cons_zero, List.set_cons_succ]
          refine held_take 5 (.int .u32 x0) rfl (by kernel_rfl) (by kernel_rfl) (by kernel_rfl) (fun _ _ _ h => h) hHeld (Or.inl ⟨by rfl, fun w' hSw => by (try dsimp only at hSw); (try subst hSw); go_simp⟩) ?_
          simp only [Act.put, List.setIfInBounds_toArray, List.set_cons_zero, List.set_cons_succ]
          refine held_take 6 (.pointer (some ⟨w.heap.size, 1, none⟩)) rfl (by kernel_rfl) (by kernel_rfl) (by kernel_rfl) (fun _ _ _ h => h) hHeld (Or.inl ⟨by rfl, fun w' hSw => by (try dsimp only at hSw); (try subst hSw); go_simp⟩) ?_
          simp only [Act.put, List.setIfInBounds_toArray, List.set_cons_zero, List.set_cons_succ]
          refine held_take 7 (.int .u32 sn) rfl (by kernel_rfl) (by kernel_rfl) (by kernel_rfl) (fun _ _ _ h => h) hHeld (Or.inl ⟨by rfl, fun w' hSw => by (try dsimp only at hSw); (try subst hSw); go_simp⟩) ?_
          simp only [Act.put, List.setIfInBounds_toArray, List.set_cons_zero, List.set_cons_succ]
          refine held_take 8 (.bool true) rfl (by kernel_rfl) (by kernel_rfl) (by kernel_rfl) (fun _ _ _ h => h) hHeld (Or.inl ⟨by rfl, fun w' hSw => by (try dsimp only at hSw); (try subst hSw); go_simp⟩) ?_
          simp only [Act.put, List.setIfInBounds_toArray, List.set_cons_zero, List.set_cons_succ]
          refine held_take 9 (.bool true) rfl (by kernel_rfl) (by kernel_rfl) (by kernel_rfl) (fun _ _ _ h => h) hHeld (Or.inl ⟨by rfl, fun w' hSw => by (try dsimp only at hSw); (try subst hSw); go_simp⟩) ?_
          simp only [Act.put, List.setIfInBounds_toArray, List.set_cons_zero, List.set_cons_succ]
          refine held_take 10 (.bool true) rfl (by kernel_rfl) (by kernel_rfl) (by kernel_rfl) (fun _ _ _ h => h) hHeld (Or.inl ⟨by rfl, fun w' hSw => by (try dsimp only at hSw); (try subst hSw); go_simp⟩) ?_
          simp only [Act.put, List.setIfInBounds_toArray, List.set_cons_zero, List.set_cons_succ]
          refine held_take 11 undef rfl (by kernel_rfl) (by kernel_rfl) (by kernel_rfl) (fun _ _ _ h => h) hHeld (Or.inr ⟨by rfl, rfl⟩) ?_
          simp only [Act.put, List.setIfInBounds_toArray, List.set_cons_zero, List.set_cons_succ]
          refine held_take 12 undef rfl (by kernel_rfl) (by kernel_rfl) (by kernel_rfl) (fun _ _ _ h => h) hHeld (Or.inr ⟨by rfl, rfl⟩) ?_
          simp only [Act.put, List.setIfInBounds_toArray, List.set_cons_zero, List.set_cons_succ]
          refine held_take 13 undef rfl (by kernel_rfl) (by kernel_rfl) (by kernel_rfl) (fun _ _ _ h => h) hHeld (Or.inr ⟨by rfl, rfl⟩) ?_
          simp only [Act.put, List.setIfInBounds_toArray, List.set_cons_zero, List.set_cons_succ]
          refine held_take 14 undef rfl (by kernel_rfl) (by kernel_rfl) (by kernel_rfl) (fun _ _ _ h => h) hHeld (Or.inr ⟨by rfl, rfl⟩) ?_
          simp only [Act.put, List.setIfInBounds_toArray, List.set_cons_zero, List.set_cons_succ]
          refine held_take 15 undef rfl (by kernel_rfl) (by kernel_rfl) (by kernel_rfl) (fun _ _ _ h => h) hHeld (Or.inr ⟨by rfl, rfl⟩) ?_
          simp only [Act.put, List.setIfInBounds_toArray, List.set_cons_zero, List.set_cons_succ]
          refine held_take 16 undef rfl (by kernel_rfl) (by kernel_rfl) (by kernel_rfl) (fun _ _ _ h => h) hHeld (Or.inr ⟨by rfl, rfl⟩) ?_
          simp only [Act.put, List.setIfInBounds_toArray, List.set_cons_zero, List.set_cons_succ]
          refine held_take 17 undef rfl (by kernel_rfl) (by kernel_rfl) (by kernel_rfl) (fun _ _ _ h => h) hHeld (Or.inr ⟨by rfl, rfl⟩) ?_
          simp only [Act.put, List.setIfInBounds_toArray, List.set_cons_zero, List.set_cons_succ]
          refine held_take 18 undef rfl (by kernel_rfl) (by kernel_rfl) (by kernel_rfl) (fun _ _ _ h => h) hHeld (Or.inr ⟨by rfl, rfl⟩) ?_
          simp only [Act.put, List.setIfInBounds_toArray, List.set_cons_zero, List.set_cons_succ]
          refine held_take 19 undef rfl (by kernel_rfl) (by kernel_rfl) (by kernel_rfl) (fun _ _ _ h => h) hHeld (Or.inr ⟨by rfl, rfl⟩) ?_
          simp only [Act.put, List.setIfInBounds_toArray, List.set_cons_zero, List.set_cons_succ]
          refine held_take 20 undef rfl (by kernel_rfl) (by kernel_rfl) (by kernel_rfl) (fun _ _ _ h => h) hHeld (Or.inr ⟨by rfl, rfl⟩) ?_
          simp only [Act.put, List.setIfInBounds_toArray, List.set_cons_zero, List.set_cons_succ]
          refine held_take 21 undef rfl (by kernel_rfl) (by kernel_rfl) (by kernel_rfl) (fun _ _ _ h => h) hHeld (Or.inr ⟨by rfl, rfl⟩) ?_
          simp only [Act.put, List.setIfInBounds_toArray, List.set_cons_zero, List.set_cons_succ]
          refine held_take 22 undef rfl (by kernel_rfl) (by kernel_rfl) (by kernel_rfl) (fun _ _ _ h => h) hHeld (Or.inr ⟨by rfl, rfl⟩) ?_
          simp only [Act.put, List.setIfInBounds_toArray, List.set_cons_zero, List.set_cons_succ]
          refine held_take 23 undef rfl (by kernel_rfl) (by kernel_rfl) (by kernel_rfl) (fun _ _ _ h => h) hHeld (Or.inr ⟨by rfl, rfl⟩) ?_
          simp only [Act.put, List.setIfInBounds_toArray, List.set_cons_zero, List.set_cons_succ]
          refine held_take 24 undef rfl (by kernel_rfl) (by kernel_rfl) (by kernel_rfl) (fun _ _ _ h => h) hHeld (Or.inr ⟨by rfl, rfl⟩) ?_
          simp only [Act.put, List.setIfInBounds_toArray, List.set_cons_zero, List.set_cons_succ]
          refine held_take 25 (.bool true) rfl (by kernel_rfl) (by kernel_rfl) (by kernel_rfl) (fun _ _ _ h => h) hHeld (Or.inl ⟨by rfl, fun w' hSw => by (try dsimp only at hSw); (try subst hSw); go_simp⟩) ?_
          simp only [Act.put, List.setIfInBounds_toArray, List.set_cons_zero, List.set_cons_succ]
          refine wpAnyH_done (by kernel_rfl) ?_ _
          clear hHeld
          go_wp2
          go_ret
          exact ⟨Says.no hnt.out, hwa.trans k6⟩
        have d7 : decide (sn ≤ x0) = false := decide_eq_false (by omega)
        have d8 : ¬ sn ≤ x0 := by omega
        replace hnx0 := Lib.hid hnx0
        cases n with
        | zero =>
          have hok := fun hg => hs1.out hwr.out hnx0.out hg (fun j p hj => by cases hj)
          replace hok := Lib.hid hok
          have dz : ((0 : Nat) : Int) = 0 := rfl
          rw [dz]
          obtain rfl : r = 0 := by omega
          refine wp_region_held_drew (S := fun w' => (w'.cell? ⟨w.heap.size, 1, none⟩ = some (.int .u32 sn) ∧ w'.cell? ⟨w.heap.size, 4, none⟩ = some (.slice (some ⟨g, o, none⟩) sl.length lc)) ∧ (w'.cell? ⟨ga, 0, none⟩ = some (.int .u32 x0) ∧ w'.cell? ⟨ga, 1, none⟩ = some (.int .u32 x1) ∧ w'.cell? ⟨ga, 2, none⟩ = some (.int .u32 x2) ∧ w'.cell? ⟨ga, 3, none⟩ = some (.int .u32 x3) ∧ w'.cell? ⟨ga, 4, none⟩ = some (.bool x4) ∧ w'.cell? ⟨ga, 5, none⟩ = some (.bool x5) ∧ w'.cell? ⟨ga, 6, none⟩ = some (.slice xA xl.length xd))) (by kernel_rfl) (KP.out _ (Only.refl [] _).drew) (fun hHeld => ?_)
          refine held_take 0 (.agg #[.int .u32 x0, .int .u32 x1, .int .u32 x2, .int .u32 x3, .bool x4, .bool x5, .slice xA xl.length xd]) rfl (by kernel_rfl) (by kernel_rfl) (by kernel_rfl) (fun _ _ _ h => h) hHeld (Or.inl ⟨by rfl, fun w' hSw => by (try dsimp only at hSw); (try subst hSw); go_simp⟩) ?_
          simp only [Act.put, List.setIfInBounds_toArray, List.set_cons_zero, List.set_cons_succ]
          refine held_step 1 rfl (by kernel_rfl) (fun K hK => ?_)
          go_simp
          refine (hW.out _ hwa.drew).mono ?_; rintro e w6 ⟨⟨r, rfl, hr⟩, k6⟩
          obtain rfl := hr.2 hwr.out
          clear hr; replace k6 := k6.undrew
          go_wp2_with fail
          refine hK.out _ _ (KP.out _ k6) (fun hHeld => ?_)
          clear hK K
          refine held_take 2 (.bool false) rfl (by kernel_rfl) (by kernel_rfl) (by kernel_rfl) (fun _ _ _ h => h) hHeld (Or.inl ⟨by rfl, fun w' hSw => by (try dsimp only at hSw); (try subst hSw); go_simp⟩) ?_
          simp only [Act.put, List.setIfInBounds_toArray, List.set_cons_zero, List.set_cons_succ]
          refine held_take 3 (.bool false) rfl (by kernel_rfl) (by kernel_rfl) (by kernel_rfl) (fun _ _ _ h => h) hHeld (Or.inl ⟨by rfl, fun w' hSw => by (try dsimp only at hSw); (try subst hSw); go_simp⟩) ?_
          simp only [Act.put, List.setIfInBounds_toArray, List.set_cons_zero, List.set_cons_succ]
          refine held_take 4 (.pointer (some ⟨ga, 0, none⟩)) rfl (by kernel_rfl) (by kernel_rfl) (by kernel_rfl) (fun _ _ _ h => h) hHeld (Or.inl ⟨by rfl, fun w' hSw => by (try dsimp only at hSw); (try subst hSw); go_simp⟩) ?_
          simp only [Act.put, List.setIfInBounds_toArray, List.set_cons_zero, List.set_cons_succ]
          refine held_take 5 (.int .u32 x0) rfl (by kernel_rfl) (by kernel_rfl) (by kernel_rfl) (fun _ _ _ h => h) hHeld (Or.inl ⟨by rfl, fun w' hSw => by (try dsimp only at hSw); (try subst hSw); go_simp⟩) ?_
          simp only [Act.put, List.setIfInBounds_toArray, List.set_cons_zero, List.set_cons_succ]
          refine held_take 6 (.pointer (some ⟨w.heap.size, 1, none⟩)) rfl (by kernel_rfl) (by kernel_rfl) (by kernel_rfl) (fun _ _ _ h => h) hHeld (Or.inl ⟨by rfl, fun w' hSw => by (try dsimp only at hSw); (try subst hSw); go_simp⟩) ?_
          simp only [Act.put, List.setIfInBounds_toArray, List.set_cons_zero, List.set_cons_succ]
          refine held_take 7 (.int .u32 sn) rfl (by kernel_rfl) (by kernel_rfl) (by kernel_rfl) (fun _ _ _ h => h) hHeld (Or.inl ⟨by rfl, fun w' hSw => by (try dsimp only at hSw); (try subst hSw); go_simp⟩) ?_
          simp only [Act.put, List.setIfInBounds_toArray, List.set_cons_zero, List.set_cons_succ]
          refine held_take 8 (.bool false) rfl (by kernel_rfl) (by kernel_rfl) (by kernel_rfl) (fun _ _ _ h => h) hHeld (Or.inl ⟨by rfl, fun w' hSw => by (try dsimp only at hSw); (try subst hSw); go_simp⟩) ?_
          simp only [Act.put, List.setIfInBounds_toArray, List.set_cons_zero, List.set_cons_succ]
          refine held_take 9 (.bool false) rfl (by kernel_rfl) (by kernel_rfl) (by kernel_rfl) (fun _ _ _ h => h) hHeld (Or.inl ⟨by rfl, fun w' hSw => by (try dsimp only at hSw); (try subst hSw); go_simp⟩) ?_
          simp only [Act.put, List.setIfInBounds_toArray, List.set_cons_zero, List.set_cons_succ]
          refine held_take 10 (.bool false) rfl (by kernel_rfl) (by kernel_rfl) (by kernel_rfl) (fun _ _ _ h => h) hHeld (Or.inl ⟨by rfl, fun w' hSw => by (try dsimp only at hSw); (try subst hSw); go_simp⟩) ?_
          simp only [Act.put, List.setIfInBounds_toArray, List.set_cons_zero, List.set_cons_succ]
          refine held_take 11 (.int .i64 0) rfl (by kernel_rfl) (by kernel_rfl) (by kernel_rfl) (fun _ _ _ h => h) hHeld (Or.inl ⟨by rfl, fun w' hSw => by (try dsimp only at hSw); (try subst hSw); go_simp⟩) ?_
          simp only [Act.put, List.setIfInBounds_toArray, List.set_cons_zero, List.set_cons_succ]
          refine held_take 12 (.bool false) rfl (by kernel_rfl) (by kernel_rfl) (by kernel_rfl) (fun _ _ _ h => h) hHeld (Or.inl ⟨by rfl, fun w' hSw => by (try dsimp only at hSw); (try subst hSw); go_simp⟩) ?_
          simp only [Act.put, List.setIfInBounds_toArray, List.set_cons_zero, List.set_cons_succ]
          refine held_take 13 (.bool false) rfl (by kernel_rfl) (by kernel_rfl) (by kernel_rfl) (fun _ _ _ h => h) hHeld (Or.inl ⟨by rfl, fun w' hSw => by (try dsimp only at hSw); (try subst hSw); go_simp⟩) ?_
          simp only [Act.put, List.setIfInBounds_toArray, List.set_cons_zero, List.set_cons_succ]
          refine held_take 14 undef rfl (by kernel_rfl) (by kernel_rfl) (by kernel_rfl) (fun _ _ _ h => h) hHeld (Or.inr ⟨by rfl, rfl⟩) ?_
          simp only [Act.put, List.setIfInBounds_toArray, List.set_cons_zero, List.set_cons_succ]
          refine held_take 15 undef rfl (by kernel_rfl) (by kernel_rfl) (by kernel_rfl) (fun _ _ _ h => h) hHeld (Or.inr ⟨by rfl, rfl⟩) ?_
          simp only [Act.put, List.setIfInBounds_toArray, List.set_cons_zero, List.set_cons_succ]
          refine held_take 16 undef rfl (by kernel_rfl) (by kernel_rfl) (by kernel_rfl) (fun _ _ _ h => h) hHeld (Or.inr ⟨by rfl, rfl⟩) ?_
          simp only [Act.put, List.setIfInBounds_toArray, List.set_cons_zero, List.set_cons_succ]
          refine held_take 17 undef rfl (by kernel_rfl) (by kernel_rfl) (by kernel_rfl) (fun _ _ _ h => h) hHeld (Or.inr ⟨by rfl, rfl⟩) ?_
          simp only [Act.put, List.setIfInBounds_toArray, List.set_cons_zero, List.set_cons_succ]
          refine held_take 18 undef rfl (by kernel_rfl) (by kernel_rfl) (by kernel_rfl) (fun _ _ _ h => h) hHeld (Or.inr ⟨by rfl, rfl⟩) ?_
          simp only [Act.put, List.setIfInBounds_toArray, List.set_cons_zero, List.set_cons_succ]
          refine held_take 19 undef rfl (by kernel_rfl) (by kernel_rfl) (by kernel_rfl) (fun _ _ _ h => h) hHeld (Or.inr ⟨by rfl, rfl⟩) ?_
          simp only [Act.put, List.setIfInBounds_toArray, List.set_cons_zero, List.set_cons_succ]
          refine held_take 20 undef rfl (by kernel_rfl) (by kernel_rfl) (by kernel_rfl) (fun _ _ _ h => h) hHeld (Or.inr ⟨by rfl, rfl⟩) ?_
          simp only [Act.put, List.setIfInBounds_toArray, List.set_cons_zero, List.set_cons_succ]
          refine held_take 21 undef rfl (by kernel_rfl) (by kernel_rfl) (by kernel_rfl) (fun _ _ _ h => h) hHeld (Or.inr ⟨by rfl, rfl⟩) ?_
          simp only [Act.put, List.setIfInBounds_toArray, List.set_cons_zero, List.set_cons_succ]
          refine held_take 22 undef rfl (by kernel_rfl) (by kernel_rfl) (by kernel_rfl) (fun _ _ _ h => h) hHeld (Or.inr ⟨by rfl, rfl⟩) ?_
          simp only [Act.put, List.setIfInBounds_toArray, List.set_cons_zero, List.set_cons_succ]
          refine held_take 23 undef rfl (by kernel_rfl) (by kernel_rfl) (by kernel_rfl) (fun _ _ _ h => h) hHeld (Or.inr ⟨by rfl, rfl⟩) ?_
          simp only [Act.put, List.setIfInBounds_toArray, List.set_cons_zero, List.set_cons_succ]
          refine held_take 24 (.bool false) rfl (by kernel_rfl) (by kernel_rfl) (by kernel_rfl) (fun _ _ _ h => h) hHeld (Or.inl ⟨by rfl, fun w' hSw => by (try dsimp only at hSw); (try subst hSw); go_simp⟩) ?_
          simp only [Act.put, List.setIfInBounds_toArray, List.set_cons_zero, List.set_cons_succ]
          refine held_take 25 (.bool false) rfl (by kernel_rfl) (by kernel_rfl) (by kernel_rfl) (fun _ _ _ h => h) hHeld (Or.inl ⟨by rfl, fun w' hSw => by (try dsimp only at hSw); (try subst hSw); go_simp⟩) ?_
          simp only [Act.put, List.setIfInBounds_toArray, List.set_cons_zero, List.set_cons_succ]
          refine wpAnyH_done (by kernel_rfl) ?_ _
          clear hHeld
          have hkb := hka.trans k6
          obtain ⟨⟨_, _⟩, a0, a1, a2, a3, a4, a5, a6⟩ := KP.out _ k6
          obtain ⟨q0, q1, q2, q3, q4, q5, q6⟩ := KB.out _ hkb
          cases x5 with
          | true =>
            have hnx := Lib.hid (hok.out (fun e => by cases e))
            have hcx := Lib.hid (hsg.out rfl)
            go_wp2
            go_roundw
            case rel => exact ⟨1, 0, by omega, rfl, by simp, by omega, hcx, hnx, hkb⟩
            case measure => simp [intOf]; omega
          | false =>
            have hF2 := Lib.hid (hF1.out _ (k0.trans hkb))
            cases fb with
            | false =>
              have hnt := Lib.hid (hb4.out rfl rfl)
              go_wp2_with fail
              refine hF2.out.mono ?_; rintro e w7 ⟨rfl, k7⟩
              go_wp2
              go_ret
              exact ⟨Says.no hnt.out, (k0.trans hkb).trans k7⟩
            | true =>
              have hnx := Lib.hid (hok.out (fun _ => rfl))
              have hcx := Lib.hid (hsf.out rfl)
              have hwr2 : IntKind.i64.wrap ((k : Int) - ((0 : Nat) : Int) - 1) = (k : Int) - ((0 : Nat) : Int) - 1 := by simp only [IntKind.wrap, IntKind.bits, IntKind.signed]; simp; omega
              go_wp2_with fail
              refine hF2.out.mono ?_; rintro e w7 ⟨rfl, k7⟩
              go_wp2
              go_roundw
              case rel => exact ⟨1, 1, by omega, rfl, by go_num, by omega, hcx, hnx, hkb.trans k7⟩
              case measure => simp [intOf]; omega
        | succ j =>
          obtain ⟨p, hp, hcp⟩ := hprev.out j rfl
          have hcast : ((j + 1 : Nat) : Int) = (j : Int) + 1 := by omega
          rw [hcast]
          have hj1 : ((j : Int) + 1).toNat = j + 1 := by omega
          have hj2 : (j : Int) + 1 < sl.length := by omega
          have hj3 : (j : Int) < sl.length := by omega
          have hj4 : (0 : Int) < (j : Int) + 1 := by omega
          have hj6 : IntKind.i64.wrap (j : Int) = (j : Int) := by simp only [IntKind.wrap, IntKind.bits, IntKind.signed]; simp; omega
          have hj5 : decide ((0 : Int) < (j : Int) + 1) = true := decide_eq_true hj4
          have hb3' := hb3.out j p rfl hp
          have hs3 : p.L.file < x0 → (x5 = false → fb = true) → I (j + 1 + 1) := fun e hg => hs1.out hwr.out hnx0.out hg (by
            intro j' p' hj hp'
            obtain rfl : j = j' := by omega
            rw [hp] at hp'
            injection hp' with hp'
            subst hp'
            exact e)
          generalize p.L.file = pf at *
          replace hp := Lib.hid hp
          have KQ : Hid (∀ w', Only [] wa w' → ((w'.cell? ⟨w.heap.size, 1, none⟩ = some (.int .u32 sn) ∧ w'.cell? ⟨w.heap.size, 4, none⟩ = some (.slice (some ⟨g, o, none⟩) sl.length lc)) ∧ (w'.cell? ⟨ga, 0, none⟩ = some (.int .u32 x0) ∧ w'.cell? ⟨ga, 1, none⟩ = some (.int .u32 x1) ∧ w'.cell? ⟨ga, 2, none⟩ = some (.int .u32 x2) ∧ w'.cell? ⟨ga, 3, none⟩ = some (.int .u32 x3) ∧ w'.cell? ⟨ga, 4, none⟩ = some (.bool x4) ∧ w'.cell? ⟨ga, 5, none⟩ = some (.bool x5) ∧ w'.cell? ⟨ga, 6, none⟩ = some (.slice xA xl.length xd))) ∧ w'.cell? ⟨g, o + j * 7, none⟩ = some (.int .u32 pf)) := fun W kW => ⟨KP.out W kW, hcp W (hwa.trans kW)⟩
          replace hs3 := Lib.hid hs3
          replace hb3' := Lib.hid hb3'
          clear hcp
          by_cases hlt2 : pf < x0
          · have hok := Lib.hid (hs3.out hlt2)
            have d9 : decide (x0 ≤ pf) = false := decide_eq_false (by omega)
            have d10 : ¬ x0 ≤ pf := by omega
            refine wp_region_held_drew (S := fun w' => ((w'.cell? ⟨w.heap.size, 1, none⟩ = some (.int .u32 sn) ∧ w'.cell? ⟨w.heap.size, 4, none⟩ = some (.slice (some ⟨g, o, none⟩) sl.length lc)) ∧ (w'.cell? ⟨ga, 0, none⟩ = some (.int .u32 x0) ∧ w'.cell? ⟨ga, 1, none⟩ = some (.int .u32 x1) ∧ w'.cell? ⟨ga, 2, none⟩ = some (.int .u32 x2) ∧ w'.cell? ⟨ga, 3, none⟩ = some (.int .u32 x3) ∧ w'.cell? ⟨ga, 4, none⟩ = some (.bool x4) ∧ w'.cell? ⟨ga, 5, none⟩ = some (.bool x5) ∧ w'.cell? ⟨ga, 6, none⟩ = some (.slice xA xl.length xd))) ∧ w'.cell? ⟨g, o + j * 7, none⟩ = some (.int .u32 pf)) (by kernel_rfl) (KQ.out _ (Only.refl [] _).drew) (fun hHeld => ?_)
            refine held_take 0 (.agg #[.int .u32 x0, .int .u32 x1, .int .u32 x2, .int .u32 x3, .bool x4, .bool x5, .slice xA xl.length xd]) rfl (by kernel_rfl) (by kernel_rfl) (by kernel_rfl) (fun _ _ _ h => h) hHeld (Or.inl ⟨by rfl, fun w' hSw => by (try dsimp only at hSw); (try subst hSw); go_simp⟩) ?_
            simp only [Act.put, List.setIfInBounds_toArray, List.set_cons_zero, List.set_cons_succ]
            refine held_step 1 rfl (by kernel_rfl) (fun K hK => ?_)
            go_simp
            refine (hW.out _ hwa.drew).mono ?_; rintro e w6 ⟨⟨r, rfl, hr⟩, k6⟩
            obtain rfl := hr.2 hwr.out
            clear hr; replace k6 := k6.undrew
            go_wp2_with fail
            refine hK.out _ _ (KQ.out _ k6) (fun hHeld => ?_)
            clear hK K
            refine held_take 2 (.bool false) rfl (by kernel_rfl) (by kernel_rfl) (by kernel_rfl) (fun _ _ _ h => h) hHeld (Or.inl ⟨by rfl, fun w' hSw => by (try dsimp only at hSw); (try subst hSw); go_simp⟩) ?_
            simp only [Act.put, List.setIfInBounds_toArray, List.set_cons_zero, List.set_cons_succ]
            refine held_take 3 (.bool false) rfl (by kernel_rfl) (by kernel_rfl) (by kernel_rfl) (fun _ _ _ h => h) hHeld (Or.inl ⟨by rfl, fun w' hSw => by (try dsimp only at hSw); (try subst hSw); go_simp⟩) ?_
            simp only [Act.put, List.setIfInBounds_toArray, List.set_cons_zero, List.set_cons_succ]
            refine held_take 4 (.pointer (some ⟨ga, 0, none⟩)) rfl (by kernel_rfl) (by kernel_rfl) (by kernel_rfl) (fun _ _ _ h => h) hHeld (Or.inl ⟨by rfl, fun w' hSw => by (try dsimp only at hSw); (try subst hSw); go_simp⟩) ?_
            simp only [Act.put, List.setIfInBounds_toArray, List.set_cons_zero, List.set_cons_succ]
            refine held_take 5 (.int .u32 x0) rfl (by kernel_rfl) (by kernel_rfl) (by kernel_rfl) (fun _ _ _ h => h) hHeld (Or.inl ⟨by rfl, fun w' hSw => by (try dsimp only at hSw); (try subst hSw); go_simp⟩) ?_
            simp only [Act.put, List.setIfInBounds_toArray, List.set_cons_zero, List.set_cons_succ]
            refine held_take 6 (.pointer (some ⟨w.heap.size, 1, none⟩)) rfl (by kernel_rfl) (by kernel_rfl) (by kernel_rfl) (fun _ _ _ h => h) hHeld (Or.inl ⟨by rfl, fun w' hSw => by (try dsimp only at hSw); (try subst hSw); go_simp⟩) ?_
            simp only [Act.put, List.setIfInBounds_toArray, List.set_cons_zero, List.set_cons_succ]
            refine held_take 7 (.int .u32 sn) rfl (by kernel_rfl) (by kernel_rfl) (by kernel_rfl) (fun _ _ _ h => h) hHeld (Or.inl ⟨by rfl, fun w' hSw => by (try dsimp only at hSw); (try subst hSw); go_simp⟩) ?_
            simp only [Act.put, List.setIfInBounds_toArray, List.set_cons_zero, List.set_cons_succ]
            refine held_take 8 (.bool false) rfl (by kernel_rfl) (by kernel_rfl) (by kernel_rfl) (fun _ _ _ h => h) hHeld (Or.inl ⟨by rfl, fun w' hSw => by (try dsimp only at hSw); (try subst hSw); go_simp⟩) ?_
            simp only [Act.put, List.setIfInBounds_toArray, List.set_cons_zero, List.set_cons_succ]
            refine held_take 9 (.bool false) rfl (by kernel_rfl) (by kernel_rfl) (by kernel_rfl) (fun _ _ _ h => h) hHeld (Or.inl ⟨by rfl, fun w' hSw => by (try dsimp only at hSw); (try subst hSw); go_simp⟩) ?_
            simp only [Act.put, List.setIfInBounds_toArray, List.set_cons_zero, List.set_cons_succ]
            refine held_take 10 (.bool false) rfl (by kernel_rfl) (by kernel_rfl) (by kernel_rfl) (fun _ _ _ h => h) hHeld (Or.inl ⟨by rfl, fun w' hSw => by (try dsimp only at hSw); (try subst hSw); go_simp⟩) ?_
            simp only [Act.put, List.setIfInBounds_toArray, List.set_cons_zero, List.set_cons_succ]
            refine held_take 11 (.int .i64 ((j : Int) + 1)) rfl (by kernel_rfl) (by kernel_rfl) (by kernel_rfl) (fun _ _ _ h => h) hHeld (Or.inl ⟨by rfl, fun w' hSw => by (try dsimp only at hSw); (try subst hSw); go_simp⟩) ?_
            simp only [Act.put, List.setIfInBounds_toArray, List.set_cons_zero, List.set_cons_succ]
            refine held_take 12 (.bool true) rfl (by kernel_rfl) (by kernel_rfl) (by kernel_rfl) (fun _ _ _ h => h) hHeld (Or.inl ⟨by rfl, fun w' hSw => by (try dsimp only at hSw); (try subst hSw); go_simp⟩) ?_
            simp only [Act.put, List.setIfInBounds_toArray, List.set_cons_zero, List.set_cons_succ]
            refine held_take 13 (.bool true) rfl (by kernel_rfl) (by kernel_rfl) (by kernel_rfl) (fun _ _ _ h => h) hHeld (Or.inl ⟨by rfl, fun w' hSw => by (try dsimp only at hSw); (try subst hSw); go_simp⟩) ?_
            simp only [Act.put, List.setIfInBounds_toArray, List.set_cons_zero, List.set_cons_succ]
            refine held_take 14 (.pointer (some ⟨w.heap.size, 4, none⟩)) rfl (by kernel_rfl) (by kernel_rfl) (by kernel_rfl) (fun _ _ _ h => h) hHeld (Or.inl ⟨by rfl, fun w' hSw => by (try dsimp only at hSw); (try subst hSw); go_simp⟩) ?_
            simp only [Act.put, List.setIfInBounds_toArray, List.set_cons_zero, List.set_cons_succ]
            refine held_take 15 (.slice (some ⟨g, o, none⟩) sl.length lc) rfl (by kernel_rfl) (by kernel_rfl) (by kernel_rfl) (fun _ _ _ h => h) hHeld (Or.inl ⟨by rfl, fun w' hSw => by (try dsimp only at hSw); (try subst hSw); go_simp⟩) ?_
            simp only [Act.put, List.setIfInBounds_toArray, List.set_cons_zero, List.set_cons_succ]
            refine held_take 16 (.int .i64 ((j : Int) + 1)) rfl (by kernel_rfl) (by kernel_rfl) (by kernel_rfl) (fun _ _ _ h => h) hHeld (Or.inl ⟨by rfl, fun w' hSw => by (try dsimp only at hSw); (try subst hSw); go_simp⟩) ?_
            simp only [Act.put, List.setIfInBounds_toArray, List.set_cons_zero, List.set_cons_succ]
            refine held_take 17 (.int .i64 j) rfl (by kernel_rfl) (by kernel_rfl) (by kernel_rfl) (fun _ _ _ h => h) hHeld (Or.inl ⟨by rfl, fun w' hSw => by (try dsimp only at hSw); (try subst hSw); go_simp⟩) ?_
            simp only [Act.put, List.setIfInBounds_toArray, List.set_cons_zero, List.set_cons_succ]
            refine held_take 18 (.pointer (some ⟨g, o + j * 7, none⟩)) rfl (by kernel_rfl) (by kernel_rfl) (by kernel_rfl) (fun _ _ _ h => h) hHeld (Or.inl ⟨by rfl, fun w' hSw => by (try dsimp only at hSw); (try subst hSw); go_simp⟩) ?_
            simp only [Act.put, List.setIfInBounds_toArray, List.set_cons_zero, List.set_cons_succ]
            refine held_take 19 (.pointer (some ⟨g, o + j * 7, none⟩)) rfl (by kernel_rfl) (by kernel_rfl) (by kernel_rfl) (fun _ _ _ h => h) hHeld (Or.inl ⟨by rfl, fun w' hSw => by (try dsimp only at hSw); (try subst hSw); go_simp⟩) ?_
            simp only [Act.put, List.setIfInBounds_toArray, List.set_cons_zero, List.set_cons_succ]
            refine held_take 20 (.int .u32 pf) rfl (by kernel_rfl) (by kernel_rfl) (by kernel_rfl) (fun _ _ _ h => h) hHeld (Or.inl ⟨by rfl, fun w' hSw => by (try dsimp only at hSw); (try subst hSw); go_simp⟩) ?_
            simp only [Act.put, List.setIfInBounds_toArray, List.set_cons_zero, List.set_cons_succ]
            refine held_take 21 (.pointer (some ⟨ga, 0, none⟩)) rfl (by kernel_rfl) (by kernel_rfl) (by kernel_rfl) (fun _ _ _ h => h) hHeld (Or.inl ⟨by rfl, fun w' hSw => by (try dsimp only at hSw); (try subst hSw); go_simp⟩) ?_
            simp only [Act.put, List.setIfInBounds_toArray, List.set_cons_zero, List.set_cons_succ]
            refine held_take 22 (.int .u32 x0) rfl (by kernel_rfl) (by kernel_rfl) (by kernel_rfl) (fun _ _ _ h => h) hHeld (Or.inl ⟨by rfl, fun w' hSw => by (try dsimp only at hSw); (try subst hSw); go_simp⟩) ?_
            simp only [Act.put, List.setIfInBounds_toArray, List.set_cons_zero, List.set_cons_succ]
            refine held_take 23 (.bool false) rfl (by kernel_rfl) (by kernel_rfl) (by kernel_rfl) (fun _ _ _ h => h) hHeld (Or.inl ⟨by rfl, fun w' hSw => by (try dsimp only at hSw); (try subst hSw); go_simp⟩) ?_
            simp only [Act.put, List.setIfInBounds_toArray, List.set_cons_zero, List.set_cons_succ]
            refine held_take 24 (.bool false) rfl (by kernel_rfl) (by kernel_rfl) (by kernel_rfl) (fun _ _ _ h => h) hHeld (Or.inl ⟨by rfl, fun w' hSw => by (try dsimp only at hSw); (try subst hSw); go_simp⟩) ?_
            simp only [Act.put, List.setIfInBounds_toArray, List.set_cons_zero, List.set_cons_succ]
            refine held_take 25 (.bool false) rfl (by kernel_rfl) (by kernel_rfl) (by kernel_rfl) (fun _ _ _ h => h) hHeld (Or.inl ⟨by rfl, fun w' hSw => by (try dsimp only at hSw); (try subst hSw); go_simp⟩) ?_
            simp only [Act.put, List.setIfInBounds_toArray, List.set_cons_zero, List.set_cons_succ]
            refine wpAnyH_done (by kernel_rfl) ?_ _
            clear hHeld
            have hkb := hka.trans k6
            obtain ⟨⟨_, _⟩, a0, a1, a2, a3, a4, a5, a6⟩ := KP.out _ k6
            obtain ⟨q0, q1, q2, q3, q4, q5, q6⟩ := KB.out _ hkb
            cases x5 with
            | true =>
              have hnx := Lib.hid (hok.out (fun e => by cases e))
              have hcx := Lib.hid (hsg.out rfl)
              go_wp2
              go_roundw
              case rel => exact ⟨j + 1 + 1, r, by omega, by go_num, rfl, by omega, hcx, hnx, hkb⟩
              case measure => simp [intOf]; omega
            | false =>
              have hF2 := Lib.hid (hF1.out _ (k0.trans hkb))
              cases fb with
              | false =>
                have hnt := Lib.hid (hb4.out rfl rfl)
                go_wp2_with fail
                refine hF2.out.mono ?_; rintro e w7 ⟨rfl, k7⟩
                go_wp2
                go_ret
                exact ⟨Says.no hnt.out, (k0.trans hkb).trans k7⟩
              | true =>
                have hnx := Lib.hid (hok.out (fun _ => rfl))
                have hcx := Lib.hid (hsf.out rfl)
                have hwr2 : IntKind.i64.wrap ((k : Int) - r - 1) = (k : Int) - r - 1 := by simp only [IntKind.wrap, IntKind.bits, IntKind.signed]; simp; omega
                go_wp2_with fail
                refine hF2.out.mono ?_; rintro e w7 ⟨rfl, k7⟩
                go_wp2
                go_roundw
                case rel => exact ⟨j + 1 + 1, r + 1, by omega, by go_num, by go_num, by omega, hcx, hnx, hkb.trans k7⟩
                case measure => simp [intOf]; omega
          · have hnt := Lib.hid (hb3'.out (by omega))
            have d9 : decide (x0 ≤ pf) = true := decide_eq_true (by omega)
            have d10 : x0 ≤ pf := by omega
            refine wp_region_held_drew (S := fun w' => ((w'.cell? ⟨w.heap.size, 1, none⟩ = some (.int .u32 sn) ∧ w'.cell? ⟨w.heap.size, 4, none⟩ = some (.slice (some ⟨g, o, none⟩) sl.length lc)) ∧ (w'.cell? ⟨ga, 0, none⟩ = some (.int .u32 x0) ∧ w'.cell? ⟨ga, 1, none⟩ = some (.int .u32 x1) ∧ w'.cell? ⟨ga, 2, none⟩ = some (.int .u32 x2) ∧ w'.cell? ⟨ga, 3, none⟩ = some (.int .u32 x3) ∧ w'.cell? ⟨ga, 4, none⟩ = some (.bool x4) ∧ w'.cell? ⟨ga, 5, none⟩ = some (.bool x5) ∧ w'.cell? ⟨ga, 6, none⟩ = some (.slice xA xl.length xd))) ∧ w'.cell? ⟨g, o + j * 7, none⟩ = some (.int .u32 pf)) (by kernel_rfl) (KQ.out _ (Only.refl [] _).drew) (fun hHeld => ?_)
            refine held_take 0 (.agg #[.int .u32 x0, .int .u32 x1, .int .u32 x2, .int .u32 x3, .bool x4, .bool x5, .slice xA xl.length xd]) rfl (by kernel_rfl) (by kernel_rfl) (by kernel_rfl) (fun _ _ _ h => h) hHeld (Or.inl ⟨by rfl, fun w' hSw => by (try dsimp only at hSw); (try subst hSw); go_simp⟩) ?_
            simp only [Act.put, List.setIfInBounds_toArray, List.set_cons_zero, List.set_cons_succ]
            refine held_step 1 rfl (by kernel_rfl) (fun K hK => ?_)
            go_simp
            refine (hW.out _ hwa.drew).mono ?_; rintro e w6 ⟨⟨r, rfl, hr⟩, k6⟩
            obtain rfl := hr.2 hwr.out
            clear hr; replace k6 := k6.undrew
            go_wp2_with fail
            refine hK.out _ _ (KQ.out _ k6) (fun hHeld => ?_)
            clear hK K
            refine held_take 2 (.bool false) rfl (by kernel_rfl) (by kernel_rfl) (by kernel_rfl) (fun _ _ _ h => h) hHeld (Or.inl ⟨by rfl, fun w' hSw => by (try dsimp only at hSw); (try subst hSw); go_simp⟩) ?_
            simp only [Act.put, List.setIfInBounds_toArray, List.set_cons_zero, List.set_cons_succ]
            refine held_take 3 (.bool false) rfl (by kernel_rfl) (by kernel_rfl) (by kernel_rfl) (fun _ _ _ h => h) hHeld (Or.inl ⟨by rfl, fun w' hSw => by (try dsimp only at hSw); (try subst hSw); go_simp⟩) ?_
            simp only [Act.put, List.setIfInBounds_toArray, List.set_cons_zero, List.set_cons_succ]
            refine held_take 4 (.pointer (some ⟨ga, 0, none⟩)) rfl (by kernel_rfl) (by kernel_rfl) (by kernel_rfl) (fun _ _ _ h => h) hHeld (Or.inl ⟨by rfl, fun w' hSw => by (try dsimp only at hSw); (try subst hSw); go_simp⟩) ?_
            simp only [Act.put, List.setIfInBounds_toArray, List.set_cons_zero, List.set_cons_succ]
            refine held_take 5 (.int .u32 x0) rfl (by kernel_rfl) (by kernel_rfl) (by kernel_rfl) (fun _ _ _ h => h) hHeld (Or.inl ⟨by rfl, fun w' hSw => by (try dsimp only at hSw); (try subst hSw); go_simp⟩) ?_
            simp only [Act.put, List.setIfInBounds_toArray, List.set_cons_zero, List.set_cons_succ]
            refine held_take 6 (.pointer (some ⟨w.heap.size, 1, none⟩)) rfl (by kernel_rfl) (by kernel_rfl) (by kernel_rfl) (fun _ _ _ h => h) hHeld (Or.inl ⟨by rfl, fun w' hSw => by (try dsimp only at hSw); (try subst hSw); go_simp⟩) ?_
            simp only [Act.put, List.setIfInBounds_toArray, List.set_cons_zero, List.set_cons_succ]
            refine held_take 7 (.int .u32 sn) rfl (by kernel_rfl) (by kernel_rfl) (by kernel_rfl) (fun _ _ _ h => h) hHeld (Or.inl ⟨by rfl, fun w' hSw => by (try dsimp only at hSw); (try subst hSw); go_simp⟩) ?_
            simp only [Act.put, List.setIfInBounds_toArray, List.set_cons_zero, List.set_cons_succ]
            refine held_take 8 (.bool false) rfl (by kernel_rfl) (by kernel_rfl) (by kernel_rfl) (fun _ _ _ h => h) hHeld (Or.inl ⟨by rfl, fun w' hSw => by (try dsimp only at hSw); (try subst hSw); go_simp⟩) ?_
            simp only [Act.put, List.setIfInBounds_toArray, List.set_cons_zero, List.set_cons_succ]
            refine held_take 9 (.bool false) rfl (by kernel_rfl) (by kernel_rfl) (by kernel_rfl) (fun _ _ _ h => h) hHeld (Or.inl ⟨by rfl, fun w' hSw => by (try dsimp only at hSw); (try subst hSw); go_simp⟩) ?_
            simp only [Act.put, List.setIfInBounds_toArray, List.set_cons_zero, List.set_cons_succ]
            refine held_take 10 (.bool false) rfl (by kernel_rfl) (by kernel_rfl) (by kernel_rfl) (fun _ _ _ h => h) hHeld (Or.inl ⟨by rfl, fun w' hSw => by (try dsimp only at hSw); (try subst hSw); go_simp⟩) ?_
            simp only [Act.put, List.setIfInBounds_toArray, List.set_cons_zero, List.set_cons_succ]
            refine held_take 11 (.int .i64 ((j : Int) + 1)) rfl (by kernel_rfl) (by kernel_rfl) (by kernel_rfl) (fun _ _ _ h => h) hHeld (Or.inl ⟨by rfl, fun w' hSw => by (try dsimp only at hSw); (try subst hSw); go_simp⟩) ?_
            simp only [Act.put, List.setIfInBounds_toArray, List.set_cons_zero, List.set_cons_succ]
            refine held_take 12 (.bool true) rfl (by kernel_rfl) (by kernel_rfl) (by kernel_rfl) (fun _ _ _ h => h) hHeld (Or.inl ⟨by rfl, fun w' hSw => by (try dsimp only at hSw); (try subst hSw); go_simp⟩) ?_
            simp only [Act.put, List.setIfInBounds_toArray, List.set_cons_zero, List.set_cons_succ]
            refine held_take 13 (.bool true) rfl (by kernel_rfl) (by kernel_rfl) (by kernel_rfl) (fun _ _ _ h => h) hHeld (Or.inl ⟨by rfl, fun w' hSw => by (try dsimp only at hSw); (try subst hSw); go_simp⟩) ?_
            simp only [Act.put, List.setIfInBounds_toArray, List.set_cons_zero, List.set_cons_succ]
            refine held_take 14 (.pointer (some ⟨w.heap.size, 4, none⟩)) rfl (by kernel_rfl) (by kernel_rfl) (by kernel_rfl) (fun _ _ _ h => h) hHeld (Or.inl ⟨by rfl, fun w' hSw => by (try dsimp only at hSw); (try subst hSw); go_simp⟩) ?_
            simp only [Act.put, List.setIfInBounds_toArray, List.set_cons_zero, List.set_cons_succ]
            refine held_take 15 (.slice (some ⟨g, o, none⟩) sl.length lc) rfl (by kernel_rfl) (by kernel_rfl) (by kernel_rfl) (fun _ _ _ h => h) hHeld (Or.inl ⟨by rfl, fun w' hSw => by (try dsimp only at hSw); (try subst hSw); go_simp⟩) ?_
            simp only [Act.put, List.setIfInBounds_toArray, List.set_cons_zero, List.set_cons_succ]
            refine held_take 16 (.int .i64 ((j : Int) + 1)) rfl (by kernel_rfl) (by kernel_rfl) (by kernel_rfl) (fun _ _ _ h => h) hHeld (Or.inl ⟨by rfl, fun w' hSw => by (try dsimp only at hSw); (try subst hSw); go_simp⟩) ?_
            simp only [Act.put, List.setIfInBounds_toArray, List.set_cons_zero, List.set_cons_succ]
            refine held_take 17 (.int .i64 j) rfl (by kernel_rfl) (by kernel_rfl) (by kernel_rfl) (fun _ _ _ h => h) hHeld (Or.inl ⟨by rfl, fun w' hSw => by (try dsimp only at hSw); (try subst hSw); go_simp⟩) ?_
            simp only [Act.put, List.setIfInBounds_toArray, List.set_cons_zero, List.set_cons_succ]
            refine held_take 18 (.pointer (some ⟨g, o + j * 7, none⟩)) rfl (by kernel_rfl) (by kernel_rfl) (by kernel_rfl) (fun _ _ _ h => h) hHeld (Or.inl ⟨by rfl, fun w' hSw => by (try dsimp only at hSw); (try subst hSw); go_simp⟩) ?_
            simp only [Act.put, List.setIfInBounds_toArray, List.set_cons_zero, List.set_cons_succ]
            refine held_take 19 (.pointer (some ⟨g, o + j * 7, none⟩)) rfl (by kernel_rfl) (by kernel_rfl) (by kernel_rfl) (fun _ _ _ h => h) hHeld (Or.inl ⟨by rfl, fun w' hSw => by (try dsimp only at hSw); (try subst hSw); go_simp⟩) ?_
            simp only [Act.put, List.setIfInBounds_toArray, List.set_cons_zero, List.set_cons_succ]
            refine held_take 20 (.int .u32 pf) rfl (by kernel_rfl) (by kernel_rfl) (by kernel_rfl) (fun _ _ _ h => h) hHeld (Or.inl ⟨by rfl, fun w' hSw => by (try dsimp only at hSw); (try subst hSw); go_simp⟩) ?_
            simp only [Act.put, List.setIfInBounds_toArray, List.set_cons_zero, List.set_cons_succ]
            refine held_take 21 (.pointer (some ⟨ga, 0, none⟩)) rfl (by kernel_rfl) (by kernel_rfl) (by kernel_rfl) (fun _ _ _ h => h) hHeld (Or.inl ⟨by rfl, fun w' hSw => by (try dsimp only at hSw); (try subst hSw); go_simp⟩) ?_
            simp only [Act.put, List.setIfInBounds_toArray, List.set_cons_zero, List.set_cons_succ]
            refine held_take 22 (.int .u32 x0) rfl (by kernel_rfl) (by kernel_rfl) (by kernel_rfl) (fun _ _ _ h => h) hHeld (Or.inl ⟨by rfl, fun w' hSw => by (try dsimp only at hSw); (try subst hSw); go_simp⟩) ?_
            simp only [Act.put, List.setIfInBounds_toArray, List.set_cons_zero, List.set_cons_succ]
            refine held_take 23 (.bool true) rfl (by kernel_rfl) (by kernel_rfl) (by kernel_rfl) (fun _ _ _ h => h) hHeld (Or.inl ⟨by rfl, fun w' hSw => by (try dsimp only at hSw); (try subst hSw); go_simp⟩) ?_
            simp only [Act.put, List.setIfInBounds_toArray, List.set_cons_zero, List.set_cons_succ]
            refine held_take 24 (.bool true) rfl (by kernel_rfl) (by kernel_rfl) (by kernel_rfl) (fun _ _ _ h => h) hHeld (Or.inl ⟨by rfl, fun w' hSw => by (try dsimp only at hSw); (try subst hSw); go_simp⟩) ?_
            simp only [Act.put, List.setIfInBounds_toArray, List.set_cons_zero, List.set_cons_succ]
            refine held_take 25 (.bool true) rfl (by kernel_rfl) (by kernel_rfl) (by kernel_rfl) (fun _ _ _ h => h) hHeld (Or.inl ⟨by rfl, fun w' hSw => by (try dsimp only at hSw); (try subst hSw); go_simp⟩) ?_
            simp only [Act.put, List.setIfInBounds_toArray, List.set_cons_zero, List.set_cons_succ]
            refine wpAnyH_done (by kernel_rfl) ?_ _
            clear hHeld
            go_wp2
            go_ret
            exact ⟨Says.no hnt.out, hwa.trans k6⟩

end Go.Proofs.YtalkhhjfplahkaaGreat
