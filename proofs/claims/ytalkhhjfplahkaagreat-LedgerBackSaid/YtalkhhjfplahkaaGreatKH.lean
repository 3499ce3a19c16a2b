/- Joined: Rd3, Rd4. -/
import Derived.Test.YtalkhhjfplahkaaGreatKG
namespace Go.Proofs.YtalkhhjfplahkaaGreat
open Go.RowKit

attribute [local go_sem] Forth.normal Forth.exit Forth.ret Forth.panic

theorem info_u32 : (Tryz.prog.info? 22).map (fun i => (i.zero, i.size, i.bytes)) = some (some (.int .u32 0), 1, 4) := by kernel_rfl

theorem length_fail (w : World) (p g o c : Nat) (bs : List UInt8) (err : Nat) (most : Int) (h : RdAt w p g o c bs err) (hn : err ≠ 0 ∨ (bs.length : Int) < 4) :
    Calls Tryz.prog 90 #[.pointer (some ⟨p, 0, none⟩), .int .i64 most] w fun e w' => e = .returned (.tuple #[.int .u64 0, .int .i64 (lackE err : Nat)]) ∧ w = w' := by
  have hne : (((lackE err : Nat) : Int) != 0) = true := by have := lackE_ne err; simp; omega
  go_enter Tryz.func90, Tryz.ntmps90
  go_wp2_with fail
  refine wp_scope_forth 0 rfl ?_
  go_wp2_with fail
  refine (next_fail _ p g o c bs err _ h hn).mono ?_
  rintro e w1 ⟨rfl, rfl⟩
  go_wp2_with fail
  go_step3
  refine ⟨rfl, ?_⟩
  go_wp2
  rw [Exit.noGoto_ret]
  go_ret2
  exact ⟨rfl, rfl⟩

theorem length_more (w : World) (p g o c : Nat) (bs : List UInt8) (most : Int) (h : RdAt w p g o c bs 0) (hn : 4 ≤ bs.length) (hm : most < (hd4 bs : Nat)) :
    Calls Tryz.prog 90 #[.pointer (some ⟨p, 0, none⟩), .int .i64 most] w fun e w' => e = .returned (.tuple #[.int .u64 0, .int .i64 4]) ∧ ∃ m, w' = w.drewN m := by
  have l1 := hd4_lt bs
  have l1' : ((hd4 bs : Nat) : Int) < 4294967296 := by omega
  by_cases h0 : most < 0
  · go_enter Tryz.func90, Tryz.ntmps90
    go_wp2_with fail
    refine wp_scope_forth 0 rfl ?_
    go_wp2_with fail
    refine (next_ok _ p g o c bs _ 4 rfl h hn).mono ?_
    rintro e w1 ⟨rfl, rfl⟩
    go_wp2_with fail
    refine (number_any _ g o 4 c bs h.bytes hn (Nat.le_refl _)).mono ?_
    rintro e w2 ⟨rfl, m, rfl⟩
    go_wp2_with fail
    go_step3
    refine ⟨rfl, ?_⟩
    go_wp2
    rw [Exit.noGoto_ret]
    go_ret2
    exact ⟨rfl, _, rfl⟩
  · have h0' : 0 ≤ most := by omega
    have h2 : most < 4294967296 := by omega
    go_enter Tryz.func90, Tryz.ntmps90
    go_wp2_with fail
    refine wp_scope_forth 0 rfl ?_
    go_wp2_with fail
    refine (next_ok _ p g o c bs _ 4 rfl h hn).mono ?_
    rintro e w1 ⟨rfl, rfl⟩
    go_wp2_with fail
    refine (number_any _ g o 4 c bs h.bytes hn (Nat.le_refl _)).mono ?_
    rintro e w2 ⟨rfl, m, rfl⟩
    go_wp2_with fail
    go_step3
    refine ⟨rfl, ?_⟩
    go_wp2
    rw [Exit.noGoto_ret]
    go_ret2
    exact ⟨rfl, _, rfl⟩

theorem number_is (w : World) (g o n c : Nat) (l : List UInt8) (q : Nat) (hq : hd4 l = q) (hb : BytesAt w g o l) (hl : 4 ≤ l.length) (hn : 4 ≤ n) :
    Calls Tryz.prog 88 #[.slice (some ⟨g, o, none⟩) n c] w fun e w' => e = .returned (.int .u32 (q : Int)) ∧ ∃ m, w' = w.drewN m := by
  subst hq
  exact number_any w g o n c l hb hl hn

theorem length_is (w : World) (p g o c : Nat) (bs : List UInt8) (M q : Nat) (hq : hd4 bs = q) (h : RdAt w p g o c bs 0) (hn : 4 ≤ bs.length) (hm : q ≤ M) (hw : M ≤ 9223372036854775807) :
    Calls Tryz.prog 90 #[.pointer (some ⟨p, 0, none⟩), .int .i64 (M : Int)] w fun e w' => e = .returned (.tuple #[.int .u64 (q : Int), .int .i64 0]) ∧ ∃ m, w' = w.drewN m := by
  have HQ := Lib.hid hq
  clear hq
  go_enter Tryz.func90, Tryz.ntmps90
  go_wp2_with fail
  refine wp_scope_forth 0 rfl ?_
  go_wp2_with fail
  refine (next_ok _ p g o c bs _ 4 rfl h hn).mono ?_
  rintro e w1 ⟨rfl, rfl⟩
  go_wp2_with fail
  refine (number_is _ g o 4 c bs q HQ.out h.bytes hn (Nat.le_refl _)).mono ?_
  rintro e w2 ⟨rfl, m, rfl⟩
  go_wp2
  rw [Forth.ret]
  go_ret2
  exact ⟨rfl, _, rfl⟩

theorem length_ok (w : World) (p g o c : Nat) (bs : List UInt8) (most : Int) (h : RdAt w p g o c bs 0) (hn : 4 ≤ bs.length) (hm : ((hd4 bs : Nat) : Int) ≤ most) (hw : most ≤ 9223372036854775807) :
    Calls Tryz.prog 90 #[.pointer (some ⟨p, 0, none⟩), .int .i64 most] w fun e w' => e = .returned (.tuple #[.int .u64 (hd4 bs : Nat), .int .i64 0]) ∧ ∃ m, w' = w.drewN m := by
  obtain ⟨M, rfl⟩ := Int.eq_ofNat_of_zero_le (show 0 ≤ most by omega)
  exact length_is w p g o c bs M _ rfl h hn (by omega) (by omega)

theorem length_nil (w : World) (most : Int) :
    Calls Tryz.prog 90 #[.pointer none, .int .i64 most] w fun e w' => e = .returned (.tuple #[.int .u64 0, .int .i64 2]) ∧ w = w' := by
  go_enter Tryz.func90, Tryz.ntmps90
  go_wp2_with fail
  refine wp_scope_forth 0 rfl ?_
  go_wp2_with fail
  refine (next_nil _ _).mono ?_
  rintro e w1 ⟨rfl, rfl⟩
  go_wp2_with fail
  go_step3
  refine ⟨rfl, ?_⟩
  go_wp2
  rw [Exit.noGoto_ret]
  go_ret2
  exact ⟨rfl, rfl⟩

theorem any_take (l : List UInt8) (k : Nat) (h : k < l.length) : (l.take (k + 1)).any (· != 0) = ((l.take k).any (· != 0) || l[k] != 0) := by
  rw [List.take_succ_eq_append_getElem h, List.any_append]
  simp
theorem any_at (l : List UInt8) (k : Nat) (h : k < l.length) (h0 : (l[k] != 0) = true) : l.any (· != 0) = true :=
  List.any_eq_true.2 ⟨l[k], List.getElem_mem h, h0⟩

set_option maxHeartbeats 400000 in
theorem zero_any (w : World) (g o c : Nat) (l : List UInt8) (hb : BytesAt w g o l) (hl : l.length ≤ 1048576) :
    Calls Tryz.prog 92 #[.slice (some ⟨g, o, none⟩) l.length c] w fun e w' => e = .returned (.bool (!l.any (· != 0))) ∧ w = w' := by
  have Hb := Lib.hid hb
  clear hb
  go_enter Tryz.func92, Tryz.ntmps92
  go_wp2
  go_loop [7] (fun i => ∃ k : Nat, k ≤ l.length ∧ i = .int .i64 k ∧ (l.take k).any (· != 0) = false) (fun i => l.length - (intOf i).toNat)
  case atStart => exact ⟨0, Nat.zero_le _, rfl, by simp⟩
  case round =>
    obtain ⟨k, hk, rfl, hz⟩ := hrel
    have HZ := Lib.hid hz
    clear hz
    by_cases hlt : k < l.length
    · have hcell := Hb.out k hlt
      unfold byteV at hcell
      by_cases h0 : l[k] = 0
      · have ht : ((l[k].toNat : Int) != 0) = false := by rw [h0]; rfl
        go_wp2
        go_round
        case rel => exact ⟨k + 1, by omega, by go_num, by rw [any_take l k hlt, HZ.out, h0]; rfl⟩
        case measure => simp [intOf]; omega
      · have h1 : (l[k] != 0) = true := by simpa using h0
        have ht : ((l[k].toNat : Int) != 0) = true := by
          simp only [bne_iff_ne, ne_eq]
          intro e
          apply h0
          apply UInt8.toNat_inj.1
          have : l[k].toNat = 0 := by omega
          simpa using this
        have hany := Lib.hid (any_at l k hlt h1)
        clear h1
        go_wp2
        go_ret
        exact ⟨by rw [hany.out]; rfl, rfl⟩
    · obtain rfl : k = l.length := by omega
      go_wp2
      go_ret
      have := HZ.out
      rw [List.take_length] at this
      exact ⟨by rw [this]; rfl, rfl⟩

theorem zero_is (w : World) (g o c n : Nat) (l : List UInt8) (r : Bool) (hl : l.length = n) (hr : (!l.any (· != 0)) = r) (hb : BytesAt w g o l) (hn : n ≤ 1048576) :
    Calls Tryz.prog 92 #[.slice (some ⟨g, o, none⟩) n c] w fun e w' => e = .returned (.bool r) ∧ w = w' := by
  subst hl
  subst hr
  exact zero_any w g o c l hb hn

theorem BytesAt.drewN {w : World} {g o : Nat} {l : List UInt8} (h : BytesAt w g o l) (m : Nat) : BytesAt (w.drewN m) g o l := h

/-- The cells of numbers. -/
def numVs (l : List Nat) : Array Value := (l.map fun n : Nat => Value.int .u32 (n : Int)).toArray
theorem numVs_set (l : List Nat) (k n : Nat) : (numVs l).setIfInBounds k (.int .u32 (n : Int)) = numVs (l.set k n) := by
  unfold numVs
  simp [List.map_set]
theorem numVs_at (l : List Nat) (k : Nat) (h : k < l.length) : (numVs l)[k]? = some (.int .u32 (l[k] : Int)) := by
  unfold numVs
  simp [List.getElem?_eq_getElem h]
theorem numVs_zero (n : Nat) : (List.replicate n (Value.int .u32 0)).toArray = numVs (List.replicate n 0) := by
  unfold numVs
  simp

def Filling (w wr : World) (n k : Nat) (l : List UInt8) : Prop :=
  ∃ cur : List Nat, cur.length = n ∧ Blk wr w.heap.size 22 (numVs cur) ∧ Only [] w wr ∧ ∀ j (hj : j < cur.length), j < k → cur[j] = hd4 (l.drop (4 * j))

theorem Filling.more {w wr : World} {n k : Nat} {l : List UInt8} {cur : List Nat} (h1 : cur.length = n) (h2 : Blk wr w.heap.size 22 (numVs cur)) (h3 : Only [] w wr) (h4 : ∀ j (hj : j < cur.length), j < k → cur[j] = hd4 (l.drop (4 * j))) (m : Nat) :
    Filling w ((wr.drewN m).setCell ⟨w.heap.size, k, none⟩ (.int .u32 ((hd4 (l.drop (4 * k)) : Nat) : Int))) n (k + 1) l := by
  refine ⟨cur.set k (hd4 (l.drop (4 * k))), by simpa using h1, ?_, (h3.drewN m).setCell (.inr (Nat.le_refl _)) _, fun j hj hk => ?_⟩
  · rw [← numVs_set]
    exact Blk.set (w := wr.drewN m) h2 k _
  · rw [List.getElem_set]
    split
    · rename_i e; subst e; rfl
    · exact h4 j (by simpa using hj) (by omega)

theorem Filling.start (w : World) (n : Nat) (l : List UInt8) : Filling w (w.alloc (.cells (Array.replicate n (.int .u32 0)) 22)) n 0 l := by
  refine ⟨List.replicate n 0, by simp, ?_, (Only.refl [] w).alloc _, fun j _ h => by omega⟩
  have := Blk.new w 22 (Array.replicate n (.int .u32 0))
  rw [← numVs_zero]
  simpa using this

theorem Filling.done {w wr : World} {n : Nat} {l : List UInt8} (h : Filling w wr n n l) : NumsAt wr w.heap.size 0 (decNs n l) ∧ Only [] w wr := by
  obtain ⟨cur, h1, h2, h3, h4⟩ := h
  have : cur = decNs n l := decNs_of n l cur h1 fun j hj => h4 j hj (by omega)
  subst this
  refine ⟨fun j hj => ?_, h3⟩
  rw [Nat.zero_add, h2.cell j, numVs_at _ j hj]

set_option maxHeartbeats 400000 in
theorem xnumbers_any (w : World) (g o c n : Nat) (l : List UInt8) (hb : BytesAt w g o l) (hl : l.length = 4 * n) (hn : n ≤ 1048576) (hc : 4 * n ≤ c) :
    Calls Tryz.prog 91 #[.slice (some ⟨g, o, none⟩) (4 * n) c] w fun e w' => e = .returned (.slice (some ⟨w.heap.size, 0, none⟩) n n) ∧ NumsAt w' w.heap.size 0 (decNs n l) ∧ Only [] w w' := by
  have Hb := Lib.hid hb
  have HL := Lib.hid hl
  clear hb hl
  have H0 := Filling.start w n l
  go_enter Tryz.func91, Tryz.ntmps91
  go_wp2_with (refine wpList_make_cells _ rfl (.tmp 7) (.tmp 7) 89 rfl 22 (.int .u32 0) 4 Tryz.underlying89 info_u32 rfl .i64 .i64 _ _ n rfl rfl (by omega) (by omega) (by omega) (by omega) ?_)
  go_loopw [11] (fun i wr => ∃ k : Nat, k ≤ n ∧ i = .int .i64 k ∧ Filling w wr n k l) (fun i _ => n - (intOf i).toNat)
  case atStart => exact ⟨0, Nat.zero_le _, rfl, H0⟩
  case round =>
    clear H0
    obtain ⟨k, hk, rfl, hf⟩ := hrel
    by_cases hlt : k < n
    · obtain ⟨cur, h1, h2, h3, h4⟩ := hf
      obtain ⟨o', ho', hsl⟩ := slice_tail (P := Tryz.prog) 82 5 Tryz.underlying82 size_u8 g o (4 * n) c (4 * k) .i64 (4 * (k : Int)) (by omega) (by omega)
      obtain rfl := ho' (by omega)
      have hbk := Lib.hid ((Hb.out.kept h3 (by simp)).drop (4 * k))
      obtain ⟨v, hc2⟩ : ∃ v : Int, wr.cell? ⟨w.heap.size, k, none⟩ = some (.int .u32 v) := ⟨_, by rw [h2.cell k, numVs_at cur k (by omega)]⟩
      have hf2 := h2.free k
      have hlen : 4 ≤ (l.drop (4 * k)).length := by have := HL.out; simp; omega
      have Hmore := Lib.hid (fun m => Filling.more h1 h2 h3 h4 m)
      clear h1 h2 h3 h4 ho'
      go_wp2_with fail
      refine (number_any _ g (o + 4 * k) (4 * n - 4 * k) (c - 4 * k) (l.drop (4 * k)) hbk.out hlen (by omega)).mono ?_
      rintro e w2 ⟨rfl, m, rfl⟩
      go_wp2
      go_roundw
      case rel => exact ⟨k + 1, by omega, by go_num, Hmore.out m⟩
      case measure => simp [intOf]; omega
    · obtain rfl : k = n := by omega
      go_wp2
      go_ret
      exact ⟨rfl, hf.done⟩


/-- What a read of a list leaves. -/
def TookL (w : World) (p g : Nat) (l : List Nat) (bs : List UInt8) (err : Nat) (e : Ending) (w' : World) : Prop :=
  ∃ A c, e = .returned (.slice A l.length c) ∧ (l = [] ∨ ∃ h, A = some ⟨h, 0, none⟩ ∧ w.heap.size ≤ h ∧ NumsAt w' h 0 l) ∧ Rd w' p g bs err ∧ Only [p] w w'

theorem text_fail (w : World) (p g o c : Nat) (bs : List UInt8) (err : Nat) (most : Int) (h : RdAt w p g o c bs err) (hn : err ≠ 0 ∨ (bs.length : Int) < 4) :
    Calls Tryz.prog 68 #[.pointer (some ⟨p, 0, none⟩), .int .i64 most] w (Took w p g (.string ⟨#[]⟩) bs (lackE err)) := by
  have hne : (((lackE err : Nat) : Int) != 0) = true := by have := lackE_ne err; simp; omega
  go_enter Tryz.func68, Tryz.ntmps68
  go_wp2_with fail
  refine wp_scope_forth 0 rfl ?_
  go_wp2_with fail
  refine (length_fail _ p g o c bs err most h hn).mono ?_
  rintro e w1 ⟨rfl, rfl⟩
  go_wp2_with fail
  go_step3
  refine ⟨rfl, ?_⟩
  go_wp2_with fail
  refine (fail_any _ p g bs err _ ⟨o, c, h⟩).mono ?_
  rintro e w1 ⟨rfl, h1, k1⟩
  go_wp2
  rw [Exit.noGoto_ret]
  go_ret
  exact ⟨rfl, h1, k1⟩

theorem text_more (w : World) (p g o c : Nat) (bs : List UInt8) (most : Int) (h : RdAt w p g o c bs 0) (hn : 4 ≤ bs.length) (hm : most < (hd4 bs : Nat)) :
    Calls Tryz.prog 68 #[.pointer (some ⟨p, 0, none⟩), .int .i64 most] w (Took w p g (.string ⟨#[]⟩) bs 4) := by
  have HM := Lib.hid hm
  clear hm
  go_enter Tryz.func68, Tryz.ntmps68
  go_wp2_with fail
  refine wp_scope_forth 0 rfl ?_
  go_wp2_with fail
  refine (length_more _ p g o c bs most h hn HM.out).mono ?_
  rintro e w1 ⟨rfl, m, rfl⟩
  go_wp2_with fail
  go_step3
  refine ⟨rfl, ?_⟩
  go_wp2_with fail
  refine (fail_any _ p g bs 0 4 ⟨o, c, h.drewN m⟩).mono ?_
  rintro e w1 ⟨rfl, h1, k1⟩
  go_wp2
  rw [Exit.noGoto_ret]
  go_ret
  exact ⟨rfl, h1, ((Only.refl [p] w).drewN m).trans k1⟩

theorem text_short (w : World) (p g o c : Nat) (bs : List UInt8) (M q : Nat) (hq : hd4 bs = q) (h : RdAt w p g o c bs 0) (hn : 4 ≤ bs.length) (hm : q ≤ M) (hw : M ≤ 9223372036854775807) (hs : bs.length < 4 + q + padN q) :
    Calls Tryz.prog 68 #[.pointer (some ⟨p, 0, none⟩), .int .i64 (M : Int)] w (Took w p g (.string ⟨#[]⟩) bs 2) := by
  have l1 := hd4_lt bs
  rw [hq] at l1
  have hp := padN_lt q
  have HQ := Lib.hid hq
  have HW := Lib.hid hw
  have HM := Lib.hid hm
  clear hq hw hm
  go_enter Tryz.func68, Tryz.ntmps68
  go_wp2_with fail
  refine wp_scope_forth 0 rfl ?_
  go_wp2_with fail
  refine (length_is _ p g o c bs M q HQ.out h hn HM.out HW.out).mono ?_
  rintro e w1 ⟨rfl, m, rfl⟩
  have h1 := h.drewN m
  go_wp2_with fail
  refine (padding_any _ _ q rfl (by omega)).mono ?_
  rintro e w4 ⟨rfl, rfl⟩
  go_wp2_with fail
  refine (next_short _ p g o c bs _ h1 (by omega)).mono ?_
  rintro e w1 ⟨rfl, rfl⟩
  go_wp2_with fail
  go_step3
  refine ⟨rfl, ?_⟩
  go_wp2_with fail
  refine (fail_any _ p g bs 0 2 ⟨o, c, h1⟩).mono ?_
  rintro e w1 ⟨rfl, h1, k1⟩
  go_wp2
  rw [Exit.noGoto_ret]
  go_ret
  exact ⟨rfl, h1, ((Only.refl [p] w).drewN m).trans k1⟩

theorem text_form (w : World) (p g o c : Nat) (bs : List UInt8) (M q : Nat) (hq : hd4 bs = q) (h : RdAt w p g o c bs 0) (hn : 4 ≤ bs.length) (hm : q ≤ M) (hw : M ≤ 9223372036854775807) (hs : 4 + q + padN q ≤ bs.length)
    (hz : ((bs.drop (4 + q)).take (padN q)).any (· != 0) = true) :
    Calls Tryz.prog 68 #[.pointer (some ⟨p, 0, none⟩), .int .i64 (M : Int)] w (Took w p g (.string ⟨#[]⟩) bs 3) := by
  have l1 := hd4_lt bs
  rw [hq] at l1
  have hp := padN_lt q
  have hle := h.le
  have HQ := Lib.hid hq
  have HW := Lib.hid hw
  have HM := Lib.hid hm
  have HZ := Lib.hid hz
  clear hq hw hm hz
  obtain ⟨o', ho', hsl⟩ := slice_tail (P := Tryz.prog) 82 5 Tryz.underlying82 size_u8 g o (4 + q + padN q) c (4 + q) .u64 (4 + (q : Int)) (by omega) (by omega)
  have hpl : ((bs.drop (4 + q)).take (padN q)).length = padN q := by simp; omega
  have HP := Lib.hid hpl
  clear hpl
  have hbz : BytesAt w g o' ((bs.drop (4 + q)).take (padN q)) := by
    by_cases hc : 4 + q < c
    · rw [ho' hc]
      exact (h.bytes.drop (4 + q)).take _
    · rw [show padN q = 0 by omega]
      exact BytesAt.nil _ _ _
  have HB := Lib.hid hbz
  clear hbz ho'
  go_enter Tryz.func68, Tryz.ntmps68
  go_wp2_with fail
  refine wp_scope_forth 0 rfl ?_
  go_wp2_with fail
  refine (length_is _ p g o c bs M q HQ.out h hn HM.out HW.out).mono ?_
  rintro e w1 ⟨rfl, m, rfl⟩
  have h1 := h.drewN m
  go_wp2_with fail
  refine (padding_any _ _ q rfl (by omega)).mono ?_
  rintro e w4 ⟨rfl, rfl⟩
  go_wp2_with fail
  refine (next_ok _ p g o c bs _ (4 + q + padN q) (by omega) h1 hs).mono ?_
  rintro e w1 ⟨rfl, rfl⟩
  go_wp2_with fail
  refine (zero_is _ g o' (c - (4 + q)) (padN q) _ false HP.out (by rw [HZ.out]; rfl) (HB.out.drewN m) (by omega)).mono ?_
  rintro e w1 ⟨rfl, rfl⟩
  go_wp2_with fail
  go_step3
  refine ⟨rfl, ?_⟩
  go_wp2_with fail
  refine (fail_any _ p g bs 0 3 ⟨o, c, h1⟩).mono ?_
  rintro e w1 ⟨rfl, h1, k1⟩
  go_wp2
  rw [Exit.noGoto_ret]
  go_ret
  exact ⟨rfl, h1, ((Only.refl [p] w).drewN m).trans k1⟩

set_option maxHeartbeats 400000 in
theorem text_ok (w : World) (p g o c : Nat) (bs : List UInt8) (M q : Nat) (hq : hd4 bs = q) (h : RdAt w p g o c bs 0) (hn : 4 ≤ bs.length) (hm : q ≤ M) (hw : M ≤ 9223372036854775807) (hs : 4 + q + padN q ≤ bs.length)
    (hz : ((bs.drop (4 + q)).take (padN q)).any (· != 0) = false) :
    Calls Tryz.prog 68 #[.pointer (some ⟨p, 0, none⟩), .int .i64 (M : Int)] w (Took w p g (.string (strOf ((bs.drop 4).take q))) (bs.drop (4 + q + padN q)) 0) := by
  have l1 := hd4_lt bs
  rw [hq] at l1
  have hp := padN_lt q
  have hle := h.le
  have hgp := h.ne
  have HQ := Lib.hid hq
  have HW := Lib.hid hw
  have HM := Lib.hid hm
  have HZ := Lib.hid hz
  clear hq hw hm hz
  obtain ⟨o', ho', hsl⟩ := slice_tail (P := Tryz.prog) 82 5 Tryz.underlying82 size_u8 g o (4 + q + padN q) c (4 + q) .u64 (4 + (q : Int)) (by omega) (by omega)
  have hpl : ((bs.drop (4 + q)).take (padN q)).length = padN q := by simp; omega
  have HP := Lib.hid hpl
  clear hpl
  have hbz : BytesAt w g o' ((bs.drop (4 + q)).take (padN q)) := by
    by_cases hc : 4 + q < c
    · rw [ho' hc]
      exact (h.bytes.drop (4 + q)).take _
    · rw [show padN q = 0 by omega]
      exact BytesAt.nil _ _ _
  have HB := Lib.hid hbz
  clear hbz ho'
  obtain ⟨o2, ho2, hsl2⟩ := slice_part (P := Tryz.prog) 82 5 Tryz.underlying82 size_u8 g o (4 + q + padN q) c 4 (4 + q) .i64 .u64 4 (4 + (q : Int)) (by omega) (by omega) (by omega) (by omega)
  have htl : ((bs.drop 4).take q).length = q := by simp; omega
  have HT := Lib.hid htl
  clear htl
  have hb2 : BytesAt w g o2 ((bs.drop 4).take q) := by
    by_cases hc : 4 < c
    · rw [ho2 hc]
      exact (h.bytes.drop 4).take _
    · rw [show q = 0 by omega]
      exact BytesAt.nil _ _ _
  have HB2 := Lib.hid hb2
  clear hb2 ho2
  go_enter Tryz.func68, Tryz.ntmps68
  go_wp2_with fail
  refine wp_scope_forth 0 rfl ?_
  go_wp2_with fail
  refine (length_is _ p g o c bs M q HQ.out h hn HM.out HW.out).mono ?_
  rintro e w1 ⟨rfl, m, rfl⟩
  have h1 := h.drewN m
  go_wp2_with fail
  refine (padding_any _ _ q rfl (by omega)).mono ?_
  rintro e w4 ⟨rfl, rfl⟩
  go_wp2_with fail
  refine (next_ok _ p g o c bs _ (4 + q + padN q) (by omega) h1 hs).mono ?_
  rintro e w1 ⟨rfl, rfl⟩
  go_wp2_with fail
  refine (zero_is _ g o' (c - (4 + q)) (padN q) _ true HP.out (by rw [HZ.out]; rfl) (HB.out.drewN m) (by omega)).mono ?_
  rintro e w1 ⟨rfl, rfl⟩
  go_wp2_with fail
  refine (consume_any _ p g o c bs 0 _ (4 + q + padN q) c h1 hs).mono ?_
  rintro e w1 ⟨rfl, h2, k2⟩
  have hsrc := SrcV.of_bytes (c - 4) ((HB2.out.drewN m).kept k2 (by simpa using hgp))
  rw [HT.out] at hsrc
  go_wp2_with (refine wpList_to_string _ rfl 82 9 5 (.tmp 40) rfl Tryz.underlying82 Tryz.underlying5 Tryz.underlying9 _ q (c - 4) ((bs.drop 4).take q) rfl hsrc ?_)
  rw [Forth.ret]
  go_ret
  exact ⟨rfl, h2, ((Only.refl [p] w).drewN m).trans k2⟩

theorem rtext_any (w : World) (p g : Nat) (bs : List UInt8) (err : Nat) (most : Int) (hm : most ≤ 9223372036854775807) (h : Rd w p g bs err) :
    Calls Tryz.prog 68 #[.pointer (some ⟨p, 0, none⟩), .int .i64 most] w (Took w p g (.string (strOf (rText most bs err).1)) (rText most bs err).2.1 (rText most bs err).2.2) := by
  obtain ⟨o, c, h⟩ := h
  unfold rText
  by_cases he : err ≠ 0
  · rw [if_pos he]
    have := text_fail w p g o c bs err most h (.inl he)
    rwa [show lackE err = err by unfold lackE; rw [if_neg he]] at this
  · rw [if_neg he]
    have he0 : err = 0 := by omega
    subst he0
    by_cases hl : bs.length < 4
    · rw [if_pos hl]
      exact text_fail w p g o c bs 0 most h (.inr (by omega))
    · rw [if_neg hl]
      by_cases h1 : most < (hd4 bs : Int)
      · rw [if_pos h1]
        exact text_more w p g o c bs most h (by omega) h1
      · rw [if_neg h1]
        obtain ⟨M, rfl⟩ := Int.eq_ofNat_of_zero_le (show 0 ≤ most by omega)
        by_cases h2 : bs.length < 4 + hd4 bs + padN (hd4 bs)
        · rw [if_pos h2]
          exact text_short w p g o c bs M _ rfl h (by omega) (by omega) (by omega) h2
        · rw [if_neg h2]
          by_cases h3 : ((bs.drop (4 + hd4 bs)).take (padN (hd4 bs))).any (· != 0) = true
          · rw [if_pos h3]
            exact text_form w p g o c bs M _ rfl h (by omega) (by omega) (by omega) (by omega) h3
          · rw [if_neg h3]
            exact text_ok w p g o c bs M _ rfl h (by omega) (by omega) (by omega) (by omega) (by simpa using h3)

theorem rtext_nil (w : World) (most : Int) : Calls Tryz.prog 68 #[.pointer none, .int .i64 most] w fun e w' => e = .returned (.string ⟨#[]⟩) ∧ w = w' := by
  go_enter Tryz.func68, Tryz.ntmps68
  go_wp2_with fail
  refine wp_scope_forth 0 rfl ?_
  go_wp2_with fail
  refine (length_nil _ most).mono ?_
  rintro e w1 ⟨rfl, rfl⟩
  go_wp2_with fail
  go_step3
  refine ⟨rfl, ?_⟩
  go_wp2_with fail
  refine (fail_nil _ _).mono ?_
  rintro e w1 ⟨rfl, rfl⟩
  go_wp2
  rw [Exit.noGoto_ret]
  go_ret
  exact ⟨rfl, rfl⟩

end Go.Proofs.YtalkhhjfplahkaaGreat
namespace Go.Proofs.YtalkhhjfplahkaaGreat
open Go.RowKit

attribute [local go_sem] Forth.normal Forth.exit Forth.ret Forth.panic

theorem list_fail (w : World) (p g o c : Nat) (bs : List UInt8) (err : Nat) (most : Int) (h : RdAt w p g o c bs err) (hn : err ≠ 0 ∨ (bs.length : Int) < 4) :
    Calls Tryz.prog 67 #[.pointer (some ⟨p, 0, none⟩), .int .i64 most] w (Took w p g (.slice none 0 0) bs (lackE err)) := by
  have hne : (((lackE err : Nat) : Int) != 0) = true := by have := lackE_ne err; simp; omega
  go_enter Tryz.func67, Tryz.ntmps67
  go_wp2_with fail
  refine wp_scope_forth 0 rfl ?_
  go_wp2_with fail
  refine (length_fail _ p g o c bs err most h hn).mono ?_
  rintro e w1 ⟨rfl, rfl⟩
  go_wp2_with fail
  go_step3
  refine ⟨rfl, ?_⟩
  go_wp2_with fail
  refine (fail_any _ p g bs err _ ⟨o, c, h⟩).mono ?_
  rintro e w1 ⟨rfl, h1, k1⟩
  go_wp2
  rw [Exit.noGoto_ret]
  go_ret
  exact ⟨rfl, h1, k1⟩

theorem list_more (w : World) (p g o c : Nat) (bs : List UInt8) (most : Int) (h : RdAt w p g o c bs 0) (hn : 4 ≤ bs.length) (hm : most < (hd4 bs : Nat)) :
    Calls Tryz.prog 67 #[.pointer (some ⟨p, 0, none⟩), .int .i64 most] w (Took w p g (.slice none 0 0) bs 4) := by
  have HM := Lib.hid hm
  clear hm
  go_enter Tryz.func67, Tryz.ntmps67
  go_wp2_with fail
  refine wp_scope_forth 0 rfl ?_
  go_wp2_with fail
  refine (length_more _ p g o c bs most h hn HM.out).mono ?_
  rintro e w1 ⟨rfl, m, rfl⟩
  go_wp2_with fail
  go_step3
  refine ⟨rfl, ?_⟩
  go_wp2_with fail
  refine (fail_any _ p g bs 0 4 ⟨o, c, h.drewN m⟩).mono ?_
  rintro e w1 ⟨rfl, h1, k1⟩
  go_wp2
  rw [Exit.noGoto_ret]
  go_ret
  exact ⟨rfl, h1, ((Only.refl [p] w).drewN m).trans k1⟩

theorem list_short (w : World) (p g o c : Nat) (bs : List UInt8) (M q : Nat) (hq : hd4 bs = q) (h : RdAt w p g o c bs 0) (hn : 4 ≤ bs.length) (hm : q ≤ M) (hw : M ≤ 9223372036854775807) (hs : bs.length < 4 + 4 * q) :
    Calls Tryz.prog 67 #[.pointer (some ⟨p, 0, none⟩), .int .i64 (M : Int)] w (Took w p g (.slice none 0 0) bs 2) := by
  have l1 := hd4_lt bs
  rw [hq] at l1
  have HQ := Lib.hid hq
  have HW := Lib.hid hw
  have HM := Lib.hid hm
  clear hq hw hm
  go_enter Tryz.func67, Tryz.ntmps67
  go_wp2_with fail
  refine wp_scope_forth 0 rfl ?_
  go_wp2_with fail
  refine (length_is _ p g o c bs M q HQ.out h hn HM.out HW.out).mono ?_
  rintro e w1 ⟨rfl, m, rfl⟩
  have h1 := h.drewN m
  go_wp2_with fail
  refine (next_short _ p g o c bs _ h1 (by omega)).mono ?_
  rintro e w1 ⟨rfl, rfl⟩
  go_wp2_with fail
  go_step3
  refine ⟨rfl, ?_⟩
  go_wp2_with fail
  refine (fail_any _ p g bs 0 2 ⟨o, c, h1⟩).mono ?_
  rintro e w1 ⟨rfl, h1, k1⟩
  go_wp2
  rw [Exit.noGoto_ret]
  go_ret
  exact ⟨rfl, h1, ((Only.refl [p] w).drewN m).trans k1⟩

set_option maxHeartbeats 400000 in
theorem list_ok (w : World) (p g o c : Nat) (bs : List UInt8) (M q : Nat) (hq : hd4 bs = q) (h : RdAt w p g o c bs 0) (hn : 4 ≤ bs.length) (hm : q ≤ M) (hw : M ≤ 9223372036854775807) (hs : 4 + 4 * q ≤ bs.length) (hbig : bs.length ≤ 1048576) :
    Calls Tryz.prog 67 #[.pointer (some ⟨p, 0, none⟩), .int .i64 (M : Int)] w (TookL w p g (decNs q (bs.drop 4)) (bs.drop (4 + 4 * q)) 0) := by
  have l1 := hd4_lt bs
  rw [hq] at l1
  have hle := h.le
  have hgp := h.ne
  have HQ := Lib.hid hq
  have HW := Lib.hid hw
  have HM := Lib.hid hm
  clear hq hw hm
  obtain ⟨o', ho', hsl⟩ := slice_tail (P := Tryz.prog) 82 5 Tryz.underlying82 size_u8 g o (4 + 4 * q) c 4 .i64 4 (by omega) (by omega)
  have hpl : ((bs.drop 4).take (4 * q)).length = 4 * q := by simp; omega
  have HP := Lib.hid hpl
  clear hpl
  have hbz : BytesAt w g o' ((bs.drop 4).take (4 * q)) := by
    by_cases hc : 4 < c
    · rw [ho' hc]
      exact (h.bytes.drop 4).take _
    · rw [show q = 0 by omega]
      exact BytesAt.nil _ _ _
  have HB := Lib.hid hbz
  clear hbz ho'
  go_enter Tryz.func67, Tryz.ntmps67
  go_wp2_with fail
  refine wp_scope_forth 0 rfl ?_
  go_wp2_with fail
  refine (length_is _ p g o c bs M q HQ.out h hn HM.out HW.out).mono ?_
  rintro e w1 ⟨rfl, m, rfl⟩
  have h1 := h.drewN m
  go_wp2_with fail
  refine (next_ok _ p g o c bs _ (4 + 4 * q) (by omega) h1 hs).mono ?_
  rintro e w1 ⟨rfl, rfl⟩
  go_wp2_with fail
  refine (consume_any _ p g o c bs 0 _ (4 + 4 * q) c h1 hs).mono ?_
  rintro e w1 ⟨rfl, h2, k2⟩
  have hb2 := (HB.out.drewN m).kept k2 (by simpa using hgp)
  go_wp2_with fail
  refine (xnumbers_any _ g o' (c - 4) q _ hb2 HP.out (by omega) (by omega)).mono ?_
  rintro e w3 ⟨rfl, h3, k3⟩
  have k13 : Only [p] w w3 := (((Only.refl [p] w).drewN m).trans k2).then k3 (by simp)
  have h23 := h2.kept k3 (by simp) (by simp)
  have hsz := (((Only.refl [p] w).drewN m).trans k2).size
  go_wp2
  rw [Forth.ret]
  go_ret
  have hdec : decNs q ((bs.drop 4).take (4 * q)) = decNs q (bs.drop 4) := decNs_take q _
  rw [hdec] at h3
  refine ⟨_, q, by rw [decNs_length]; rfl, .inr ⟨_, rfl, hsz, h3⟩, h23, k13⟩

theorem TookL.of_took {w : World} {p g : Nat} {bs : List UInt8} {err : Nat} {e : Ending} {w' : World} (h : Took w p g (.slice none 0 0) bs err e w') : TookL w p g [] bs err e w' :=
  ⟨none, 0, h.1, .inl rfl, h.2⟩

theorem rlist_any (w : World) (p g : Nat) (bs : List UInt8) (err : Nat) (most : Int) (hm : most ≤ 9223372036854775807) (hbig : bs.length ≤ 1048576) (h : Rd w p g bs err) :
    Calls Tryz.prog 67 #[.pointer (some ⟨p, 0, none⟩), .int .i64 most] w (TookL w p g (rList most bs err).1 (rList most bs err).2.1 (rList most bs err).2.2) := by
  obtain ⟨o, c, h⟩ := h
  unfold rList
  by_cases he : err ≠ 0
  · rw [if_pos he]
    have := list_fail w p g o c bs err most h (.inl he)
    rw [show lackE err = err by unfold lackE; rw [if_neg he]] at this
    exact this.mono fun _ _ => TookL.of_took
  · rw [if_neg he]
    have he0 : err = 0 := by omega
    subst he0
    by_cases hl : bs.length < 4
    · rw [if_pos hl]
      exact (list_fail w p g o c bs 0 most h (.inr (by omega))).mono fun _ _ => TookL.of_took
    · rw [if_neg hl]
      by_cases h1 : most < (hd4 bs : Int)
      · rw [if_pos h1]
        exact (list_more w p g o c bs most h (by omega) h1).mono fun _ _ => TookL.of_took
      · rw [if_neg h1]
        obtain ⟨M, rfl⟩ := Int.eq_ofNat_of_zero_le (show 0 ≤ most by omega)
        by_cases h2 : bs.length < 4 + 4 * hd4 bs
        · rw [if_pos h2]
          exact (list_short w p g o c bs M _ rfl h (by omega) (by omega) (by omega) h2).mono fun _ _ => TookL.of_took
        · rw [if_neg h2]
          exact list_ok w p g o c bs M _ rfl h (by omega) (by omega) (by omega) (by omega) hbig

theorem rlist_nil (w : World) (most : Int) : Calls Tryz.prog 67 #[.pointer none, .int .i64 most] w fun e w' => e = .returned (.slice none 0 0) ∧ w = w' := by
  go_enter Tryz.func67, Tryz.ntmps67
  go_wp2_with fail
  refine wp_scope_forth 0 rfl ?_
  go_wp2_with fail
  refine (length_nil _ most).mono ?_
  rintro e w1 ⟨rfl, rfl⟩
  go_wp2_with fail
  go_step3
  refine ⟨rfl, ?_⟩
  go_wp2_with fail
  refine (fail_nil _ _).mono ?_
  rintro e w1 ⟨rfl, rfl⟩
  go_wp2
  rw [Exit.noGoto_ret]
  go_ret
  exact ⟨rfl, rfl⟩

/-- A new reader: its pointer's block, and that of its bytes, are new. -/
def NewRd (w : World) (bs : List UInt8) (e : Ending) (w' : World) : Prop :=
  ∃ p g, e = .returned (.pointer (some ⟨p, 0, none⟩)) ∧ Rd w' p g bs 0 ∧ w.heap.size ≤ p ∧ w.heap.size ≤ g ∧ Only [] w w'

def NewRd2 (w : World) (bs : List UInt8) (e : Ending) (w' : World) : Prop :=
  ∃ p g, e = .returned (.pointer (some ⟨p, 0, none⟩)) ∧ Rd w' p g bs 0 ∧ w.heap.size ≤ p ∧ w.heap.size ≤ g ∧ Only [] w w' ∧ g < w'.heap.size

theorem newReader_two (w : World) (s : ByteArray) (hs : s.size ≤ 140737488351232) :
    Calls Tryz.prog 21 #[.string s] w (NewRd2 w s.data.toList) := by
  have hl : s.data.toList.length = s.size := by simp
  have HL := Lib.hid hl
  clear hl
  go_enter Tryz.func21, Tryz.ntmps21
  go_wp2_with (refine wpList_to_bytes _ rfl 9 82 5 (.tmp 3) rfl Tryz.underlying9 Tryz.underlying82 Tryz.underlying5 s rfl (by unfold maxLen; omega) ?_; intro w2 c k2 hc1 hc2 hb2 hlt2)
  go_ret
  have hlen := HL.out
  have hnew := Blk.new w2 97 #[.slice (some ⟨w.heap.size, 0, none⟩) s.size c, .int .i64 0]
  refine ⟨w2.heap.size, w.heap.size, rfl, ⟨0, c, ⟨by rw [hlen]; exact hnew, by omega, by rw [hlen]; exact hc1, hc2, hb2.kept ((Only.refl [] w2).alloc _) (by simp)⟩⟩, k2.size, Nat.le_refl _, k2.alloc _, by simp; omega⟩

theorem newReader_any (w : World) (s : ByteArray) (hs : s.size ≤ 140737488351232) :
    Calls Tryz.prog 21 #[.string s] w (NewRd w s.data.toList) :=
  (newReader_two w s hs).mono fun _ _ ⟨p, g, h1, h2, h3, h4, h5, _⟩ => ⟨p, g, h1, h2, h3, h4, h5⟩

end Go.Proofs.YtalkhhjfplahkaaGreat
