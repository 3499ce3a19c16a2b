/- List, by the program. -/
import Derived.Test.YteiekfccfddmjaaDoorList10
namespace Go.Proofs.YteiekfccfddmjaaDoor
open Go.RowKit Go.Sort

theorem encs_str : ∀ l : List (List UInt8), encs strE l = l.map encStr
  | [] => rfl
  | s :: r => by
    have := encs_str r
    simp only [encs, List.map_cons] at this ⊢
    rw [List.flatten_cons, this]
    rfl
/-- A row of names of the call's own, sorted. -/
theorem sort_any (w wr : World) (v : Value) (E : List (List UInt8)) (hm : Mine strE 1 9 w wr v E) (hl : E.length ≤ 1000) :
    Calls Tryd.prog 47 #[v] wr fun e w' => e = .returned (.tuple #[]) ∧ Mine strE 1 9 w w' v (E.mergeSort fun x y => decide (x ≤ y)) := by
  rcases id hm.own.2 with ⟨rfl, h0⟩ | ⟨g, cap, cur, rfl, hbase, hb, h1, h2, h3, h4⟩
  · have hE : E = [] := List.length_eq_zero_iff.1 h0
    subst hE
    refine (Tryd.slices_Sort_string_none none 0 wr).mono ?_; rintro e w' ⟨rfl, rfl⟩
    exact ⟨rfl, by simpa using hm⟩
  · have h4' : cur.toList.take E.length = E.map encStr := by rw [← encs_str]; simpa using h4
    refine (Tryd.slices_Sort_string g 0 cap E wr (holds_of_block hb h4') (Array.getElem?_eq_some_iff.1 hb).1 (by omega)).mono ?_
    rintro e w' ⟨rfl, n, os, rfl⟩
    have hl2 : (E.mergeSort fun x y => decide (x ≤ y)).length = E.length := List.length_mergeSort E
    have hrow := ownsRow_sorted (ts := E.mergeSort fun x y => decide (x ≤ y)) (n := n) (os := os) hl2 hbase hb h1 h2 h3
    refine ⟨rfl, ?_, hm.new, hm.only.grown (grownBy_sorted _) (fun j hj => .inr (hm.new j (by rw [← hj]; rfl)))⟩
    rw [encs_str, hl2]
    exact hrow

set_option maxRecDepth 100000 in
set_option maxHeartbeats 8000000 in
theorem list_any (w : World) (A : Option Addr) (c : Nat) (l : List Nd) (p : List UInt8) (hb : Els ndE 5 w A l) (hc : l.length ≤ c) (hl : l.length ≤ 1000) (hp : p.length ≤ 1048576) :
    Calls Tryd.prog 21 #[.slice A l.length c, .string (strOf p)] w fun e w' => NmsAns w w' e (listL l p) (.int .i64 (listE l p)) := by
  have hlI : (l.length : Int) ≤ 1000 := by omega
  have hF := find_any w A c l p hb hc (by omega) hp
  unfold listL listE
  generalize findR l p = F at *
  obtain ⟨⟨y0, y1, y2, y3, y4⟩, er⟩ := F
  have hyv : ndV ⟨y0, y1, y2, y3, y4⟩ = .agg #[.int .u32 y0, .int .u32 y1, .string (strOf y2), .bool y3, .int .u32 y4] := rfl
  simp only at hF ⊢
  rw [hyv] at hF
  replace hF := Lib.hid hF
  by_cases he : er = 0
  rotate_left
  · rw [if_pos he, if_pos he]
    have heb : (er != 0) = true := by simpa using he
    go_enter Tryd.func21, Tryd.ntmps21
    go_wp2_with fail
    refine hF.out.mono ?_; rintro e w1 ⟨rfl, k1⟩
    go_wp2
    go_ret2
    exact NmsAns.no (k1.alloc _)
  subst he
  rw [if_neg (show ¬ ((0 : Int) ≠ 0) by decide), if_neg (show ¬ ((0 : Int) ≠ 0) by decide)]
  cases y3 with
  | false =>
    rw [if_pos rfl, if_pos rfl]
    go_enter Tryd.func21, Tryd.ntmps21
    go_wp2_with fail
    refine hF.out.mono ?_; rintro e w1 ⟨rfl, k1⟩
    go_wp2
    go_ret2
    exact NmsAns.no (k1.alloc _)
  | true =>
  rw [if_neg (by decide), if_neg (by decide)]
  have hln : Hid (namesIn (l.take l.length) y0 = namesIn l y0) := by rw [List.take_length]; exact rfl
  have hb' : Hid (Els ndE 5 w A l) := hb
  clear hb
  go_enter Tryd.func21, Tryd.ntmps21
  go_wp2_with fail
  refine hF.out.mono ?_; rintro e w1 ⟨rfl, k1⟩
  have hk2 := k1.alloc (.cells #[.int .u32 y0, .int .u32 y1, .string (strOf y2), .bool true, .int .u32 y4] 28)
  have b2 := Bx.new w1 ⟨y0, y1, y2, true, y4⟩
  simp only at b2
  go_wp2_with fail
  generalize (w1.alloc (.cells #[.int .u32 y0, .int .u32 y1, .string (strOf y2), .bool true, .int .u32 y4] 28)) = w2 at *
  generalize w1.heap.size = q1 at *
  go_loopw [8, 25] (fun v a wr => ∃ i : Nat, i ≤ l.length ∧ a = .int .i64 i ∧ Mine strE 1 9 w2 wr v (namesIn (l.take i) y0)) (fun _ a _ => l.length - (intOf a).toNat)
  case atStart => exact ⟨0, by omega, rfl, Mine.start _ _ _ (Only.refl [] w2)⟩
  case round =>
    obtain ⟨i, hil, rfl, hm⟩ := hrel
    by_cases hi : i < l.length
    · have hiI : (i : Int) < (l.length : Int) := by omega
      have hix : l[i]? = some l[i] := List.getElem?_eq_getElem hi
      have hnx := namesIn_take (d := y0) hix
      have hlen2 := namesIn_len (l.take i) y0
      have hlen3 : (l.take i).length ≤ 1000 := by rw [List.length_take]; omega
      obtain ⟨g', o', rfl, _, hat'⟩ := hb'.out.get hi
      obtain ⟨d0, d1, d2, d3, d4⟩ := nds_at (hat'.kept (hk2.trans hm.only) (by simp)) hi
      obtain ⟨t0, t1, t2, t3, t4⟩ := (b2.kept hm.only (by simp)).cells
      try simp only at t0 t1 t2 t3 t4
      generalize l[i] = x at *
      obtain ⟨x0, x1, x2, x3, x4⟩ := x
      simp only at d0 d1 d2 d3 d4 hnx
      generalize hE : namesIn (l.take i) y0 = E at *
      have hlE : E.length ≤ 1000 := by omega
      have hq : q1 < wr.heap.size := Nat.lt_of_lt_of_le b2.lt hm.only.size
      have hqn : ¬ q1 = wr.heap.size := by omega
      clear hlen2 hlen3 hat' t1 t2 t3 t4
      replace hix := Lib.hid hix
      replace hE := Lib.hid hE
      have hm1 := hm.keep ((Only.refl [] wr).alloc (.cells #[.int .u32 x0, .int .u32 x1, .string (strOf x2), .bool x3, .int .u32 x4] 28))
      by_cases hxp : x1 = y0
      · rw [if_pos hxp] at hnx
        have hxb : (x1 == y0) = true := by simpa using hxp
        have hm5 := hm1.keep ((Only.refl [] _).alloc (.cells #[.string (strOf x2)] 9))
        have B5 : Blk ((wr.alloc (.cells #[.int .u32 x0, .int .u32 x1, .string (strOf x2), .bool x3, .int .u32 x4] 28)).alloc (.cells #[.string (strOf x2)] 9)) (wr.alloc (.cells #[.int .u32 x0, .int .u32 x1, .string (strOf x2), .bool x3, .int .u32 x4] 28)).heap.size 9 (strE x2).toArray := Blk.new _ _ _
        have h9 : (wr.alloc (.cells #[.int .u32 x0, .int .u32 x1, .string (strOf x2), .bool x3, .int .u32 x4] 28)).heap.size = wr.heap.size + 1 := by simp
        rw [h9] at B5
        clear h9
        replace hm := Lib.hid hm
        replace hm1 := Lib.hid hm1
        replace hm5 := Lib.hid hm5
        replace hnx := Lib.hid hnx
        replace hxp := Lib.hid hxp
        replace B5 := Lib.hid B5
        go_wp2_with (at_builtin; go_must (refine wpList_push rfl _ _ 33 rfl 9 _ 16 strE_length (by decide) strE_one Tryd.underlying33 info_str rfl _ E.length E rfl hm5.out.own _ x2 _ rfl B5.out (by unfold maxLen; omega) (by omega) ?_); intro vv w6 h6 g6 a6)
        have hm6 := Mine.pushed hm5.out h6 g6 a6
        go_wp2_with fail
        go_roundw
        case rel => exact ⟨i + 1, by omega, by go_num, by rw [hnx.out]; exact hm6⟩
        case measure => simp [intOf]; omega
      · rw [if_neg hxp, List.append_nil] at hnx
        have hxb : (x1 == y0) = false := by rw [beq_eq_false_iff_ne]; exact hxp
        replace hm := Lib.hid hm
        replace hm1 := Lib.hid hm1
        replace hnx := Lib.hid hnx
        replace hxp := Lib.hid hxp
        go_wp2_with fail
        go_roundw
        case rel => exact ⟨i + 1, by omega, by go_num, by rw [hnx.out]; exact hm1.out⟩
        case measure => simp [intOf]; omega
    · obtain rfl : i = l.length := by omega
      rw [hln.out] at hm
      have hlen2 := namesIn_len l y0
      have hS := sort_any w2 wr _ _ hm (by omega)
      clear hlen2 hm
      replace hS := Lib.hid hS
      replace b2 := Lib.hid b2
      go_wp2_with fail
      refine hS.out.mono ?_; rintro e w7 ⟨rfl, m7⟩
      have m8 := Mine.from hk2 m7
      have hans := m8.nms (.int .i64 0)
      replace hans := Lib.hid hans
      clear m7 m8
      go_wp2
      go_ret2
      exact hans.out
end Go.Proofs.YteiekfccfddmjaaDoor
