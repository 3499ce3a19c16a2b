/- The document's Under. -/
import Derived.Test.YthpjkhmkjhgbkaaGreatDoorRight5
namespace Go.Proofs.YthpjkhmkjhgbkaaGreatDoor
open Go.RowKit Go.Maps

theorem preK_iff (p k : List UInt8) : preK p k = true ↔ p.length ≤ k.length ∧ k.take p.length = p := by
  unfold preK Lib.hasPrefix
  rw [List.isPrefixOf_iff_prefix, List.prefix_iff_eq_take]
  constructor
  · intro h
    refine ⟨?_, h.symm⟩
    have := congrArg List.length h
    rw [List.length_take] at this
    omega
  · exact fun h => h.2.symm
theorem filter_take (p : Rw → Bool) (l : List Rw) (k : Nat) (h : k < l.length) : (l.take (k + 1)).filter p = if p l[k] then (l.take k).filter p ++ [l[k]] else (l.take k).filter p := by
  rw [List.take_add_one, List.getElem?_eq_getElem h, List.filter_append]
  simp only [Option.toList_some, List.filter_cons, List.filter_nil]
  split <;> simp

set_option maxRecDepth 100000 in
set_option maxHeartbeats 2000000 in
theorem runder_any (w : World) (A : Option Addr) (c : Nat) (l : List Rw) (p : List UInt8) (hb : Els rwE 3 w A l) (hl : l.length ≤ 1000000) :
    Calls Tryz.prog 34 #[.slice A l.length c, .string (strOf p)] w fun e w' => ∃ v, e = .returned v ∧ NewEls rwE 3 w w' v (l.filter fun r => preK p r.key) := by
  have hlI : (l.length : Int) ≤ 1000000 := by omega
  have hps : (strOf p).size = p.length := strOf_size _
  have hbe := fun x : List UInt8 => beq_toList x p
  generalize strOf p = ps at *
  replace hbe := Lib.hid hbe
  go_enter Tryz.func34, Tryz.ntmps34
  go_wp2_with fail
  go_loopw [5, 6] (fun v i wr => ∃ n : Nat, n ≤ l.length ∧ i = .int .i64 n ∧ Mine rwE 3 81 w wr v ((l.take n).filter fun r => preK p r.key)) (fun _ i _ => l.length - (intOf i).toNat)
  case atStart => exact ⟨0, Nat.zero_le _, rfl, Mine.start _ _ _ (Only.refl _ _)⟩
  case round =>
    obtain ⟨n, hn, rfl, hmine⟩ := hrel
    by_cases hlt : n < l.length
    · obtain ⟨g, o, rfl, hg, hat⟩ := hb.get hlt
      obtain ⟨c0, c1, c2⟩ := rws_at (hat.kept hmine.only (by simp)) hlt
      have hst := filter_take (fun r => preK p r.key) l n hlt
      have hLl : ((l.take n).filter fun r => preK p r.key).length ≤ n := Nat.le_trans (List.length_filter_le _ _) (by simp; omega)
      generalize hL : (l.take n).filter (fun r => preK p r.key) = L at *
      generalize hL2 : (l.take (n + 1)).filter (fun r => preK p r.key) = L2 at *
      generalize l[n] = x at *
      have hpk := preK_iff p x.key
      have hks : (strOf x.key).size = x.key.length := strOf_size _
      have henc : rwE x = [.string (strOf x.key), .string (strOf x.val), .int .i64 (x.at_ : Int)] := rfl
      replace hL := Lib.hid hL
      replace hL2 := Lib.hid hL2
      by_cases h1 : p.length ≤ x.key.length
      · have hcut := upto_strOf (P := Tryz.prog) 9 Tryz.underlying9 x.key p.length (ps.size : Int) .i64 (by omega) h1
        have hbx := hbe.out (x.key.take p.length)
        have hge : (ps.size : Int) ≤ ((strOf x.key).size : Int) := by omega
        generalize strOf (x.key.take p.length) = cs at *
        by_cases h2 : x.key.take p.length = p
        · have hb1 : (cs.toList == ps.toList) = true := by rw [hbx]; simpa using h2
          have hpre : preK p x.key = true := hpk.2 ⟨h1, h2⟩
          rw [if_pos hpre] at hst
          generalize strOf x.key = ks at *
          generalize strOf x.val = vs at *
          have b6 : Blk (wr.alloc (.cells #[.string ks, .string vs, .int .i64 (x.at_ : Int)] 81)) wr.heap.size 81 (rwE x).toArray := by
            rw [henc]
            exact Blk.new _ _ _
          have hm6 := hmine.keep ((Only.refl [] wr).alloc (.cells #[.string ks, .string vs, .int .i64 (x.at_ : Int)] 81))
          replace hst := Lib.hid hst
          replace hpk := Lib.hid hpk
          replace hks := Lib.hid hks
          replace hps := Lib.hid hps
          replace henc := Lib.hid henc
          replace hbx := Lib.hid hbx
          replace h2 := Lib.hid h2
          replace hpre := Lib.hid hpre
          clear hat hmine
          go_wp2_with (at_builtin; go_must (refine wpList_push rfl _ _ 32 rfl 81 _ 40 rwE_length (by decide) rwE_one Tryz.underlying32 info_rw rfl _ L.length L rfl hm6.own wr.heap.size x _ rfl b6 (by unfold maxLen; omega) (by omega) ?_); intro vv' w8 h8 g8 a8)
          have hm8 := hm6.pushed h8 g8 a8
          rw [← hst.out] at hm8
          clear h8 g8 a8 hm6 b6
          go_wp2
          go_roundw
          case rel => exact ⟨n + 1, by omega, by go_num, by rw [hL2.out]; exact hm8⟩
          case measure => simp [intOf]; omega
        · have hb1 : (cs.toList == ps.toList) = false := by rw [hbx]; simpa using h2
          have hpre : ¬ preK p x.key = true := fun h => h2 (hpk.1 h).2
          rw [if_neg hpre] at hst
          rw [← hst] at hmine
          generalize strOf x.key = ks at *
          generalize strOf x.val = vs at *
          replace hst := Lib.hid hst
          replace hpk := Lib.hid hpk
          replace hks := Lib.hid hks
          replace hps := Lib.hid hps
          replace henc := Lib.hid henc
          replace hbx := Lib.hid hbx
          replace h2 := Lib.hid h2
          replace hpre := Lib.hid hpre
          clear hat
          go_wp2
          go_roundw
          case rel => exact ⟨n + 1, by omega, by go_num, by rw [hL2.out]; exact hmine⟩
          case measure => simp [intOf]; omega
      · have hlt2 : ¬ (ps.size : Int) ≤ ((strOf x.key).size : Int) := by omega
        have hpre : ¬ preK p x.key = true := fun h => h1 (hpk.1 h).1
        rw [if_neg hpre] at hst
        rw [← hst] at hmine
        generalize strOf x.key = ks at *
        generalize strOf x.val = vs at *
        replace hst := Lib.hid hst
        replace hpk := Lib.hid hpk
        replace hks := Lib.hid hks
        replace hps := Lib.hid hps
        replace henc := Lib.hid henc
        replace hpre := Lib.hid hpre
        clear hat
        go_wp2
        go_roundw
        case rel => exact ⟨n + 1, by omega, by go_num, by rw [hL2.out]; exact hmine⟩
        case measure => simp [intOf]; omega
    · have hge : (l.length : Int) ≤ n := by omega
      have hln : l.take n = l := List.take_of_length_le (by omega)
      rw [hln] at hmine
      have hfin := hmine.els rwE_length
      replace hfin := Lib.hid hfin
      replace hps := Lib.hid hps
      clear hmine hln
      go_wp2
      go_ret
      exact ⟨_, rfl, hfin.out⟩
end Go.Proofs.YthpjkhmkjhgbkaaGreatDoor
