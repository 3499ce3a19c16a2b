/- The walk of XdrCut, the program's side. -/
import Derived.Test.YtfnpbekfgofhfaaCut
namespace Go.Proofs.Ytfnpbekfgofhfaa
open Go.RowKit

theorem cut_place (x : Int) (n : Nat) (hn : 0 < n) : ∃ m : Nat, (IntKind.u64.wrap x).tmod (n : Int) = (m : Int) ∧ m < n := by
  rw [IntKind.wrap_u64]
  have h0 : 0 ≤ x % 18446744073709551616 := by omega
  rw [Int.tmod_eq_emod_of_nonneg h0]
  have h1 := Int.emod_nonneg (x % 18446744073709551616) (show (n : Int) ≠ 0 by omega)
  have h2 := Int.emod_lt_of_pos (x % 18446744073709551616) (show (0 : Int) < n by omega)
  exact ⟨(x % 18446744073709551616 % n).toNat, by omega, by omega⟩

theorem strOf_cut (l : List UInt8) (m : Nat) : (strOf l).extract 0 m = strOf (l.take m) := by
  show (ByteArray.mk l.toArray).extract 0 m = _
  rw [ByteArray.extract_mk]
  rfl

theorem CutAt.start (its : List It) (m : Nat) (h : m < (allB its).length) : CutAt its 0 ((allB its).take m) 0 := by
  refine .inr ⟨rfl, (allB its).drop m, ?_, by simp⟩
  intro e
  have := congrArg List.length e
  simp at this
  omega

/-- What the reading loop keeps: the reader's state. -/
def CutRd (w : World) (its : List It) (k p g : Nat) (wr : World) : Prop := ∃ bs err, Rd wr p g bs err ∧ CutAt its k bs err ∧ bs.length ≤ 1048576 ∧ Only [] w wr

set_option maxHeartbeats 2000000 in
theorem xdrCut_walk (w : World) (A : Option Addr) (c : Nat) (its : List It) (at_ : Int) (h : Its w w.heap.size A its) (hlen : its.length ≤ 9223372036854775807) :
    Calls Try.prog 8 #[.slice A its.length c, .int .i64 at_] w fun e w' => e = .returned (.bool true) ∧ Only [] w w' := by
  by_cases hg : greatB its = true
  · go_enter Try.func8, Try.ntmps8
    go_wp2_with fail
    refine (alive_any _).mono ?_
    rintro e w1 ⟨rfl, k1⟩
    have h1 := h.kept k1 (by simp)
    go_wp2_with fail
    refine (great_any _ _ A c its h1 hlen).mono ?_
    rintro e w2 ⟨rfl, rfl⟩
    rw [hg]
    go_wp2_with fail
    refine (alive_any _).mono ?_
    rintro e w2 ⟨rfl, k2⟩
    go_wp2
    go_ret
    exact ⟨rfl, k1.trans k2⟩
  · have hg' : greatB its = false := by simpa using hg
    have hfit := Lib.hid (fits_of h hg')
    have h60 := (great_no hg').1
    have HG := Lib.hid hg'
    have HA := Lib.hid (fun k hk => allB_take_length its hfit.out k hk)
    clear hg hg'
    go_enter Try.func8, Try.ntmps8
    go_wp2_with fail
    refine (alive_any _).mono ?_
    rintro e w1 ⟨rfl, k1⟩
    have h1 := h.kept k1 (by simp)
    go_wp2_with fail
    refine (great_any _ _ A c its h1 hlen).mono ?_
    rintro e w2 ⟨rfl, rfl⟩
    rw [HG.out]
    have hw1 := k1.size
    have hnew := Wr.new w1
    have g1 : Only [] w (w1.alloc (.cells #[.slice none 0 0] 27)) := k1.alloc _
    clear h1 k1
    go_wp2_with fail
    obtain ⟨W, hW⟩ : ∃ W, W = w1.alloc (.cells #[.slice none 0 0] 27) := ⟨_, rfl⟩
    rw [← hW] at hnew g1 ⊢
    clear hW
    go_loopw [6] (fun i wr => ∃ k : Nat, k ≤ its.length ∧ i = .int .i64 k ∧ Wrote W wr w1.heap.size [] (allB (its.take k))) (fun i _ => its.length - (intOf i).toNat)
    case atStart => exact ⟨0, Nat.zero_le _, rfl, ⟨[], by simpa [allB] using hnew, Only.refl _ _, by simp⟩⟩
    case round =>
      clear hnew
      obtain ⟨k, hk, rfl, hwr⟩ := hrel
      by_cases hlt : k < its.length
      · obtain ⟨F1, a1, a2, a3, a4⟩ := hwr.parts
        have gr : Only [] w wr := g1.then a2 (fun i hi => .inr (by simp at hi; omega))
        have hr := h.kept gr (by simp)
        have hF : ∀ i ∈ w1.heap.size :: F1, w.heap.size ≤ i := fun i hi => by
          rcases List.mem_cons.1 hi with rfl | hi
          · exact hw1
          · rcases a3.out i hi with h0 | h0
            · simp at h0
            · exact Nat.le_trans g1.size h0
        have hnum := nums_of hr (w1.heap.size :: F1) hF _ (List.getElem_mem hlt)
        obtain ⟨g, o, rfl, hgB, hits⟩ : ∃ g o, A = some ⟨g, o, none⟩ ∧ g < w.heap.size ∧ ItemsAt wr g o its := by
          rcases hr.at_ with h0 | h0
          · rw [h0] at hlt; simp at hlt
          · exact h0
        obtain ⟨c0, c1, c2, c3⟩ := hits k hlt
        have hb := (HA.out k hk).1
        have H1 := Lib.hid (allB_take its k hlt)
        have hfx := hfit.out _ (List.getElem_mem hlt)
        clear hits hF hr h hwr
        go_wp2_with fail
        refine (write_any _ _ F1 _ its[k] hfx a1 hnum (by omega)).mono ?_
        rintro e w2 ⟨rfl, hw2⟩
        have hW2 := Wrote.join a2 a3.out hw2
        rw [H1.out.symm] at hW2
        clear hw2 c0 c1 c2 c3 hnum a1 a2 a3 a4
        go_wp2
        go_roundw
        case rel => exact ⟨k + 1, by omega, by go_num, hW2⟩
        case measure => simp [intOf]; omega
      · obtain rfl : k = its.length := by omega
        obtain ⟨F1, a1, a2, a3, a4⟩ := hwr.parts
        have gr : Only [] w wr := g1.then a2 (fun i hi => .inr (by simp at hi; omega))
        have hb := (HA.out its.length (Nat.le_refl _)).1
        rw [List.take_length] at a1 hb
        clear hwr a2 a3 a4 HA HG hk
        go_wp2_with fail
        refine (bytes_any _ _ F1 _ a1).mono ?_
        rintro e w6 ⟨rfl, rfl⟩
        have hsz : (strOf (allB its)).size = (allB its).length := strOf_size _
        by_cases hz : (allB its).length = 0
        · have hz' : (((allB its).length : Int) == 0) = true := by simp [hz]
          go_wp2_with fail
          refine (alive_any _).mono ?_
          rintro e w7 ⟨rfl, k7⟩
          go_wp2
          go_ret
          exact ⟨rfl, gr.trans k7⟩
        · have hz' : (((allB its).length : Int) == 0) = false := by rw [beq_eq_false_iff_ne]; omega
          have hz2 : (0 : Int) < ((allB its).length : Int) := by omega
          obtain ⟨m, hm, hmn⟩ := cut_place at_ (allB its).length (by omega)
          have hex := strOf_cut (allB its) m
          have hst := Lib.hid (CutAt.start its m hmn)
          go_wp2_with fail
          refine (newReader_any _ _ ?_).mono ?_
          · rw [strOf_size]; simp; omega
          rintro e w7 ⟨p, g, rfl, hr7, hp, hg, k7⟩
          rw [strOf_list] at hr7
          have g7 := gr.trans k7
          have hpw : w.heap.size ≤ p := Nat.le_trans gr.size hp
          have hrd : CutRd w its 0 p g w7 := ⟨_, _, hr7, hst.out, by simp; omega, g7⟩
          clear hm hmn hex hst hr7 k7 hp hg a1 gr hsz hz' hz2 hz
          go_wp2_with fail
          go_loopw [9] (fun i wr => ∃ k : Nat, k ≤ its.length ∧ i = .int .i64 k ∧ CutRd w its k p g wr) (fun i _ => its.length - (intOf i).toNat)
          case atStart => exact ⟨0, Nat.zero_le _, rfl, hrd⟩
          case round =>
            clear hrd
            obtain ⟨k, hk, rfl, bs, err, hrd, hcut, hbl, gk⟩ := hrel
            by_cases hlt : k < its.length
            · have hr := h.kept gk (by simp)
              obtain ⟨ga, oa, rfl, hgB, hits⟩ : ∃ g o, A = some ⟨g, o, none⟩ ∧ g < w.heap.size ∧ ItemsAt wr g o its := by
                rcases hr.at_ with h0 | h0
                · rw [h0] at hlt; simp at hlt
                · exact h0
              obtain ⟨c0, _, _, _⟩ := hits k hlt
              have hfx := Lib.hid (hfit.out _ (List.getElem_mem hlt))
              have HC := Lib.hid hcut
              clear hits hr h hcut
              by_cases e_ : its[k].kind.tmod 5 = 0
              · have E := Lib.hid e_
                go_wp2_with fail
                refine (rnum_any _ p g bs err hrd).mono ?_
                rintro e w8 ⟨rfl, h8, k8⟩
                clear e_
                go_wp2
                go_roundw
                case rel => exact ⟨k + 1, by omega, by go_num, _, _, h8, cut_number hlt HC.out E.out, Nat.le_trans (rNumber_len bs err) hbl, gk.then k8 (by simpa using hpw)⟩
                case measure => simp [intOf]; omega
              · have f0 : (its[k].kind.tmod 5 == 0) = false := by simpa using e_
                have E0 := Lib.hid e_
                clear e_
                by_cases e_ : its[k].kind.tmod 5 = 1
                · clear f0
                  have E := Lib.hid e_
                  go_wp2_with fail
                  refine (rlong_any _ p g bs err hrd).mono ?_
                  rintro e w8 ⟨rfl, h8, k8⟩
                  clear e_
                  go_wp2
                  go_roundw
                  case rel => exact ⟨k + 1, by omega, by go_num, _, _, h8, cut_long hlt HC.out hfx.out.n E.out, Nat.le_trans (rLong_len bs err) hbl, gk.then k8 (by simpa using hpw)⟩
                  case measure => simp [intOf]; omega
                · have f1 : (its[k].kind.tmod 5 == 1) = false := by simpa using e_
                  have E1 := Lib.hid e_
                  clear e_
                  by_cases e_ : its[k].kind.tmod 5 = 2
                  · clear f0 f1
                    have E := Lib.hid e_
                    go_wp2_with fail
                    refine (rflag_any _ p g bs err hrd).mono ?_
                    rintro e w8 ⟨rfl, h8, k8⟩
                    clear e_
                    go_wp2
                    go_roundw
                    case rel => exact ⟨k + 1, by omega, by go_num, _, _, h8, cut_flag hlt HC.out E.out, Nat.le_trans (rFlag_len bs err) hbl, gk.then k8 (by simpa using hpw)⟩
                    case measure => simp [intOf]; omega
                  · have f2 : (its[k].kind.tmod 5 == 2) = false := by simpa using e_
                    have E2 := Lib.hid e_
                    clear e_
                    by_cases e_ : its[k].kind.tmod 5 = 3
                    · clear f0 f1 f2
                      have E := Lib.hid e_
                      go_wp2_with fail
                      refine (rtext_any _ p g bs err 2000 (by decide) hrd).mono ?_
                      rintro e w8 ⟨rfl, h8, k8⟩
                      clear e_
                      go_wp2
                      go_roundw
                      case rel => exact ⟨k + 1, by omega, by go_num, _, _, h8, cut_text hlt HC.out hfx.out.s E.out, Nat.le_trans (rText_len 2000 bs err) hbl, gk.then k8 (by simpa using hpw)⟩
                      case measure => simp [intOf]; omega
                    · have f3 : (its[k].kind.tmod 5 == 3) = false := by simpa using e_
                      have E3 := Lib.hid e_
                      clear e_
                      by_cases e_ : its[k].kind.tmod 5 = 4
                      · clear f0 f1 f2 f3
                        have E := Lib.hid e_
                        go_wp2_with fail
                        refine (rlist_any _ p g bs err 500 (by decide) hbl hrd).mono ?_
                        rintro e w8 ⟨A8, c8, rfl, l8, h8, k8⟩
                        clear e_ l8
                        go_wp2
                        go_roundw
                        case rel => exact ⟨k + 1, by omega, by go_num, _, _, h8, cut_list hlt HC.out hfx.out.l hfx.out.u E.out, Nat.le_trans (rList_len 500 bs err) hbl, gk.then k8 (by simpa using hpw)⟩
                        case measure => simp [intOf]; omega
                      · have f4 : (its[k].kind.tmod 5 == 4) = false := by simpa using e_
                        have E4 := Lib.hid e_
                        clear e_
                        go_wp2
                        go_roundw
                        case rel => exact ⟨k + 1, by omega, by go_num, _, _, hrd, HC.out.skip hlt (bytes_5 _ E0.out E1.out E2.out E3.out E4.out), hbl, gk⟩
                        case measure => simp [intOf]; omega
            · obtain rfl : k = its.length := by omega
              have herr := hcut.done
              subst herr
              clear hcut
              go_wp2_with fail
              refine (alive_any _).mono ?_
              rintro e w8 ⟨rfl, k8⟩
              have h8 := hrd.kept k8 (by simp) (by simp)
              obtain ⟨o9, c9, h9⟩ := h8
              have g9 := gk.trans k8
              clear hrd k8 gk
              go_wp2_with fail
              refine (err_any _ p g o9 c9 bs 2 h9).mono ?_
              rintro e w9 ⟨rfl, rfl⟩
              go_wp2_with fail
              refine (rend_any _ p g bs 2 ⟨o9, c9, h9⟩).mono ?_
              rintro e w9 ⟨rfl, _, k9⟩
              have e9 : rEnd bs 2 = 2 := by unfold rEnd; rw [if_pos (by decide)]
              rw [e9]
              clear e9
              go_wp2
              go_ret
              exact ⟨rfl, g9.then k9 (by simpa using hpw)⟩

end Go.Proofs.Ytfnpbekfgofhfaa
