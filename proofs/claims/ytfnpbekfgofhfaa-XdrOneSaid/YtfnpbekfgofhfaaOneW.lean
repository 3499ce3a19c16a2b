/- The walk of XdrOne: what was read to its end, written anew, is the same bytes. -/
import Derived.Test.YtfnpbekfgofhfaaCut
import Derived.Test.YtfnpbekfgofhfaaAsk
namespace Go.Proofs.Ytfnpbekfgofhfaa
open Go.RowKit

/-- What the loop keeps: the writer has written what the reader has read. -/
def OneAt (w : World) (s : List UInt8) (p g q : Nat) (wr : World) : Prop :=
  ∃ F bs done, Wr wr q F done ∧ Rd wr p g bs 0 ∧ done ++ bs = s ∧ p ≠ q ∧ g ≠ q ∧ p ∉ F ∧ g ∉ F ∧ (∀ i ∈ q :: F, w.heap.size ≤ i) ∧ (∀ i ∈ F, i < wr.heap.size) ∧ Only [] w wr

theorem OneAt.next {w w2 w3 : World} {s bs bs' done B : List UInt8} {p g q : Nat} {F : List Nat} (hd : done ++ bs = s) (hB : B ++ bs' = bs) (hpq : p ≠ q) (hgq : g ≠ q) (hpF : p ∉ F) (hgF : g ∉ F) (hF : ∀ i ∈ q :: F, w.heap.size ≤ i)
    (hp2 : p < w2.heap.size) (hg2 : g < w2.heap.size) (k2 : Only [] w w2) (hr : Rd w2 p g bs' 0) (hw : Wrote w2 w3 q F (done ++ B)) : OneAt w s p g q w3 := by
  obtain ⟨F', a1, a2, a3, a4⟩ := hw.parts
  have n1 : ∀ x, x ≠ q → x ∉ F → x < w2.heap.size → x ∉ F' := fun x _ hxF hx hm => by
    rcases a3.out x hm with h | h
    · exact hxF h
    · omega
  have n2 : ∀ x, x ≠ q → x ∉ F → x ∉ q :: F := fun x hx hxF hm => by
    rcases List.mem_cons.1 hm with h | h
    · exact hx h
    · exact hxF h
  refine ⟨F', bs', _, a1, hr.kept a2 (n2 p hpq hpF) (n2 g hgq hgF), by rw [List.append_assoc, hB]; exact hd, hpq, hgq, n1 p hpq hpF hp2, n1 g hgq hgF hg2, ?_, a4.out, k2.then a2 (fun i hi => .inr (hF i hi))⟩
  intro i hi
  rcases List.mem_cons.1 hi with rfl | hi
  · exact hF _ (by simp)
  · rcases a3.out i hi with h | h
    · exact hF i (by simp [h])
    · exact Nat.le_trans k2.size h

theorem Rd.plt {w : World} {p g : Nat} {bs : List UInt8} {err : Nat} (h : Rd w p g bs err) : p < w.heap.size := by
  obtain ⟨o, c, h⟩ := h
  exact h.blk.lt

theorem fits_mk (kind : Int) (n : Nat) (s : ByteArray) (A : Option Addr) (c : Nat) (l : List Nat) (h1 : n < 18446744073709551616) (h2 : s.size ≤ 2000) (h3 : l.length ≤ 500) (h4 : ∀ n ∈ l, n < 4294967296) : It.Fits ⟨kind, n, s, A, c, l⟩ := ⟨h1, h2, h3, h4⟩

set_option maxHeartbeats 2000000 in
theorem xdrOne_walk (w : World) (s : ByteArray) (A : Option Addr) (c : Nat) (l : List (Int × Int)) (h : Asks w w.heap.size A l) (hs : s.size ≤ 140737488351232) (hlen : l.length ≤ 9223372036854775807) :
    Calls Try.prog 6 #[.string s, .slice A l.length c] w fun e w' => e = .returned (.bool true) ∧ Only [] w w' := by
  by_cases hg : 2000 < s.size ∨ 60 < l.length
  · rcases Nat.lt_or_ge 2000 s.size with h2 | h2
    · have h2' : (2000 : Int) < (s.size : Int) := by omega
      clear hg h2
      go_enter Try.func6, Try.ntmps6
      go_wp2_with fail
      refine (alive_any _).mono ?_
      rintro e w1 ⟨rfl, k1⟩
      go_wp2_with fail
      refine (alive_any _).mono ?_
      rintro e w2 ⟨rfl, k2⟩
      go_wp2
      go_ret
      exact ⟨rfl, k1.trans k2⟩
    · have h2' : (s.size : Int) ≤ 2000 := by omega
      have h3' : (60 : Int) < (l.length : Int) := by omega
      clear hg h2
      go_enter Try.func6, Try.ntmps6
      go_wp2_with fail
      refine (alive_any _).mono ?_
      rintro e w1 ⟨rfl, k1⟩
      go_wp2_with fail
      refine (alive_any _).mono ?_
      rintro e w2 ⟨rfl, k2⟩
      go_wp2
      go_ret
      exact ⟨rfl, k1.trans k2⟩
  · have h2' : (s.size : Int) ≤ 2000 := by omega
    have h3' : (l.length : Int) ≤ 60 := by omega
    have h3 : l.length ≤ 60 := by omega
    have hsl : s.data.toList.length ≤ 2000 := by simp; omega
    have HSL := Lib.hid hsl
    clear hg hsl hlen
    go_enter Try.func6, Try.ntmps6
    go_wp2_with fail
    refine (alive_any _).mono ?_
    rintro e w1 ⟨rfl, k1⟩
    go_wp2_with fail
    refine (newReader_two _ s hs).mono ?_
    rintro e w2 ⟨p, g, rfl, hr2, hp2, hg2, k2, hgl⟩
    have g2 := k1.trans k2
    have kz := k1.size
    have gz := g2.size
    clear k1 k2
    go_wp2_with fail
    have hpl := hr2.plt
    have hone : OneAt w s.data.toList p g w2.heap.size (w2.alloc (.cells #[.slice none 0 0] 27)) :=
      ⟨[], _, [], Wr.new w2, hr2.kept ((Only.refl [] w2).alloc _) (by simp) (by simp), rfl, by omega, by omega, by simp, by simp, by simpa using gz, by simp, g2.alloc _⟩
    have hpw : w.heap.size ≤ p := Nat.le_trans kz hp2
    have HQ := Lib.hid gz
    go_loopw [7] (fun i wr => ∃ k : Nat, k ≤ l.length ∧ i = .int .i64 k ∧ OneAt w s.data.toList p g w2.heap.size wr) (fun i _ => l.length - (intOf i).toNat)
    case atStart => exact ⟨0, Nat.zero_le _, rfl, hone⟩
    case round =>
      clear hone hr2 g2 gz kz hp2 hg2
      obtain ⟨k, hk, rfl, F, bs, done, hwr, hrd, hdone, hpq, hgq, hpF, hgF, hF, hFl, gk⟩ := hrel
      have HD := Lib.hid hdone
      have HF := Lib.hid hF
      have HFL := Lib.hid hFl
      have hbl : bs.length ≤ 2000 := by have := HSL.out; rw [← hdone, List.length_append] at this; omega
      have hdl : done.length ≤ 2000 := by have := HSL.out; rw [← hdone, List.length_append] at this; omega
      clear hdone hF hFl
      by_cases hlt : k < l.length
      · have hr := h.kept gk (by simp)
        obtain ⟨ga, oa, rfl, hgB, hasks⟩ : ∃ g o, A = some ⟨g, o, none⟩ ∧ g < w.heap.size ∧ AsksAt wr g o l := by
          rcases hr.at_ with h0 | h0
          · rw [h0] at hlt; simp at hlt
          · exact h0
        obtain ⟨c0, _⟩ := hasks k hlt
        clear hasks hr h
        have hN : Blk (wr.alloc (.cells #[.int .i64 l[k].1, .int .u64 0, .string ⟨#[]⟩, .slice none 0 0] 33)) wr.heap.size 33 #[.int .i64 l[k].1, .int .u64 0, .string ⟨#[]⟩, .slice none 0 0] := Blk.new _ _ _
        have kN : Only [] wr (wr.alloc (.cells #[.int .i64 l[k].1, .int .u64 0, .string ⟨#[]⟩, .slice none 0 0] 33)) := (Only.refl [] wr).alloc _
        have c0' := kN.cell c0 (by simp)
        have hNp : p ≠ wr.heap.size := by have := hwr.lt; omega
        have hNg : g ≠ wr.heap.size := by have := hwr.lt; omega
        have hNq : w2.heap.size ≠ wr.heap.size := by have := hwr.lt; omega
        have hNF : Hid (∀ i ∈ F, i ≠ wr.heap.size) := fun i hi => by have := HFL.out i hi; omega
        have hrdN := hrd.kept kN (by simp) (by simp)
        have hwrN := hwr.kept kN (by simp) (by simp)
        have gN := gk.trans kN
        by_cases e_ : l[k].1.tmod 5 = 0
        · have E := Lib.hid e_
          go_wp2_with fail
          refine (rnum_any _ p g bs 0 hrdN).mono ?_
          rintro e w8 ⟨rfl, h8, k8⟩
          have x8 := hN.kept k8 (by simp; omega)
          have hwr8 := hwrN.kept k8 (by simpa using fun e => hpq e.symm) (fun i hi => by simp; rintro rfl; exact hpF hi)
          have g8 := gN.then k8 (by simpa using hpw)
          have k8z := Nat.le_trans kN.size k8.size
          clear hN hrdN hwrN gN kN c0 c0' hrd
          have hv : (((rNumber bs 0).1 : Nat) : Int) < 4294967296 := by have := rNumber_lt bs 0; omega
          clear e_
          have e_ := E.out
          have f8 := x8.free 1
          have d8 := x8.cell 1
          simp only [List.getElem?_toArray, List.getElem?_cons_zero, List.getElem?_cons_succ] at d8
          go_wp2_with fail
          obtain ⟨w9, hw9⟩ : ∃ w9, w9 = w8.setCell ⟨wr.heap.size, 1, none⟩ (.int .u64 (((rNumber bs 0).1 : Nat) : Int)) := ⟨_, rfl⟩
          rw [← hw9]
          have k9 : Only [wr.heap.size] w8 w9 := by rw [hw9]; exact (Only.refl _ _).setCell (.inl (by simp)) _
          have x9 : Blk w9 wr.heap.size 33 #[.int .i64 l[k].1, .int .u64 (((rNumber bs 0).1 : Nat) : Int), .string ⟨#[]⟩, .slice none 0 0] := by rw [hw9]; simpa using x8.set 1 (.int .u64 (((rNumber bs 0).1 : Nat) : Int))
          have h9 := h8.kept k9 (by simpa using hNp) (by simpa using hNg)
          have hwr9 := hwr8.kept k9 (by simpa using hNq) (fun i hi => by simpa using hNF.out i hi)
          have g9 := g8.then k9 (fun i hi => .inr (by simp at hi; have := gk.size; omega))
          have k9z := Nat.le_trans k8z k9.size
          clear hw9 x8 f8 d8 g8 hwr8 h8 k8
          obtain ⟨o9, c9, r9⟩ := h9
          have e0 := x9.cell 0
          have e1 := x9.cell 1
          have e2 := x9.cell 2
          have e3 := x9.cell 3
          simp only [List.getElem?_toArray, List.getElem?_cons_zero, List.getElem?_cons_succ] at e0 e1 e2 e3
          clear x9
          refine (err_any _ p g o9 c9 _ _ r9).mono ?_
          rintro e w10 ⟨rfl, rfl⟩
          by_cases he : (rNumber bs 0).2.2 = 0
          · have he' : (((rNumber bs 0).2.2 : Int) != 0) = false := by rw [he]; rfl
            have HE := Lib.hid he
            clear he
            have hit : It.Fits ⟨l[k].1, (rNumber bs 0).1, ⟨#[]⟩, none, 0, []⟩ := fits_mk _ _ _ _ _ _ (by have := rNumber_lt bs 0; omega) (by decide) (by decide) (by simp)
            go_wp2_with fail
            refine (write_any _ w2.heap.size F done ⟨l[k].1, (rNumber bs 0).1, ⟨#[]⟩, none, 0, []⟩ hit hwr9 (.inl rfl) (by omega)).mono ?_
            rintro e w11 ⟨rfl, hw11⟩
            rw [bytes_0 _ E.out, show (rNumber bs 0).1 % 4294967296 = (rNumber bs 0).1 from Nat.mod_eq_of_lt (rNumber_lt bs 0)] at hw11
            have hr9 : Rd w9 p g (rNumber bs 0).2.1 0 := ⟨o9, c9, by have := r9; rw [HE.out] at this; exact this⟩
            have hnext := OneAt.next HD.out (rNumber_one bs HE.out) hpq hgq hpF hgF HF.out (by have := hwr.lt; have := k9z; omega) (by have := hwr.lt; have := k9z; omega) g9 hr9 hw11
            clear hw11 e0 e1 e2 e3 r9 hr9
            go_wp2
            go_roundw
            case rel => exact ⟨k + 1, by omega, by go_num, hnext⟩
            case measure => simp [intOf]; omega
          · have he' : (((rNumber bs 0).2.2 : Int) != 0) = true := by rw [bne_iff_ne]; omega
            clear he e0 e1 e2 e3
            go_wp2_with fail
            refine (alive_any _).mono ?_
            rintro e w11 ⟨rfl, k11⟩
            go_wp2
            go_ret
            exact ⟨rfl, g9.trans k11⟩
        · have f0 : (l[k].1.tmod 5 == 0) = false := by simpa using e_
          have E0 := Lib.hid e_
          clear e_
          by_cases e_ : l[k].1.tmod 5 = 1
          · clear f0
            have E := Lib.hid e_
            go_wp2_with fail
            refine (rlong_any _ p g bs 0 hrdN).mono ?_
            rintro e w8 ⟨rfl, h8, k8⟩
            have x8 := hN.kept k8 (by simp; omega)
            have hwr8 := hwrN.kept k8 (by simpa using fun e => hpq e.symm) (fun i hi => by simp; rintro rfl; exact hpF hi)
            have g8 := gN.then k8 (by simpa using hpw)
            have k8z := Nat.le_trans kN.size k8.size
            clear hN hrdN hwrN gN kN c0 c0' hrd
            have f8 := x8.free 1
            have d8 := x8.cell 1
            simp only [List.getElem?_toArray, List.getElem?_cons_zero, List.getElem?_cons_succ] at d8
            go_wp2_with fail
            obtain ⟨w9, hw9⟩ : ∃ w9, w9 = w8.setCell ⟨wr.heap.size, 1, none⟩ (.int .u64 (((rLong bs 0).1 : Nat) : Int)) := ⟨_, rfl⟩
            rw [← hw9]
            have k9 : Only [wr.heap.size] w8 w9 := by rw [hw9]; exact (Only.refl _ _).setCell (.inl (by simp)) _
            have x9 : Blk w9 wr.heap.size 33 #[.int .i64 l[k].1, .int .u64 (((rLong bs 0).1 : Nat) : Int), .string ⟨#[]⟩, .slice none 0 0] := by rw [hw9]; simpa using x8.set 1 (.int .u64 (((rLong bs 0).1 : Nat) : Int))
            have h9 := h8.kept k9 (by simpa using hNp) (by simpa using hNg)
            have hwr9 := hwr8.kept k9 (by simpa using hNq) (fun i hi => by simpa using hNF.out i hi)
            have g9 := g8.then k9 (fun i hi => .inr (by simp at hi; have := gk.size; omega))
            have k9z := Nat.le_trans k8z k9.size
            clear hw9 x8 f8 d8 g8 hwr8 h8 k8
            obtain ⟨o9, c9, r9⟩ := h9
            have e0 := x9.cell 0
            have e1 := x9.cell 1
            have e2 := x9.cell 2
            have e3 := x9.cell 3
            simp only [List.getElem?_toArray, List.getElem?_cons_zero, List.getElem?_cons_succ] at e0 e1 e2 e3
            clear x9
            refine (err_any _ p g o9 c9 _ _ r9).mono ?_
            rintro e w10 ⟨rfl, rfl⟩
            by_cases he : (rLong bs 0).2.2 = 0
            · have he' : (((rLong bs 0).2.2 : Int) != 0) = false := by rw [he]; rfl
              have HE := Lib.hid he
              clear he
              have hit : It.Fits ⟨l[k].1, (rLong bs 0).1, ⟨#[]⟩, none, 0, []⟩ := fits_mk _ _ _ _ _ _ (rLong_lt bs 0) (by decide) (by decide) (by simp)
              go_wp2_with fail
              refine (write_any _ w2.heap.size F done ⟨l[k].1, (rLong bs 0).1, ⟨#[]⟩, none, 0, []⟩ hit hwr9 (.inl rfl) (by omega)).mono ?_
              rintro e w11 ⟨rfl, hw11⟩
              rw [bytes_1 _ E.out] at hw11
              have hr9 : Rd w9 p g (rLong bs 0).2.1 0 := ⟨o9, c9, by have := r9; rw [HE.out] at this; exact this⟩
              have hnext := OneAt.next HD.out (rLong_one bs HE.out) hpq hgq hpF hgF HF.out (by have := hwr.lt; have := k9z; omega) (by have := hwr.lt; have := k9z; omega) g9 hr9 hw11
              clear hw11 e0 e1 e2 e3 r9 hr9
              go_wp2
              go_roundw
              case rel => exact ⟨k + 1, by omega, by go_num, hnext⟩
              case measure => simp [intOf]; omega
            · have he' : (((rLong bs 0).2.2 : Int) != 0) = true := by rw [bne_iff_ne]; omega
              clear he e0 e1 e2 e3
              go_wp2_with fail
              refine (alive_any _).mono ?_
              rintro e w11 ⟨rfl, k11⟩
              go_wp2
              go_ret
              exact ⟨rfl, g9.trans k11⟩
          · have f1 : (l[k].1.tmod 5 == 1) = false := by simpa using e_
            have E1 := Lib.hid e_
            clear e_
            by_cases e_ : l[k].1.tmod 5 = 2
            · clear f0 f1
              have E := Lib.hid e_
              go_wp2_with fail
              refine (rflag_any _ p g bs 0 hrdN).mono ?_
              rintro e w8 ⟨rfl, h8, k8⟩
              have x8 := hN.kept k8 (by simp; omega)
              have hwr8 := hwrN.kept k8 (by simpa using fun e => hpq e.symm) (fun i hi => by simp; rintro rfl; exact hpF hi)
              have g8 := gN.then k8 (by simpa using hpw)
              have k8z := Nat.le_trans kN.size k8.size
              clear hN hrdN hwrN gN kN c0 c0' hrd
              by_cases hfv_ : (rFlag bs 0).1 = true
              · have hfv := hfv_
                rw [hfv]
                have HV := Lib.hid hfv
                clear hfv hfv_
                have f8 := x8.free 1
                have d8 := x8.cell 1
                simp only [List.getElem?_toArray, List.getElem?_cons_zero, List.getElem?_cons_succ] at d8
                go_wp2_with fail
                obtain ⟨w9, hw9⟩ : ∃ w9, w9 = w8.setCell ⟨wr.heap.size, 1, none⟩ (.int .u64 1) := ⟨_, rfl⟩
                rw [← hw9]
                have k9 : Only [wr.heap.size] w8 w9 := by rw [hw9]; exact (Only.refl _ _).setCell (.inl (by simp)) _
                have x9 : Blk w9 wr.heap.size 33 #[.int .i64 l[k].1, .int .u64 1, .string ⟨#[]⟩, .slice none 0 0] := by rw [hw9]; simpa using x8.set 1 (.int .u64 1)
                have h9 := h8.kept k9 (by simpa using hNp) (by simpa using hNg)
                have hwr9 := hwr8.kept k9 (by simpa using hNq) (fun i hi => by simpa using hNF.out i hi)
                have g9 := g8.then k9 (fun i hi => .inr (by simp at hi; have := gk.size; omega))
                have k9z := Nat.le_trans k8z k9.size
                clear hw9 x8 f8 d8 g8 hwr8 h8 k8
                obtain ⟨o9, c9, r9⟩ := h9
                have e0 := x9.cell 0
                have e1 := x9.cell 1
                have e2 := x9.cell 2
                have e3 := x9.cell 3
                simp only [List.getElem?_toArray, List.getElem?_cons_zero, List.getElem?_cons_succ] at e0 e1 e2 e3
                clear x9
                refine (err_any _ p g o9 c9 _ _ r9).mono ?_
                rintro e w10 ⟨rfl, rfl⟩
                by_cases he : (rFlag bs 0).2.2 = 0
                · have he' : (((rFlag bs 0).2.2 : Int) != 0) = false := by rw [he]; rfl
                  have HE := Lib.hid he
                  clear he
                  have hit : It.Fits ⟨l[k].1, 1, ⟨#[]⟩, none, 0, []⟩ := fits_mk _ _ _ _ _ _ (by decide) (by decide) (by decide) (by simp)
                  go_wp2_with fail
                  refine (write_any _ w2.heap.size F done ⟨l[k].1, 1, ⟨#[]⟩, none, 0, []⟩ hit hwr9 (.inl rfl) (by omega)).mono ?_
                  rintro e w11 ⟨rfl, hw11⟩
                  rw [bytes_2 _ E.out] at hw11
                  change Wrote w9 w11 w2.heap.size F (done ++ be4 true.toNat) at hw11
                  have hr9 : Rd w9 p g (rFlag bs 0).2.1 0 := ⟨o9, c9, by have := r9; rw [HE.out] at this; exact this⟩
                  have hnext := OneAt.next HD.out (by have h1 := rFlag_one bs HE.out; rw [HV.out] at h1; exact h1) hpq hgq hpF hgF HF.out (by have := hwr.lt; have := k9z; omega) (by have := hwr.lt; have := k9z; omega) g9 hr9 hw11
                  clear hw11 e0 e1 e2 e3 r9 hr9
                  go_wp2
                  go_roundw
                  case rel => exact ⟨k + 1, by omega, by go_num, hnext⟩
                  case measure => simp [intOf]; omega
                · have he' : (((rFlag bs 0).2.2 : Int) != 0) = true := by rw [bne_iff_ne]; omega
                  clear he e0 e1 e2 e3
                  go_wp2_with fail
                  refine (alive_any _).mono ?_
                  rintro e w11 ⟨rfl, k11⟩
                  go_wp2
                  go_ret
                  exact ⟨rfl, g9.trans k11⟩
              · have hfv : (rFlag bs 0).1 = false := by simpa using hfv_
                rw [hfv]
                have HV := Lib.hid hfv
                clear hfv hfv_
                have x9 := x8
                have h9 := h8
                have hwr9 := hwr8
                have g9 := g8
                have k9z := k8z
                obtain ⟨w9, rfl⟩ : ∃ w9, w9 = w8 := ⟨_, rfl⟩
                clear x8 h8 hwr8 g8 k8z k8
                go_wp2_with fail
                obtain ⟨o9, c9, r9⟩ := h9
                have e0 := x9.cell 0
                have e1 := x9.cell 1
                have e2 := x9.cell 2
                have e3 := x9.cell 3
                simp only [List.getElem?_toArray, List.getElem?_cons_zero, List.getElem?_cons_succ] at e0 e1 e2 e3
                clear x9
                refine (err_any _ p g o9 c9 _ _ r9).mono ?_
                rintro e w10 ⟨rfl, rfl⟩
                by_cases he : (rFlag bs 0).2.2 = 0
                · have he' : (((rFlag bs 0).2.2 : Int) != 0) = false := by rw [he]; rfl
                  have HE := Lib.hid he
                  clear he
                  have hit : It.Fits ⟨l[k].1, 0, ⟨#[]⟩, none, 0, []⟩ := fits_mk _ _ _ _ _ _ (by decide) (by decide) (by decide) (by simp)
                  go_wp2_with fail
                  refine (write_any _ w2.heap.size F done ⟨l[k].1, 0, ⟨#[]⟩, none, 0, []⟩ hit hwr9 (.inl rfl) (by omega)).mono ?_
                  rintro e w11 ⟨rfl, hw11⟩
                  rw [bytes_2 _ E.out] at hw11
                  change Wrote w9 w11 w2.heap.size F (done ++ be4 false.toNat) at hw11
                  have hr9 : Rd w9 p g (rFlag bs 0).2.1 0 := ⟨o9, c9, by have := r9; rw [HE.out] at this; exact this⟩
                  have hnext := OneAt.next HD.out (by have h1 := rFlag_one bs HE.out; rw [HV.out] at h1; exact h1) hpq hgq hpF hgF HF.out (by have := hwr.lt; have := k9z; omega) (by have := hwr.lt; have := k9z; omega) g9 hr9 hw11
                  clear hw11 e0 e1 e2 e3 r9 hr9
                  go_wp2
                  go_roundw
                  case rel => exact ⟨k + 1, by omega, by go_num, hnext⟩
                  case measure => simp [intOf]; omega
                · have he' : (((rFlag bs 0).2.2 : Int) != 0) = true := by rw [bne_iff_ne]; omega
                  clear he e0 e1 e2 e3
                  go_wp2_with fail
                  refine (alive_any _).mono ?_
                  rintro e w11 ⟨rfl, k11⟩
                  go_wp2
                  go_ret
                  exact ⟨rfl, g9.trans k11⟩
            · have f2 : (l[k].1.tmod 5 == 2) = false := by simpa using e_
              have E2 := Lib.hid e_
              clear e_
              by_cases e_ : l[k].1.tmod 5 = 3
              · clear f0 f1 f2
                have E := Lib.hid e_
                go_wp2_with fail
                refine (rtext_any _ p g bs 0 2000 (by decide) hrdN).mono ?_
                rintro e w8 ⟨rfl, h8, k8⟩
                have x8 := hN.kept k8 (by simp; omega)
                have hwr8 := hwrN.kept k8 (by simpa using fun e => hpq e.symm) (fun i hi => by simp; rintro rfl; exact hpF hi)
                have g8 := gN.then k8 (by simpa using hpw)
                have k8z := Nat.le_trans kN.size k8.size
                clear hN hrdN hwrN gN kN c0 c0' hrd
                have f8 := x8.free 2
                have d8 := x8.cell 2
                simp only [List.getElem?_toArray, List.getElem?_cons_zero, List.getElem?_cons_succ] at d8
                go_wp2_with fail
                obtain ⟨w9, hw9⟩ : ∃ w9, w9 = w8.setCell ⟨wr.heap.size, 2, none⟩ (.string (strOf (rText 2000 bs 0).1)) := ⟨_, rfl⟩
                rw [← hw9]
                have k9 : Only [wr.heap.size] w8 w9 := by rw [hw9]; exact (Only.refl _ _).setCell (.inl (by simp)) _
                have x9 : Blk w9 wr.heap.size 33 #[.int .i64 l[k].1, .int .u64 0, .string (strOf (rText 2000 bs 0).1), .slice none 0 0] := by rw [hw9]; simpa using x8.set 2 (.string (strOf (rText 2000 bs 0).1))
                have h9 := h8.kept k9 (by simpa using hNp) (by simpa using hNg)
                have hwr9 := hwr8.kept k9 (by simpa using hNq) (fun i hi => by simpa using hNF.out i hi)
                have g9 := g8.then k9 (fun i hi => .inr (by simp at hi; have := gk.size; omega))
                have k9z := Nat.le_trans k8z k9.size
                clear hw9 x8 f8 d8 g8 hwr8 h8 k8
                obtain ⟨o9, c9, r9⟩ := h9
                have e0 := x9.cell 0
                have e1 := x9.cell 1
                have e2 := x9.cell 2
                have e3 := x9.cell 3
                simp only [List.getElem?_toArray, List.getElem?_cons_zero, List.getElem?_cons_succ] at e0 e1 e2 e3
                clear x9
                refine (err_any _ p g o9 c9 _ _ r9).mono ?_
                rintro e w10 ⟨rfl, rfl⟩
                by_cases he : (rText 2000 bs 0).2.2 = 0
                · have he' : (((rText 2000 bs 0).2.2 : Int) != 0) = false := by rw [he]; rfl
                  have HE := Lib.hid he
                  clear he
                  have hit : It.Fits ⟨l[k].1, 0, (strOf (rText 2000 bs 0).1), none, 0, []⟩ := fits_mk _ _ _ _ _ _ (by decide) (by rw [strOf_size]; have := (rText_one 2000 bs HE.out).2; omega) (by decide) (by simp)
                  go_wp2_with fail
                  refine (write_any _ w2.heap.size F done ⟨l[k].1, 0, (strOf (rText 2000 bs 0).1), none, 0, []⟩ hit hwr9 (.inl rfl) (by omega)).mono ?_
                  rintro e w11 ⟨rfl, hw11⟩
                  rw [bytes_3 _ E.out, strOf_list] at hw11
                  have hr9 : Rd w9 p g (rText 2000 bs 0).2.1 0 := ⟨o9, c9, by have := r9; rw [HE.out] at this; exact this⟩
                  have hnext := OneAt.next HD.out (rText_one 2000 bs HE.out).1 hpq hgq hpF hgF HF.out (by have := hwr.lt; have := k9z; omega) (by have := hwr.lt; have := k9z; omega) g9 hr9 hw11
                  clear hw11 e0 e1 e2 e3 r9 hr9
                  go_wp2
                  go_roundw
                  case rel => exact ⟨k + 1, by omega, by go_num, hnext⟩
                  case measure => simp [intOf]; omega
                · have he' : (((rText 2000 bs 0).2.2 : Int) != 0) = true := by rw [bne_iff_ne]; omega
                  clear he e0 e1 e2 e3
                  go_wp2_with fail
                  refine (alive_any _).mono ?_
                  rintro e w11 ⟨rfl, k11⟩
                  go_wp2
                  go_ret
                  exact ⟨rfl, g9.trans k11⟩
              · have f3 : (l[k].1.tmod 5 == 3) = false := by simpa using e_
                have E3 := Lib.hid e_
                clear e_
                by_cases e_ : l[k].1.tmod 5 = 4
                · clear f0 f1 f2 f3
                  have E := Lib.hid e_
                  go_wp2_with fail
                  refine (rlist_any _ p g bs 0 500 (by decide) (by omega) hrdN).mono ?_
                  rintro e w8 ⟨A8, c8, rfl, l8, h8, k8⟩
                  have x8 := hN.kept k8 (by simp; omega)
                  have hwr8 := hwrN.kept k8 (by simpa using fun e => hpq e.symm) (fun i hi => by simp; rintro rfl; exact hpF hi)
                  have g8 := gN.then k8 (by simpa using hpw)
                  have k8z := Nat.le_trans kN.size k8.size
                  clear hN hrdN hwrN gN kN c0 c0' hrd
                  have L8 := Lib.hid l8
                  have hsz8 : wr.heap.size < (wr.alloc (.cells #[.int .i64 l[k].1, .int .u64 0, .string ⟨#[]⟩, .slice none 0 0] 33)).heap.size := by simp
                  clear l8
                  have f8 := x8.free 3
                  have d8 := x8.cell 3
                  simp only [List.getElem?_toArray, List.getElem?_cons_zero, List.getElem?_cons_succ] at d8
                  go_wp2_with fail
                  obtain ⟨w9, hw9⟩ : ∃ w9, w9 = w8.setCell ⟨wr.heap.size, 3, none⟩ (.slice A8 (rList 500 bs 0).1.length c8) := ⟨_, rfl⟩
                  rw [← hw9]
                  have k9 : Only [wr.heap.size] w8 w9 := by rw [hw9]; exact (Only.refl _ _).setCell (.inl (by simp)) _
                  have x9 : Blk w9 wr.heap.size 33 #[.int .i64 l[k].1, .int .u64 0, .string ⟨#[]⟩, .slice A8 (rList 500 bs 0).1.length c8] := by rw [hw9]; simpa using x8.set 3 (.slice A8 (rList 500 bs 0).1.length c8)
                  have h9 := h8.kept k9 (by simpa using hNp) (by simpa using hNg)
                  have hwr9 := hwr8.kept k9 (by simpa using hNq) (fun i hi => by simpa using hNF.out i hi)
                  have g9 := g8.then k9 (fun i hi => .inr (by simp at hi; have := gk.size; omega))
                  have k9z := Nat.le_trans k8z k9.size
                  have N9 : Hid (Nums w9 (w2.heap.size :: F) A8 (rList 500 bs 0).1) := by
                    rcases L8.out with h0 | ⟨h, hA, hge, hnn⟩
                    · exact .inl h0
                    · refine .inr ⟨h, 0, hA, fun hm => ?_, hnn.kept k9 (by simp; omega)⟩
                      rcases List.mem_cons.1 hm with e | e
                      · have := hwr.lt; omega
                      · have := HFL.out h e; omega
                  clear L8 hw9 x8 f8 d8 g8 hwr8 h8 k8
                  obtain ⟨o9, c9, r9⟩ := h9
                  have e0 := x9.cell 0
                  have e1 := x9.cell 1
                  have e2 := x9.cell 2
                  have e3 := x9.cell 3
                  simp only [List.getElem?_toArray, List.getElem?_cons_zero, List.getElem?_cons_succ] at e0 e1 e2 e3
                  clear x9
                  refine (err_any _ p g o9 c9 _ _ r9).mono ?_
                  rintro e w10 ⟨rfl, rfl⟩
                  by_cases he : (rList 500 bs 0).2.2 = 0
                  · have he' : (((rList 500 bs 0).2.2 : Int) != 0) = false := by rw [he]; rfl
                    have HE := Lib.hid he
                    clear he
                    have hit : It.Fits ⟨l[k].1, 0, ⟨#[]⟩, A8, c8, (rList 500 bs 0).1⟩ := fits_mk _ _ _ _ _ _ (by decide) (by decide) (by have := (rList_one 500 bs HE.out).2.1; omega) ((rList_one 500 bs HE.out).2.2)
                    go_wp2_with fail
                    refine (write_any _ w2.heap.size F done ⟨l[k].1, 0, ⟨#[]⟩, A8, c8, (rList 500 bs 0).1⟩ hit hwr9 N9.out (by omega)).mono ?_
                    rintro e w11 ⟨rfl, hw11⟩
                    rw [bytes_4 _ E.out] at hw11
                    have hr9 : Rd w9 p g (rList 500 bs 0).2.1 0 := ⟨o9, c9, by have := r9; rw [HE.out] at this; exact this⟩
                    have hnext := OneAt.next HD.out (rList_one 500 bs HE.out).1 hpq hgq hpF hgF HF.out (by have := hwr.lt; have := k9z; omega) (by have := hwr.lt; have := k9z; omega) g9 hr9 hw11
                    clear hw11 e0 e1 e2 e3 r9 hr9
                    go_wp2
                    go_roundw
                    case rel => exact ⟨k + 1, by omega, by go_num, hnext⟩
                    case measure => simp [intOf]; omega
                  · have he' : (((rList 500 bs 0).2.2 : Int) != 0) = true := by rw [bne_iff_ne]; omega
                    clear he e0 e1 e2 e3
                    go_wp2_with fail
                    refine (alive_any _).mono ?_
                    rintro e w11 ⟨rfl, k11⟩
                    go_wp2
                    go_ret
                    exact ⟨rfl, g9.trans k11⟩
                · have f4 : (l[k].1.tmod 5 == 4) = false := by simpa using e_
                  have E4 := Lib.hid e_
                  clear e_
                  have x9 := hN
                  have h9 := hrdN
                  have hwr9 := hwrN
                  have g9 := gN
                  have k9z := kN.size
                  go_wp2_with fail
                  obtain ⟨w9, hw9⟩ : ∃ w9, w9 = wr.alloc (.cells #[.int .i64 l[k].1, .int .u64 0, .string ⟨#[]⟩, .slice none 0 0] 33) := ⟨_, rfl⟩
                  rw [← hw9] at x9 h9 hwr9 g9 k9z ⊢
                  clear hw9 hN hrdN hwrN gN kN c0 c0' hrd
                  obtain ⟨o9, c9, r9⟩ := h9
                  have e0 := x9.cell 0
                  have e1 := x9.cell 1
                  have e2 := x9.cell 2
                  have e3 := x9.cell 3
                  simp only [List.getElem?_toArray, List.getElem?_cons_zero, List.getElem?_cons_succ] at e0 e1 e2 e3
                  clear x9
                  refine (err_any _ p g o9 c9 _ _ r9).mono ?_
                  rintro e w10 ⟨rfl, rfl⟩
                  have hit : It.Fits ⟨l[k].1, 0, ⟨#[]⟩, none, 0, []⟩ := fits_mk _ _ _ _ _ _ (by decide) (by decide) (by decide) (by simp)
                  go_wp2_with fail
                  refine (write_any _ w2.heap.size F done ⟨l[k].1, 0, ⟨#[]⟩, none, 0, []⟩ hit hwr9 (.inl rfl) (by omega)).mono ?_
                  rintro e w11 ⟨rfl, hw11⟩
                  rw [bytes_5 _ E0.out E1.out E2.out E3.out E4.out] at hw11
                  have hr9 : Rd w9 p g bs 0 := ⟨o9, c9, r9⟩
                  have hnext := OneAt.next HD.out (List.nil_append bs) hpq hgq hpF hgF HF.out (by have := hwr.lt; have := k9z; omega) (by have := hwr.lt; have := k9z; omega) g9 hr9 hw11
                  clear hw11 e0 e1 e2 e3 r9 hr9
                  go_wp2
                  go_roundw
                  case rel => exact ⟨k + 1, by omega, by go_num, hnext⟩
                  case measure => simp [intOf]; omega
      · obtain rfl : k = l.length := by omega
        have e0 : done ++ bs = s.data.toList := HD.out
        have HX := Lib.hid e0
        clear e0
        go_wp2_with fail
        refine (rend_any _ p g bs 0 hrd).mono ?_
        rintro e w8 ⟨rfl, h8, k8⟩
        have g8 := gk.then k8 (by simpa using hpw)
        by_cases hb : bs.length = 0
        · have e1 : rEnd bs 0 = 0 := by unfold rEnd; rw [if_neg (by simp), if_pos hb]
          rw [e1]
          have hwr8 := hwr.kept k8 (by simpa using fun e => hpq e.symm) (fun i hi => by simp; rintro rfl; exact hpF hi)
          have hd : done = s.data.toList := by
            have := HX.out
            rw [List.eq_nil_of_length_eq_zero hb, List.append_nil] at this
            exact this
          subst hd
          clear e1 hb h8 k8 hrd hwr
          go_wp2_with fail
          refine (alive_any _).mono ?_
          rintro e w9 ⟨rfl, k9⟩
          have hwr9 := hwr8.kept k9 (by simp) (by simp)
          go_wp2_with fail
          refine (bytes_any _ _ F _ hwr9).mono ?_
          rintro e w10 ⟨rfl, rfl⟩
          rw [strOf_toList]
          go_wp2
          go_ret
          exact ⟨rfl, g8.trans k9⟩
        · have e1 : rEnd bs 0 = 4 := by unfold rEnd; rw [if_neg (by simp), if_neg hb]
          rw [e1]
          clear e1 hb h8 k8
          go_wp2_with fail
          refine (alive_any _).mono ?_
          rintro e w9 ⟨rfl, k9⟩
          go_wp2
          go_ret
          exact ⟨rfl, g8.trans k9⟩

end Go.Proofs.Ytfnpbekfgofhfaa
