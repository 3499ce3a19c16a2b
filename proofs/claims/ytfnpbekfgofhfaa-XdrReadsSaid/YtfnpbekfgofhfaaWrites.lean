/- The walk of XdrWrites: all items are written as the document says. -/
import Derived.Test.YtfnpbekfgofhfaaItem
namespace Go.Proofs.Ytfnpbekfgofhfaa
open Go.RowKit

/-- All items' bytes, one behind the other. -/
def allB : List It → List UInt8
  | [] => []
  | x :: l => x.bytes ++ allB l
theorem allB_snoc (l : List It) (x : It) : allB (l ++ [x]) = allB l ++ x.bytes := by
  induction l with
  | nil => simp [allB]
  | cons a l ih => simp [allB, ih]
theorem allB_take (l : List It) (k : Nat) (h : k < l.length) : allB (l.take (k + 1)) = allB (l.take k) ++ l[k].bytes := by
  rw [List.take_succ_eq_append_getElem h, allB_snoc]
theorem allB_length (l : List It) (h : ∀ x ∈ l, x.Fits) : (allB l).length ≤ 2010 * l.length ∧ (allB l).length % 4 = 0 := by
  induction l with
  | nil => simp [allB]
  | cons a l ih =>
    have h1 := ih (fun x hx => h x (by simp [hx]))
    have h2 := a.bytes_length (h a (by simp))
    simp only [allB, List.length_append, List.length_cons]
    omega
theorem allB_take_length (l : List It) (h : ∀ x ∈ l, x.Fits) (k : Nat) (hk : k ≤ l.length) : (allB (l.take k)).length ≤ 2010 * k ∧ (allB (l.take k)).length % 4 = 0 := by
  have := allB_length (l.take k) (fun x hx => h x (List.mem_of_mem_take hx))
  rw [List.length_take] at this
  have e : min k l.length = k := by omega
  rw [e] at this
  exact this

theorem fits_of {w : World} {B : Nat} {A : Option Addr} {its : List It} (h : Its w B A its) (hg : greatB its = false) : ∀ x ∈ its, x.Fits :=
  fun x hx => ⟨h.n x hx, ((great_no hg).2 x hx).1, ((great_no hg).2 x hx).2, h.u x hx⟩

theorem nums_of {w : World} {B : Nat} {A : Option Addr} {its : List It} (h : Its w B A its) (S : List Nat) (hS : ∀ i ∈ S, B ≤ i) (x : It) (hx : x ∈ its) : Nums w S x.A x.l := by
  rcases h.lists x hx with h0 | ⟨g, o, h1, h2, h3⟩
  · exact .inl h0
  · exact .inr ⟨g, o, h1, fun hm => by have := hS g hm; omega, h3⟩

set_option maxHeartbeats 1000000 in
theorem xdrWrites_walk (w : World) (A : Option Addr) (c : Nat) (its : List It) (h : Its w w.heap.size A its) (hlen : its.length ≤ 9223372036854775807) :
    Calls Try.prog 3 #[.slice A its.length c] w fun e w' => e = .returned (.bool true) ∧ Only [] w w' := by
  by_cases hg : greatB its = true
  · go_enter Try.func3, Try.ntmps3
    go_wp2_with fail
    refine (alive_any _).mono ?_
    rintro e w1 ⟨rfl, k1⟩
    have h1 := h.kept k1 (by simp)
    go_wp2_with fail
    refine (great_any _ _ A c its h1 hlen).mono ?_
    rintro e w2 ⟨rfl, rfl⟩
    rw [hg]
    go_wp2_with fail
    refine (alive_any _).mono ?_
    rintro e w2 ⟨rfl, k2⟩
    go_wp2
    go_ret
    exact ⟨rfl, k1.trans k2⟩
  · have hg' : greatB its = false := by simpa using hg
    have hfit := Lib.hid (fits_of h hg')
    have h60 := (great_no hg').1
    have HG := Lib.hid hg'
    have HA := Lib.hid (fun k hk => allB_take_length its hfit.out k hk)
    clear hg hg'
    go_enter Try.func3, Try.ntmps3
    go_wp2_with fail
    refine (alive_any _).mono ?_
    rintro e w1 ⟨rfl, k1⟩
    have h1 := h.kept k1 (by simp)
    go_wp2_with fail
    refine (great_any _ _ A c its h1 hlen).mono ?_
    rintro e w2 ⟨rfl, rfl⟩
    rw [HG.out]
    have hw1 := k1.size
    have hnew := Wr.new w1
    have g1 : Only [] w (w1.alloc (.cells #[.slice none 0 0] 27)) := k1.alloc _
    clear h1 k1
    go_wp2_with fail
    obtain ⟨W, hW⟩ : ∃ W, W = w1.alloc (.cells #[.slice none 0 0] 27) := ⟨_, rfl⟩
    rw [← hW] at hnew g1 ⊢
    go_loopw [4, 5] (fun t i wr => ∃ k : Nat, k ≤ its.length ∧ i = .int .i64 k ∧ t = .string (strOf (allB (its.take k))) ∧ Wrote W wr w1.heap.size [] (allB (its.take k))) (fun _ i _ => its.length - (intOf i).toNat)
    case atStart => exact ⟨0, Nat.zero_le _, rfl, rfl, ⟨[], by simpa [allB] using hnew, Only.refl _ _, by simp⟩⟩
    case round =>
      obtain ⟨k, hk, rfl, rfl, hwr⟩ := hrel
      by_cases hlt : k < its.length
      · obtain ⟨F1, a1, a2, a3, a4⟩ := hwr.parts
        have gr : Only [] w wr := g1.then a2 (fun i hi => .inr (by simp at hi; omega))
        have hr := h.kept gr (by simp)
        have hF : ∀ i ∈ w1.heap.size :: F1, w.heap.size ≤ i := fun i hi => by
          rcases List.mem_cons.1 hi with rfl | hi
          · exact hw1
          · rcases a3.out i hi with h0 | h0
            · simp at h0
            · exact Nat.le_trans g1.size h0
        have hnum := nums_of hr (w1.heap.size :: F1) hF _ (List.getElem_mem hlt)
        obtain ⟨g, o, rfl, hgB, hits⟩ : ∃ g o, A = some ⟨g, o, none⟩ ∧ g < w.heap.size ∧ ItemsAt wr g o its := by
          rcases hr.at_ with h0 | h0
          · rw [h0] at hlt; simp at hlt
          · exact h0
        obtain ⟨c0, c1, c2, c3⟩ := hits k hlt
        have hb := (HA.out k hk).1
        have hb1 := HA.out (k + 1) hlt
        have H1 := Lib.hid (allB_take its k hlt)
        have hfx := hfit.out _ (List.getElem_mem hlt)
        have HF := Lib.hid hF
        clear hits hF hr h hwr
        go_wp2_with fail
        refine (write_any _ _ F1 _ its[k] hfx a1 hnum (by omega)).mono ?_
        rintro e w2 ⟨rfl, hw2⟩
        have hW2 := Wrote.join a2 a3.out hw2
        rw [H1.out.symm] at hW2
        obtain ⟨F2, b1, b2, b3, b4⟩ := hw2.parts
        rw [H1.out.symm] at b1
        have kr : Only [] w w2 := gr.then b2 (fun i hi => .inr (HF.out i hi))
        have hr2 : Nums w2 [] its[k].A its[k].l := by
          rcases hnum with h0 | ⟨g', o', e', hm, hn⟩
          · exact .inl h0
          · exact .inr ⟨g', o', e', by simp, hn.kept b2 hm⟩
        have d0 := b2.cell c0 (fun hm => by have := HF.out _ hm; simp at this; omega)
        have d1 := b2.cell c1 (fun hm => by have := HF.out _ hm; simp at this; omega)
        have d2 := b2.cell c2 (fun hm => by have := HF.out _ hm; simp at this; omega)
        have d3 := b2.cell c3 (fun hm => by have := HF.out _ hm; simp at this; omega)
        clear hw2 c0 c1 c2 c3 hnum a1 b3 b4
        go_wp2_with fail
        refine (text_any _ its[k] hfx hr2).mono ?_
        rintro e w3 ⟨rfl, k3⟩
        have hbx := its[k].bytes_length hfx
        have HX := Lib.hid hbx
        clear hbx
        go_wp2_with (refine wpList_concat _ rfl 9 9 (.tmp 22) (.tmp 27) rfl (allB (its.take k)) its[k].bytes rfl rfl (by have := HX.out.1; omega) ?_)
        rw [H1.out.symm]
        have b1' := b1.kept k3 (by simp) (by simp)
        have hW3 : Wrote W w3 w1.heap.size [] (allB (its.take (k + 1))) := by
          obtain ⟨F', e1, e2, e3⟩ := hW2
          exact ⟨F', e1.kept k3 (by simp) (by simp), e2.then k3 (by simp), e3⟩
        have ht : (((strOf (allB (its.take (k + 1)))).size : Int) % 4 != 0) = false := by
          rw [strOf_size]
          simp
          omega
        clear b1 hW2 hr2 d0 d1 d2 d3 k3
        go_wp2_with fail
        refine (bytes_any _ _ F2 _ b1').mono ?_
        rintro e w4 ⟨rfl, rfl⟩
        go_wp2
        go_roundw
        case rel => exact ⟨k + 1, by omega, by go_num, rfl, hW3⟩
        case measure => simp [intOf]; omega
      · obtain rfl : k = its.length := by omega
        obtain ⟨F1, a1, a2, a3, a4⟩ := hwr.parts
        have gr : Only [] w wr := g1.then a2 (fun i hi => .inr (by simp at hi; omega))
        rw [List.take_length] at a1 ⊢
        clear hwr a2 a3 a4
        go_wp2_with fail
        refine (alive_any _).mono ?_
        rintro e w5 ⟨rfl, k5⟩
        have a5 := a1.kept k5 (by simp) (by simp)
        go_wp2_with fail
        refine (bytes_any _ _ F1 _ a5).mono ?_
        rintro e w6 ⟨rfl, rfl⟩
        go_wp2
        go_ret
        exact ⟨rfl, gr.trans k5⟩

end Go.Proofs.Ytfnpbekfgofhfaa
