/- What fragments are (Chain, Okay); the document's Frags and Same; what every right program answers. -/
import Derived.Test.YtiadhmjmiaamcaaFrags
namespace Go.Proofs.Ytiadhmjmiaamcaa
open Go.RowKit Go.Proofs.Ytiadhmjmiaamcaa.Fl

/-- Fragments one behind the other, from a to b. -/
def Chain (P : Fg → Prop) : Int → List Fg → Int → Prop
  | a, [], b => a = b
  | a, f :: r, b => f.at_ = a ∧ P f ∧ Chain P (a + f.len) r b
theorem chain_snoc {P : Fg → Prop} {l : List Fg} {f : Fg} : ∀ {a b : Int}, Chain P a l b → f.at_ = b → P f → Chain P a (l ++ [f]) (b + f.len) := by
  induction l with
  | nil => intro a b h h1 h2; obtain rfl : a = b := h; exact ⟨h1, h2, rfl⟩
  | cons g r ih => intro a b h h1 h2; exact ⟨h.1, h.2.1, ih h.2.2 h1 h2⟩
theorem chain_last {P : Fg → Prop} {l : List Fg} {f : Fg} : ∀ {a c : Int}, Chain P a (l ++ [f]) c → Chain P a l f.at_ ∧ P f ∧ c = f.at_ + f.len := by
  induction l with
  | nil => intro a c h; exact ⟨h.1.symm, h.2.1, by rw [h.1]; exact h.2.2.symm⟩
  | cons g r ih => intro a c h; have := ih h.2.2; exact ⟨⟨h.1, h.2.1, this.1⟩, this.2⟩
theorem snoc_of {l : List Fg} (h : l ≠ []) : ∃ r f, l = r ++ [f] := ⟨l.dropLast, l.getLast h, (List.dropLast_concat_getLast h).symm⟩

/-- A fragment lies in one unit, at its first byte's place. -/
def Okay (s u t o : Int) (f : Fg) : Prop := f.sv = srv s u t (o + f.at_) ∧ f.off = pos s u (o + f.at_) ∧ 1 ≤ f.len ∧ (o + f.at_) % u + f.len ≤ u ∧ 0 ≤ f.at_

theorem frs_chain {s u t o : Int} (u1 : 1 ≤ u) (j : Nat) : Chain (Okay s u t o) 0 (frs s u t o j) j := by
  induction j with
  | zero => rfl
  | succ j ih =>
    have e1 := Int.emod_lt_of_pos (o + j) (show 0 < u by omega)
    rw [frs]
    split
    · have := chain_snoc (f := ⟨srv s u t (o + j), pos s u (o + j), j, 1⟩) ih rfl ⟨rfl, rfl, Int.le_refl 1, by simp only; omega, by simp only; omega⟩
      exact this
    · rename_i hn
      obtain ⟨r, f, hf⟩ := snoc_of (fun h => hn (.inr h))
      rw [hf] at ih ⊢
      obtain ⟨h1, ⟨p1, p2, p3, p4, p5⟩, h3⟩ := chain_last ih
      rw [bump_snoc]
      have hne : (o + f.at_) % u + f.len ≠ u := fun h => hn (.inl (by
        rw [show o + (j : Int) = o + f.at_ + f.len by omega, show o + f.at_ + f.len = (o + f.at_ - (o + f.at_) % u) + u by omega, Int.add_emod_right, Int.sub_emod, Int.emod_emod, Int.sub_self]
        rfl))
      have := chain_snoc (f := { f with len := f.len + 1 }) h1 rfl ⟨p1, p2, by simp only; omega, by simp only; omega, p5⟩
      rw [show ((j + 1 : Nat) : Int) = f.at_ + (f.len + 1) by omega]
      exact this

theorem okay_len {s u t o : Int} {f : Fg} (u1 : 1 ≤ u) (h : Okay s u t o f) : 1 ≤ f.len ∧ f.len ≤ u := by
  have := Int.emod_nonneg (o + f.at_) (show u ≠ 0 by omega)
  exact ⟨h.2.2.1, by have := h.2.2.2.1; omega⟩

theorem encs_bump (l : List Fg) (f : Fg) : (encs fgE (l ++ [f])).set (l.length * 4 + 3) (.int .i64 (f.len + 1)) = encs fgE (l ++ [{ f with len := f.len + 1 }]) := by
  have hl := encs_length (enc := fgE) fgE_length l
  rw [encs_snoc, encs_snoc, ← hl, List.set_append_right _ _ (by omega)]
  rw [show (encs fgE l).length + 3 - (encs fgE l).length = 3 by omega]
  rfl

theorem Mine.bumped {w w1 : World} {e : TypeId} {g c n : Nat} {l : List Fg} {f : Fg} (h : Mine fgE 4 e w w1 (.slice (some ⟨g, 0, none⟩) n c) (l ++ [f])) :
    Mine fgE 4 e w (w1.setCell ⟨g, l.length * 4 + 3, none⟩ (.int .i64 (f.len + 1))) (.slice (some ⟨g, 0, none⟩) n c) (l ++ [{ f with len := f.len + 1 }]) := by
  have hn : n = (l ++ [f]).length := by
    rcases h.own.2 with ⟨h0, _⟩ | ⟨g', cap, cur, hv, _⟩
    · cases h0
    · injection hv
  subst hn
  have h1 := ownsRow_set (i := l.length * 4 + 3) h.own (.int .i64 (f.len + 1))
  rw [encs_bump] at h1
  refine ⟨?_, h.new, h.only.setCell (.inr (h.new g rfl)) _⟩
  have hl : (l ++ [({ f with len := f.len + 1 } : Fg)]).length = (l ++ [f]).length := by simp
  rw [hl]
  exact h1

theorem Mine.lastLen {w w1 : World} {e : TypeId} {g c n : Nat} {l : List Fg} {f : Fg} (h : Mine fgE 4 e w w1 (.slice (some ⟨g, 0, none⟩) n c) (l ++ [f])) :
    w1.cell? ⟨g, l.length * 4 + 3, none⟩ = some (.int .i64 f.len) ∧ w1.frozen? ⟨g, l.length * 4 + 3, none⟩ = false ∧ w.heap.size ≤ g := by
  have hn : n = (l ++ [f]).length := by
    rcases h.own.2 with ⟨h0, _⟩ | ⟨g', cap, cur, hv, _⟩
    · cases h0
    · injection hv
  subst hn
  have hx : (encs fgE (l ++ [f]))[l.length * 4 + 3]? = some (.int .i64 f.len) := encs_at fgE_length (l ++ [f]) l.length (by simp) 3 _ (by simp [fgE])
  have q := h.own.cells rfl _ _ hx
  rw [addr_add, Nat.zero_add] at q
  exact ⟨q, ownsRow_free h.own _, h.new g rfl⟩

set_option maxHeartbeats 2000000 in
theorem rfrags_any (s u t o l : Int) (n : Nat) (hn : l = n) (w : World) (h : Rt s u t) (o0 : 0 ≤ o) (l0 : 0 ≤ l) (h1 : o + l ≤ 1024) :
    Calls Try.prog 21 #[.agg #[.int .i64 s, .int .i64 u, .int .i64 t], .int .i64 o, .int .i64 l] w fun e w' => ∃ v, e = .returned v ∧ Mine fgE 4 43 w w' v (frs s u t o n) := by
  have R := Lib.hid h
  have HN := Lib.hid hn
  obtain ⟨s1, s2, u1, u2, t1, t2⟩ := h
  clear hn
  go_enter Try.func21, Try.ntmps21
  go_wp2_with fail
  go_loopw [7, 8] (fun v a wr => ∃ i : Nat, (i : Int) ≤ l ∧ a = .int .i64 i ∧ Mine fgE 4 43 (w.alloc (.cells #[.int .i64 s, .int .i64 u, .int .i64 t] 23)) wr v (frs s u t o i)) (fun _ a _ => (l - intOf a).toNat)
  case atStart => exact ⟨0, by omega, rfl, Mine.start _ _ _ (Only.refl _ _)⟩
  case round =>
    obtain ⟨i, i1, rfl, hm⟩ := hrel
    obtain ⟨c0, c1, c2⟩ := box3 hm.only
    by_cases hlt : (i : Int) < l
    · have e0 := Int.emod_nonneg (o + i) (show u ≠ 0 by omega)
      have e1 := Int.emod_lt_of_pos (o + i) (show 0 < u by omega)
      have hL : (frs s u t o i).length ≤ 1024 := Nat.le_trans (frs_length i) (by omega)
      have hch := frs_chain (s := s) (t := t) (o := o) u1 i
      by_cases hnew : (o + i) % u = 0 ∨ frs s u t o i = []
      · have hstep : frs s u t o (i + 1) = frs s u t o i ++ [⟨srv s u t (o + i), pos s u (o + i), i, 1⟩] := by rw [frs, if_pos hnew]
        have hfg : fgE ⟨srv s u t (o + i), pos s u (o + i), i, 1⟩ = [.int .i64 (srv s u t (o + i)), .int .i64 (pos s u (o + i)), .int .i64 i, .int .i64 1] := rfl
        replace hstep := Lib.hid hstep
        generalize hLL : frs s u t o i = L at *
        obtain ⟨A, c, rfl, _, hcl, _, _⟩ := hm.shape fgE_length
        replace hLL := Lib.hid hLL
        replace hch := Lib.hid hch
        obtain ⟨n', hn'⟩ : ∃ n', n' = L.length := ⟨_, rfl⟩
        rw [← hn'] at hm hL hcl ⊢
        have hcase : n' = 0 ∨ ∃ k, n' = k + 1 ∧ ((o + i) % u != 0) = false := by
          rcases Nat.eq_zero_or_pos n' with h0 | h0
          · exact .inl h0
          · exact .inr ⟨n' - 1, by omega, by simp; exact hnew.resolve_right (fun h => by rw [h] at hn'; simp at hn'; omega)⟩
        clear hnew
        replace hn' := Lib.hid hn'
        rcases hcase with rfl | ⟨k, rfl, q2⟩
        all_goals
          go_wp2_with fail
          refine (rwhere_any s u t (o + i) _ R.out (by omega) (by omega)).mono ?_; rintro e w3 ⟨rfl, k3⟩
          have hm3' := hm.keep k3
          obtain ⟨c0, c1, c2⟩ := box3 hm3'.only
          have b5 : Blk (w3.alloc (.cells #[.int .i64 (srv s u t (o + i)), .int .i64 (pos s u (o + i)), .int .i64 i, .int .i64 1] 43)) w3.heap.size 43 (fgE ⟨srv s u t (o + i), pos s u (o + i), i, 1⟩).toArray := by rw [hfg]; exact Blk.new _ _ _
          have hm5 := hm3'.keep ((Only.refl [] w3).alloc (.cells #[.int .i64 (srv s u t (o + i)), .int .i64 (pos s u (o + i)), .int .i64 i, .int .i64 1] 43))
          go_wp2_with (at_builtin; go_must (refine wpList_push rfl _ _ 35 rfl 43 _ 32 fgE_length (by decide) fgE_one Try.underlying35 info_fg rfl _ L.length L rfl hm5.own w3.heap.size _ _ rfl b5 (by have := hn'.out; unfold maxLen; omega) (by have := hn'.out; omega) ?_); intro vv w6 h6 g6 a6)
          have hm6 := hm5.pushed h6 g6 a6
          rw [← hstep.out] at hm6
          go_wp2_with fail
          go_roundw
          case rel => exact ⟨i + 1, by omega, by go_num, hm6⟩
          case measure => simp [intOf]; omega
      · have hstep : frs s u t o (i + 1) = bump (frs s u t o i) := by rw [frs, if_neg hnew]
        obtain ⟨r, f, hf⟩ := snoc_of (fun h => hnew (.inr h))
        have hne : ((o + i) % u != 0) = true := by simp; exact fun h => hnew (.inl h)
        rw [hf, bump_snoc] at hstep
        rw [hf] at hch hm hL
        have hok := (chain_last hch).2.1
        obtain ⟨f1, f2⟩ := okay_len u1 hok
        replace hstep := Lib.hid hstep
        replace hf := Lib.hid hf
        clear hnew hch hok
        obtain ⟨A, c, rfl, _, _, _, hform⟩ := hm.shape fgE_length
        obtain ⟨g, rfl⟩ : ∃ g, A = some ⟨g, 0, none⟩ := by
          rcases hform with h | ⟨g, c', h⟩
          · injection h with _ h _; simp at h
          · injection h with h _ _; exact ⟨g, h⟩
        clear hform
        have hrl : (r ++ [f]).length = r.length + 1 := by simp
        rw [hrl] at hm hL ⊢
        obtain ⟨k, hk⟩ : ∃ k, k = r.length := ⟨_, rfl⟩
        rw [← hk] at hm hL ⊢
        replace hm := Lib.hid hm
        replace hk := Lib.hid hk
        clear hrl
        go_wp2_with fail
        refine (rwhere_any s u t (o + i) _ R.out (by omega) (by omega)).mono ?_; rintro e w3 ⟨rfl, k3⟩
        have hm3 := hm.out.keep k3
        obtain ⟨c0, c1, c2⟩ := box3 hm3.only
        obtain ⟨x1, x2, _⟩ := hm3.lastLen
        rw [← hk.out] at x1 x2
        have hm6 := hm3.bumped
        rw [← hstep.out, ← hk.out] at hm6
        go_wp2_with fail
        go_roundw
        case rel => exact ⟨i + 1, by omega, by go_num, hm6⟩
        case measure => simp [intOf]; omega
    · have hil : i = n := by have := HN.out; omega
      subst hil
      have hfin := Mine.from ((Only.refl [] w).alloc _) hm
      replace hfin := Lib.hid hfin
      clear hm
      go_wp2
      go_ret
      exact ⟨_, rfl, hfin.out⟩

end Go.Proofs.Ytiadhmjmiaamcaa
