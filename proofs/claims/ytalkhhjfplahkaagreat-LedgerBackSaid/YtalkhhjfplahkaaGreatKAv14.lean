/- What every right program answers. -/
import Derived.Test.YtalkhhjfplahkaaGreatKSz14
import Derived.Test.YtalkhhjfplahkaaGreatKRb14
import Derived.Test.YtalkhhjfplahkaaGreatKSame14
namespace Go.Proofs.YtalkhhjfplahkaaGreat
open Go.RowKit
set_option linter.unusedVariables false

theorem sta_cells {w : World} {g : Nat} {s : Sta} {p : Sp} (h : Blk w g 29 (staA s p)) :
    w.cell? ⟨g, 0, none⟩ = some (.int .u32 s.boot) ∧ w.cell? ⟨g, 1, none⟩ = some (.int .u32 s.next) ∧ w.cell? ⟨g, 2, none⟩ = some (.slice p.tA s.tree.length p.tc) ∧ w.cell? ⟨g, 3, none⟩ = some (.slice p.oA s.opens.length p.oc) ∧ w.cell? ⟨g, 4, none⟩ = some (.slice p.lA s.locks.length p.lc) ∧ w.cell? ⟨g, 5, none⟩ = some (.slice p.wA s.works.length p.wc) ∧ w.cell? ⟨g, 6, none⟩ = some (.slice p.sA s.seats.length p.sc) :=
  ⟨h.cell 0, h.cell 1, h.cell 2, h.cell 3, h.cell 4, h.cell 5, h.cell 6⟩
/-- What Read makes of a right state's rows. -/
theorem lread_back (w : World) (A : Option Addr) (c : Nat) (s : Sta) (hf : s.Fit) (hr : RightS s) (hb : Els chE 3 w A (rowsL s)) (hc : (rowsL s).length ≤ c) :
    Calls Tryz.prog 7 #[.slice A (rowsL s).length c] w fun e w' => ∃ q, e = .returned (.tuple #[staV s q, .int .i64 0]) ∧ StM w' s q ∧ Only [] w w' := by
  have h160 := rows_few hr
  refine (read_rows w A c (rowsL s) hb hc (by omega) (row_sizes hr)).mono ?_
  rintro e w' ⟨k, hs⟩
  rcases hs with ⟨t, q, ht, rfl, hq⟩ | ⟨ht, _⟩
  · obtain rfl : t = s := by
      have := reads_back hf hr ht
      injection this
    exact ⟨q, rfl, hq, k⟩
  · have := reads_back hf hr ht
    cases this
/-- What Rows answers of a right state. -/
theorem rows_right (w : World) (s : Sta) (p : Sp) (hr : RightS s) (h : StM w s p) : Calls Tryz.prog 6 #[staV s p] w fun e w' => ∃ A c, e = .returned (.tuple #[.slice A (rowsL s).length c, .int .i64 0]) ∧ Els chE 3 w' A (rowsL s) ∧ (rowsL s).length ≤ c ∧ Only [] w w' := by
  refine (rows_state w s p h).mono ?_
  rintro e w' hs
  rcases hs with ⟨_, v, rfl, m⟩ | ⟨hn, _⟩
  · obtain ⟨A, c, rfl, hc, he, _, _⟩ := m.els chE_length
    exact ⟨A, c, rfl, he, hc, m.only⟩
  · exact absurd hr hn

theorem mk_mine {w w5 w8 : World} {vn : Value} (k : Only [] w w5) (h : ((w5.alloc (.cells #[] 42)).alloc (.cells #[.int .u32 1, .int .u32 0, .string (strOf []), .bool true, .int .u32 0, .int .u32 2, .int .u32 1, .string { data := #[97] }, .bool false, .int .u32 0] 42)).ownsRow 0 42 5 (.slice (some ⟨w5.heap.size, 0, none⟩) 0 0) 0 (encs ndE []))
    (h6 : w8.ownsRow 0 42 5 vn (0 + [rootN, kidA].length) (encs ndE ([] ++ [rootN, kidA])))
    (g6 : ((w5.alloc (.cells #[] 42)).alloc (.cells #[.int .u32 1, .int .u32 0, .string (strOf []), .bool true, .int .u32 0, .int .u32 2, .int .u32 1, .string { data := #[97] }, .bool false, .int .u32 0] 42)).grownBy w8 (Value.slice (some ⟨w5.heap.size, 0, none⟩) 0 0).ownBlock)
    (a6 : vn.ownBlock = (Value.slice (some ⟨w5.heap.size, 0, none⟩) 0 0).ownBlock ∨ vn.ownBlock = some ((w5.alloc (.cells #[] 42)).alloc (.cells #[.int .u32 1, .int .u32 0, .string (strOf []), .bool true, .int .u32 0, .int .u32 2, .int .u32 1, .string { data := #[97] }, .bool false, .int .u32 0] 42)).heap.size) : Mine ndE 5 42 w w8 vn [rootN, kidA] := by
  have hm : Mine ndE 5 42 w ((w5.alloc (.cells #[] 42)).alloc (.cells #[.int .u32 1, .int .u32 0, .string (strOf []), .bool true, .int .u32 0, .int .u32 2, .int .u32 1, .string { data := #[97] }, .bool false, .int .u32 0] 42)) (.slice (some ⟨w5.heap.size, 0, none⟩) 0 0) [] := ⟨h, fun g hg => by
    simp [Value.ownBlock] at hg
    have := k.size
    omega, (k.alloc _).alloc _⟩
  exact grown_app (l := []) hm h6 g6 a6
theorem sta_kinds {s : Sta} {p : Sp} (i : Nat) (v : Value) (h : (staA s p)[i]? = some v) : v ≠ .bool true ∧ ∀ x, v ≠ .string x := by
  match i, h with
  | 0, h => simp [staA] at h; subst h; exact ⟨by simp, by simp⟩
  | 1, h => simp [staA] at h; subst h; exact ⟨by simp, by simp⟩
  | 2, h => simp [staA] at h; subst h; exact ⟨by simp, by simp⟩
  | 3, h => simp [staA] at h; subst h; exact ⟨by simp, by simp⟩
  | 4, h => simp [staA] at h; subst h; exact ⟨by simp, by simp⟩
  | 5, h => simp [staA] at h; subst h; exact ⟨by simp, by simp⟩
  | 6, h => simp [staA] at h; subst h; exact ⟨by simp, by simp⟩
  | n + 7, h => simp [staA] at h
theorem no_ch {w : World} {A : Option Addr} {g : Nat} {s : Sta} {p : Sp} (h : Els chE 3 w A (rowsL freshS)) (hb : Blk w g 29 (staA s p)) : ∀ w', Only [g] w w' → Els chE 3 w' A (rowsL freshS) := fun w' k => h.kept k (fun a ha => by
  obtain ⟨g', o', rfl, _, hat⟩ := h.get (i := 0) (by simp [rowsL])
  injection ha with ha
  subst ha
  intro hm
  simp only [List.mem_singleton] at hm
  subst hm
  have h0 := (chs_at hat (i := 0) (by simp [rowsL])).1
  rw [hb.cell] at h0
  exact (sta_kinds _ _ h0).2 _ rfl)
theorem no_nd {w : World} {g : Nat} {s : Sta} {p q : Sp} (h : StM w freshS q) (hb : Blk w g 29 (staA s p)) : ∀ w', Only [g] w w' → StM w' freshS q := fun w' k =>
  { h with
    tree := h.tree.kept k (fun a ha => by
      obtain ⟨g', o', hg, _, hat⟩ := h.tree.get (i := 0) (by simp [freshS])
      rw [hg] at ha
      injection ha with ha
      subst ha
      intro hm
      simp only [List.mem_singleton] at hm
      subst hm
      have h0 := (nds_at hat (i := 0) (by simp [freshS])).2.2.2.1
      rw [hb.cell] at h0
      exact (sta_kinds _ _ h0).1 rfl)
    opens := .inl rfl
    locks := .inl (by have := h.lks; simpa [freshS] using this)
    lvs := by have := h.lks; have : q.lv = [] := by simpa [freshS] using this
              rw [this]; simp
    works := .inl rfl
    seats := .inl rfl }
theorem set_only (w : World) (g : Nat) (u v x : Value) (o : Obj) : Only [g] w ((((w.setCell ⟨g, 2, none⟩ u).setCell ⟨g, 1, none⟩ v).setCell ⟨g, 4, none⟩ x).alloc o) :=
  ((((Only.refl [g] w).setCell (.inl (by simp)) _).setCell (.inl (by simp)) _).setCell (.inl (by simp)) _).alloc _
theorem made_mk {w : World} {g : Nat} {A : Option Addr} {c : Nat} {g0 : Nat} (hb : Blk w g 29 (staA freshS (noSp (some ⟨g0, 0, none⟩) 1))) (hc : 2 ≤ c) (he : Els ndE 5 w A [rootN, kidA]) (hA : ∀ a, A = some a → a.block ≠ g) :
    StM ((((w.setCell ⟨g, 2, none⟩ (.slice A 2 c)).setCell ⟨g, 1, none⟩ (.int .u32 3)).setCell ⟨g, 4, none⟩ (.slice (some ⟨w.heap.size, 0, none⟩) 1 1)).alloc (.cells #[.int .u32 2, .int .u32 1, .int .u32 0, .int .u32 0, .bool false, .bool false, .slice none 0 0] 45)) mkS ⟨A, c, none, 0, some ⟨w.heap.size, 0, none⟩, 1, [⟨lockA, none, 0⟩], none, 0, none, 0⟩ ∧
    Blk ((((w.setCell ⟨g, 2, none⟩ (.slice A 2 c)).setCell ⟨g, 1, none⟩ (.int .u32 3)).setCell ⟨g, 4, none⟩ (.slice (some ⟨w.heap.size, 0, none⟩) 1 1)).alloc (.cells #[.int .u32 2, .int .u32 1, .int .u32 0, .int .u32 0, .bool false, .bool false, .slice none 0 0] 45)) g 29 (staA mkS ⟨A, c, none, 0, some ⟨w.heap.size, 0, none⟩, 1, [⟨lockA, none, 0⟩], none, 0, none, 0⟩) := by
  have hk := set_only w g (.slice A 2 c) (.int .u32 3) (.slice (some ⟨w.heap.size, 0, none⟩) 1 1) (.cells #[.int .u32 2, .int .u32 1, .int .u32 0, .int .u32 0, .bool false, .bool false, .slice none 0 0] 45)
  refine ⟨?_, (((hb.set 2 _).set 1 _).set 4 _).alloc _⟩
  have hl : Els lvE 7 ((((w.setCell ⟨g, 2, none⟩ (.slice A 2 c)).setCell ⟨g, 1, none⟩ (.int .u32 3)).setCell ⟨g, 4, none⟩ (.slice (some ⟨w.heap.size, 0, none⟩) 1 1)).alloc (.cells #[.int .u32 2, .int .u32 1, .int .u32 0, .int .u32 0, .bool false, .bool false, .slice none 0 0] 45)) (some ⟨w.heap.size, 0, none⟩) [⟨lockA, none, 0⟩] := by
    have hz : (((w.setCell ⟨g, 2, none⟩ (.slice A 2 c)).setCell ⟨g, 1, none⟩ (.int .u32 3)).setCell ⟨g, 4, none⟩ (.slice (some ⟨w.heap.size, 0, none⟩) 1 1)).heap.size = w.heap.size := by simp
    have hn := Blk.new (((w.setCell ⟨g, 2, none⟩ (.slice A 2 c)).setCell ⟨g, 1, none⟩ (.int .u32 3)).setCell ⟨g, 4, none⟩ (.slice (some ⟨w.heap.size, 0, none⟩) 1 1)) 45 (encs lvE [⟨lockA, none, 0⟩]).toArray
    have hm := Mine.lit (l := [(⟨lockA, none, 0⟩ : Lv)]) lvE_length (Nat.le_refl _) hn (by unfold maxLen; simp) ((Only.refl [] _).alloc _)
    obtain ⟨A', c', hv, _, he, _⟩ := hm.els lvE_length
    injection hv with hA _ _
    subst hA
    rw [hz] at he
    exact he
  exact { tree := he.kept hk (fun a ha => by simp; exact hA a ha), tc := hc, tl := by simp [mkS], opens := .inl rfl, oc := Nat.le_refl _, ol := by simp [mkS], lks := rfl, locks := hl, lvs := fun x hx => by
            simp only [List.mem_cons, List.not_mem_nil, or_false] at hx
            subst hx
            exact ⟨.inl rfl, Nat.le_refl _⟩
          lc := Nat.le_refl _, ll := by simp [mkS], lh := fun x hx => by
            simp only [List.mem_cons, List.not_mem_nil, or_false] at hx
            subst hx
            simp [lockA]
          works := .inl rfl, wc := Nat.le_refl _, wl := by simp [mkS], wd := by simp [mkS], seats := .inl rfl, sc := Nat.le_refl _, sl := by simp [mkS], fit := mk_fit }
theorem says_true {P : Prop} {e : Ending} (h : Says P e) (hp : P) : e = .returned (.bool true) := by
  rcases says_bool h with ⟨_, h⟩ | ⟨hn, _⟩
  · exact h
  · exact absurd hp hn
theorem lt_cell {w : World} {g i : Nat} {v : Value} (h : w.cell? ⟨g, i, none⟩ = some v) : g < w.heap.size := World.block_lt_of_cell? w _ h
theorem mk_els (w : World) : Els ndE 5 ((w.alloc (.cells #[] 42)).alloc (.cells #[.int .u32 1, .int .u32 0, .string (strOf []), .bool true, .int .u32 0, .int .u32 2, .int .u32 1, .string { data := #[97] }, .bool false, .int .u32 0] 42)) (some ⟨w.heap.size + 1, 0, none⟩) [rootN, kidA] := by
  have hm : Mine ndE 5 42 (w.alloc (.cells #[] 42)) ((w.alloc (.cells #[] 42)).alloc (.cells (encs ndE [rootN, kidA]).toArray 42)) (.slice (some ⟨(w.alloc (.cells #[] 42)).heap.size, 0, none⟩) 2 2) [rootN, kidA] := Mine.lit (l := [rootN, kidA]) ndE_length (Nat.le_refl _) (Blk.new _ _ _) (by unfold maxLen; simp) ((Only.refl [] _).alloc _)
  obtain ⟨A, c, hv, _, he, _⟩ := hm.els ndE_length
  injection hv with hA _ _
  subst hA
  rw [show (w.alloc (.cells #[] 42)).heap.size = w.heap.size + 1 by simp] at he
  exact he
theorem mk_own (w : World) : ((w.alloc (.cells #[] 42)).alloc (.cells #[.int .u32 1, .int .u32 0, .string (strOf []), .bool true, .int .u32 0, .int .u32 2, .int .u32 1, .string { data := #[97] }, .bool false, .int .u32 0] 42)).ownsRow 0 42 5 (.slice (some ⟨w.heap.size, 0, none⟩) 0 0) 0 (encs ndE []) :=
  own_empty ((Blk.new w 42 #[]).kept ((Only.refl [] _).alloc _) (by simp))
set_option maxRecDepth 100000 in
set_option maxHeartbeats 16000000 in
theorem alive_any (w : World) : Calls Tryz.prog 4 #[] w fun e w' => e = .returned (.bool true) ∧ Only [] w w' := by
  have hf := fun W => fresh_any W
  replace hf := Lib.hid hf
  go_enter Tryz.func4, Tryz.ntmps4
  go_wp2_with fail
  refine (hf.out _).mono ?_; rintro e w1 ⟨g, hg, rfl, hq, k1⟩
  have bz := Blk.new w1 29 zSA
  have ka : Only [] w1 (w1.alloc (.cells zSA 29)) := (Only.refl [] w1).alloc _
  unfold zSA at ka
  replace ka := Lib.hid ka
  replace hq := Lib.hid hq
  go_wp2_with (refine wpList_store_sta (staA freshS (noSp (some ⟨g, 0, none⟩) 1)) zSA rfl _ _ rfl w1.heap.size rfl rfl bz rfl rfl (by simp [Value.oneCell', staA, noSp]) ?_; intro w2 b2 k2; obtain ⟨c0, c1, c2, c3, c4, c5, c6⟩ := sta_cells b2; simp only [freshS, noSp, List.length_cons, List.length_nil] at c0 c1 c2 c3 c4 c5 c6)
  have k12 := ka.out.beyond k2 (Nat.le_refl _)
  have hq2 := hq.out.kept k12
  have kw2 := k1.trans k12
  have hgx : Hid (w.heap.size ≤ w1.heap.size) := k1.size
  have hgl : Hid (w1.heap.size < w2.heap.size) := b2.lt
  clear c0 c1 c2 c3 c4 c5 c6 bz k2 ka k12
  generalize w1.heap.size = gx at *
  refine (rows_right w2 freshS _ fresh_right hq2).mono ?_; rintro e w3 ⟨A3, n3, rfl, e3, hn3, k3⟩
  have hl2 : (rowsL freshS).length = 2 := rfl
  rw [hl2]
  go_wp2_with fail
  refine (lread_back w3 A3 n3 freshS fresh_fit fresh_right e3 hn3).mono ?_; rintro e w4 ⟨q4, rfl, hq4, k4⟩
  have e4 := e3.kept k4 (by simp)
  have k24 := k3.trans k4
  have b4 := b2.kept k24 (by simp)
  have hq4b := hq2.kept k24
  have kw4 := kw2.trans k24
  have hgl4 : Hid (gx < w4.heap.size) := b4.lt
  clear e3 b2 hq2 kw2 k24 k3 k4 hgl hq
  have bz := Blk.new w4 29 zSA
  have ka : Only [] w4 (w4.alloc (.cells zSA 29)) := (Only.refl [] w4).alloc _
  unfold zSA at ka
  replace ka := Lib.hid ka
  replace hq4 := Lib.hid hq4
  replace hq4b := Lib.hid hq4b
  replace b4 := Lib.hid b4
  replace e4 := Lib.hid e4
  have KT : Hid (∀ W, Only [] w4 W → W.cell? ⟨gx, 2, none⟩ = some (.slice (some ⟨g, 0, none⟩) 1 1) ∧ W.cell? ⟨g, 0, none⟩ = some (.int .u32 1) ∧ W.cell? ⟨g, 1, none⟩ = some (.int .u32 0) ∧ W.cell? ⟨g, 2, none⟩ = some (.string (strOf [])) ∧ W.cell? ⟨g, 3, none⟩ = some (.bool true) ∧ W.cell? ⟨g, 4, none⟩ = some (.int .u32 0)) := fun W kW => by
    have h1 := (b4.out.kept kW (by simp)).cell 2
    obtain ⟨g', o', hgo, _, hat⟩ := (hq4b.out.kept kW).tree.get (i := 0) (by simp [freshS])
    injection hgo with hgo
    injection hgo with hg1 ho1
    subst hg1
    subst ho1
    obtain ⟨d0, d1, d2, d3, d4⟩ := nds_at hat (i := 0) (by simp [freshS])
    exact ⟨h1, d0, d1, d2, d3, d4⟩
  go_wp2_with (first | (refine wpList_store_sta (staA freshS q4) zSA rfl _ _ rfl w4.heap.size rfl rfl bz rfl rfl (by simp [Value.oneCell', staA]) ?_; intro w5 b5 k5; have k45 := ka.out.beyond k5 (Nat.le_refl _); obtain ⟨c2, d0, d1, d2, d3, d4⟩ := KT.out _ k45; have l1 := lt_cell c2; have l2 := lt_cell d0; have hel := mk_els w5; have hown := mk_own w5; replace hel := Lib.hid hel; replace hown := Lib.hid hown; clear bz k5) | (at_builtin; go_must (refine wpList_append_any ndE_length (by decide) ndE_one rfl _ _ 23 rfl 42 _ 32 Tryz.underlying23 info_nd rfl _ 0 [] rfl hown.out (some ⟨w5.heap.size + 1, 0, none⟩) 2 [rootN, kidA] rfl hel.out (by unfold maxLen; decide) (by decide) ?_); intro vn w8 h6 g6 a6; have hm6 := mk_mine (Only.refl [] w5) hown.out h6 g6 a6; clear hown hel h6 g6 a6; have k58 := hm6.only; obtain ⟨A6, n6, rfl, hn6, e6, _, hA6⟩ := hm6.els ndE_length; have k48 := k45.trans k58; have b8 := b4.out.kept k48 (by simp); have f1 := b8.free 1; have f2 := b8.free 2; have f4 := b8.free 4; have l8 : gx < w8.heap.size := b8.lt; obtain ⟨_, c1, c2, _, c4, _, _⟩ := sta_cells b8; clear d0 d1 d2 d3 d4))
  have hgw : Hid (w4.heap.size < w5.heap.size) := b5.lt
  have e9 := no_ch e4.out b4.out
  have q9 := no_nd hq4.out b4.out
  have hW := made_mk b8 hn6 e6 (fun a ha => by have := hA6 a ha; have := hgw.out; have := hgl4.out; omega)
  have k89 := set_only w8 gx (.slice A6 2 n6) (.int .u32 3) (.slice (some ⟨w8.heap.size, 0, none⟩) 1 1) (.cells #[.int .u32 2, .int .u32 1, .int .u32 0, .int .u32 0, .bool false, .bool false, .slice none 0 0] 45)
  clear c1 c2 c4 f1 f2 f4 l1 l2 hA6 e6
  replace hW := Lib.hid hW
  replace k89 := Lib.hid k89
  generalize hw9 : ((((w8.setCell ⟨gx, 2, none⟩ (.slice A6 2 n6)).setCell ⟨gx, 1, none⟩ (.int .u32 3)).setCell ⟨gx, 4, none⟩ (.slice (some ⟨w8.heap.size, 0, none⟩) 1 1)).alloc (.cells #[.int .u32 2, .int .u32 1, .int .u32 0, .int .u32 0, .bool false, .bool false, .slice none 0 0] 45)) = w9 at *
  clear hw9
  have k49 : Only [gx] w4 w9 := (k48.more (by simp)).trans k89.out
  have kw9 : Only [] w w9 := (kw4.trans k48).then k89.out (fun i hi => .inr (by simp at hi; have := hgx.out; have := k1.size; omega))
  have E9 := e9 _ k49
  have Q9 := q9 _ k49
  have B5 := (b5.kept k58 (by simp)).kept k89.out (by have := hgl4.out; simp; omega)
  obtain ⟨hz9, b9⟩ := hW.out
  generalize (⟨A6, n6, none, 0, some ⟨w8.heap.size, 0, none⟩, 1, [⟨lockA, none, 0⟩], none, 0, none, 0⟩ : Sp) = p9 at *
  have hA3 : ∃ gl ol, A3 = some ⟨gl, ol, none⟩ := by
    obtain ⟨g', o', h, _⟩ := E9.get (i := 0) (by simp [rowsL])
    exact ⟨g', o', h⟩
  obtain ⟨gl, ol, rfl⟩ := hA3
  have KS : Hid (∀ W, Only [] w9 W → (W.rangeAt gx 0 (staA mkS p9).toList ∧ W.rangeAt w4.heap.size 0 (staA freshS q4).toList ∧ W.cell? ⟨gl, ol, none⟩ = some (.string ⟨#[66]⟩)) ∧ StM W mkS p9 ∧ StM W freshS q4) := fun W kW => by
    refine ⟨⟨Blk.range9 (b9.kept kW (by simp)), Blk.range9 (B5.kept kW (by simp)), ?_⟩, hz9.kept kW, Q9.kept kW⟩
    obtain ⟨g', o', h, _, hat⟩ := (E9.kept kW (by simp)).get (i := 0) (by simp [rowsL])
    injection h with h
    injection h with h1 h2
    subst h1
    subst h2
    have := (chs_at hat (i := 0) (by simp [rowsL])).1
    rw [Nat.zero_mul, Nat.add_zero] at this
    exact this
  have hcg := fun W A c (h : StM W freshS (noSp A c)) (kW : Only [] w9 W) => changes_any W freshS mkS (noSp A c) p9 h (KS.out W kW).2.1
  replace hcg := Lib.hid hcg
  have hsm := fun W A c (h : StM W freshS (noSp A c)) (kW : Only [] w9 W) => same_state W freshS freshS q4 (noSp A c) (KS.out W kW).2.2 h
  replace hsm := Lib.hid hsm
  have hrt := fun W (kW : Only [] w9 W) => right_state W mkS p9 (KS.out W kW).2.1
  replace hrt := Lib.hid hrt
  generalize w4.heap.size = g5 at *
  clear hW k89 k49 hz9 b9 B5 Q9 E9 e9 q9 b8 k48 k58 b5 k45 l8 hn6 hgw hgl4 KT hq4 hq4b b4 e4 ka hgx kw4 hl2 hn3 hg
  refine wp_region_held_drew (S := fun w' => w'.rangeAt gx 0 (staA mkS p9).toList) (by kernel_rfl) ((KS.out _ (Only.refl [] w9).drew).1.1) (fun hHeld => ?_)
  refine held_take 1 (staV mkS p9) rfl (by kernel_rfl) (by kernel_rfl) (by kernel_rfl) (fun _ _ _ h => h) hHeld (Or.inl ⟨by rfl, fun w' hSw => ev_load 29 _ rfl gx 0 rfl (staA mkS p9).toList _ hSw Tryz.underlying29 rfl size_sta⟩) ?_
  simp only [Act.put, List.setIfInBounds_toArray, List.set_cons_zero, List.set_cons_succ]
  refine held_step 0 rfl (by kernel_rfl) (fun K hK => ?_)
  go_simp
  refine (hf.out _).mono ?_; rintro e wa ⟨ga, _, rfl, hqa, ka⟩; replace ka := (Only.refl [] w9).trans ka.undrew
  go_wp2_with fail
  refine hK.out _ _ (KS.out _ ka).1.1 (fun hHeld => ?_)
  clear hK K
  refine held_step 2 rfl (by kernel_rfl) (fun K hK => ?_)
  go_simp
  refine (hcg.out _ _ _ hqa ka).mono ?_; rintro e wb hs
  rcases hs with ⟨_, v, rfl, m⟩ | ⟨hn, _⟩
  rotate_left
  · exact absurd ⟨fresh_right, mk_right⟩ hn
  have kb := ka.trans m.only
  obtain ⟨Ac, nc, rfl, _, _, _, _⟩ := m.els chE_length
  rw [chg_len]
  clear m
  go_wp2_with fail
  refine hK.out _ _ (KS.out _ kb).1.1 (fun hHeld => ?_)
  clear hK K
  refine held_take 3 (.tuple #[.slice Ac 3 nc, .int .i64 0]) rfl (by kernel_rfl) (by kernel_rfl) (by kernel_rfl) (fun _ _ _ h => h) hHeld (Or.inl ⟨by rfl, fun w' hSw => by (try dsimp only at hSw); (try subst hSw); go_simp⟩) ?_
  simp only [Act.put, List.setIfInBounds_toArray, List.set_cons_zero, List.set_cons_succ]
  refine held_take 4 (.slice Ac 3 nc) rfl (by kernel_rfl) (by kernel_rfl) (by kernel_rfl) (fun _ _ _ h => h) hHeld (Or.inl ⟨by rfl, fun w' hSw => by (try dsimp only at hSw); (try subst hSw); go_simp⟩) ?_
  simp only [Act.put, List.setIfInBounds_toArray, List.set_cons_zero, List.set_cons_succ]
  refine held_take 5 (.int .i64 0) rfl (by kernel_rfl) (by kernel_rfl) (by kernel_rfl) (fun _ _ _ h => h) hHeld (Or.inl ⟨by rfl, fun w' hSw => by (try dsimp only at hSw); (try subst hSw); go_simp⟩) ?_
  simp only [Act.put, List.setIfInBounds_toArray, List.set_cons_zero, List.set_cons_succ]
  refine held_take 6 (.slice Ac 3 nc) rfl (by kernel_rfl) (by kernel_rfl) (by kernel_rfl) (fun _ _ _ h => h) hHeld (Or.inl ⟨by rfl, fun w' hSw => by (try dsimp only at hSw); (try subst hSw); go_simp⟩) ?_
  simp only [Act.put, List.setIfInBounds_toArray, List.set_cons_zero, List.set_cons_succ]
  refine held_take 7 (.int .i64 0) rfl (by kernel_rfl) (by kernel_rfl) (by kernel_rfl) (fun _ _ _ h => h) hHeld (Or.inl ⟨by rfl, fun w' hSw => by (try dsimp only at hSw); (try subst hSw); go_simp⟩) ?_
  simp only [Act.put, List.setIfInBounds_toArray, List.set_cons_zero, List.set_cons_succ]
  refine wpAnyH_done (by kernel_rfl) ?_ _
  clear hHeld
  go_wp2_with fail
  refine wp_region_held_drew (S := fun w' => w'.rangeAt gx 0 (staA mkS p9).toList ∧ w'.rangeAt g5 0 (staA freshS q4).toList ∧ w'.cell? ⟨gl, ol, none⟩ = some (.string ⟨#[66]⟩)) (by kernel_rfl) ((KS.out _ kb.drew).1) (fun hHeld => ?_)
  refine held_take 0 (.int .i64 0) rfl (by kernel_rfl) (by kernel_rfl) (by kernel_rfl) (fun _ _ _ h => h) hHeld (Or.inl ⟨by rfl, fun w' hSw => by (try dsimp only at hSw); (try subst hSw); go_simp⟩) ?_
  simp only [Act.put, List.setIfInBounds_toArray, List.set_cons_zero, List.set_cons_succ]
  refine held_take 1 (.bool true) rfl (by kernel_rfl) (by kernel_rfl) (by kernel_rfl) (fun _ _ _ h => h) hHeld (Or.inl ⟨by rfl, fun w' hSw => by (try dsimp only at hSw); (try subst hSw); go_simp⟩) ?_
  simp only [Act.put, List.setIfInBounds_toArray, List.set_cons_zero, List.set_cons_succ]
  refine held_take 2 (.bool true) rfl (by kernel_rfl) (by kernel_rfl) (by kernel_rfl) (fun _ _ _ h => h) hHeld (Or.inl ⟨by rfl, fun w' hSw => by (try dsimp only at hSw); (try subst hSw); go_simp⟩) ?_
  simp only [Act.put, List.setIfInBounds_toArray, List.set_cons_zero, List.set_cons_succ]
  refine held_take 3 (.slice (some ⟨gl, ol, none⟩) 2 n3) rfl (by kernel_rfl) (by kernel_rfl) (by kernel_rfl) (fun _ _ _ h => h) hHeld (Or.inl ⟨by rfl, fun w' hSw => by (try dsimp only at hSw); (try subst hSw); go_simp⟩) ?_
  simp only [Act.put, List.setIfInBounds_toArray, List.set_cons_zero, List.set_cons_succ]
  refine held_take 4 (.int .i64 2) rfl (by kernel_rfl) (by kernel_rfl) (by kernel_rfl) (fun _ _ _ h => h) hHeld (Or.inl ⟨by rfl, fun w' hSw => by (try dsimp only at hSw); (try subst hSw); go_simp⟩) ?_
  simp only [Act.put, List.setIfInBounds_toArray, List.set_cons_zero, List.set_cons_succ]
  refine held_take 5 (.bool true) rfl (by kernel_rfl) (by kernel_rfl) (by kernel_rfl) (fun _ _ _ h => h) hHeld (Or.inl ⟨by rfl, fun w' hSw => by (try dsimp only at hSw); (try subst hSw); go_simp⟩) ?_
  simp only [Act.put, List.setIfInBounds_toArray, List.set_cons_zero, List.set_cons_succ]
  refine held_take 6 (.bool true) rfl (by kernel_rfl) (by kernel_rfl) (by kernel_rfl) (fun _ _ _ h => h) hHeld (Or.inl ⟨by rfl, fun w' hSw => by (try dsimp only at hSw); (try subst hSw); go_simp⟩) ?_
  simp only [Act.put, List.setIfInBounds_toArray, List.set_cons_zero, List.set_cons_succ]
  refine held_take 7 (.bool true) rfl (by kernel_rfl) (by kernel_rfl) (by kernel_rfl) (fun _ _ _ h => h) hHeld (Or.inl ⟨by rfl, fun w' hSw => by (try dsimp only at hSw); (try subst hSw); go_simp⟩) ?_
  simp only [Act.put, List.setIfInBounds_toArray, List.set_cons_zero, List.set_cons_succ]
  refine held_take 8 (.slice (some ⟨gl, ol, none⟩) 2 n3) rfl (by kernel_rfl) (by kernel_rfl) (by kernel_rfl) (fun _ _ _ h => h) hHeld (Or.inl ⟨by rfl, fun w' hSw => by (try dsimp only at hSw); (try subst hSw); go_simp⟩) ?_
  simp only [Act.put, List.setIfInBounds_toArray, List.set_cons_zero, List.set_cons_succ]
  refine held_take 9 (.pointer (some ⟨gl, ol, none⟩)) rfl (by kernel_rfl) (by kernel_rfl) (by kernel_rfl) (fun _ _ _ h => h) hHeld (Or.inl ⟨by rfl, fun w' hSw => by (try dsimp only at hSw); (try subst hSw); go_simp⟩) ?_
  simp only [Act.put, List.setIfInBounds_toArray, List.set_cons_zero, List.set_cons_succ]
  refine held_take 10 (.pointer (some ⟨gl, ol, none⟩)) rfl (by kernel_rfl) (by kernel_rfl) (by kernel_rfl) (fun _ _ _ h => h) hHeld (Or.inl ⟨by rfl, fun w' hSw => by (try dsimp only at hSw); (try subst hSw); go_simp⟩) ?_
  simp only [Act.put, List.setIfInBounds_toArray, List.set_cons_zero, List.set_cons_succ]
  refine held_take 11 (.string ⟨#[66]⟩) rfl (by kernel_rfl) (by kernel_rfl) (by kernel_rfl) (fun _ _ _ h => h) hHeld (Or.inl ⟨by rfl, fun w' hSw => by (try dsimp only at hSw); (try subst hSw); go_simp⟩) ?_
  simp only [Act.put, List.setIfInBounds_toArray, List.set_cons_zero, List.set_cons_succ]
  refine held_take 12 (.bool true) rfl (by kernel_rfl) (by kernel_rfl) (by kernel_rfl) (fun _ _ _ h => h) hHeld (Or.inl ⟨by rfl, fun w' hSw => by (try dsimp only at hSw); (try subst hSw); go_simp⟩) ?_
  simp only [Act.put, List.setIfInBounds_toArray, List.set_cons_zero, List.set_cons_succ]
  refine held_take 13 (.bool true) rfl (by kernel_rfl) (by kernel_rfl) (by kernel_rfl) (fun _ _ _ h => h) hHeld (Or.inl ⟨by rfl, fun w' hSw => by (try dsimp only at hSw); (try subst hSw); go_simp⟩) ?_
  simp only [Act.put, List.setIfInBounds_toArray, List.set_cons_zero, List.set_cons_succ]
  refine held_take 14 (.bool true) rfl (by kernel_rfl) (by kernel_rfl) (by kernel_rfl) (fun _ _ _ h => h) hHeld (Or.inl ⟨by rfl, fun w' hSw => by (try dsimp only at hSw); (try subst hSw); go_simp⟩) ?_
  simp only [Act.put, List.setIfInBounds_toArray, List.set_cons_zero, List.set_cons_succ]
  refine held_take 15 (.int .i64 0) rfl (by kernel_rfl) (by kernel_rfl) (by kernel_rfl) (fun _ _ _ h => h) hHeld (Or.inl ⟨by rfl, fun w' hSw => by (try dsimp only at hSw); (try subst hSw); go_simp⟩) ?_
  simp only [Act.put, List.setIfInBounds_toArray, List.set_cons_zero, List.set_cons_succ]
  refine held_take 16 (.bool true) rfl (by kernel_rfl) (by kernel_rfl) (by kernel_rfl) (fun _ _ _ h => h) hHeld (Or.inl ⟨by rfl, fun w' hSw => by (try dsimp only at hSw); (try subst hSw); go_simp⟩) ?_
  simp only [Act.put, List.setIfInBounds_toArray, List.set_cons_zero, List.set_cons_succ]
  refine held_take 17 (.bool true) rfl (by kernel_rfl) (by kernel_rfl) (by kernel_rfl) (fun _ _ _ h => h) hHeld (Or.inl ⟨by rfl, fun w' hSw => by (try dsimp only at hSw); (try subst hSw); go_simp⟩) ?_
  simp only [Act.put, List.setIfInBounds_toArray, List.set_cons_zero, List.set_cons_succ]
  refine held_take 18 (.bool true) rfl (by kernel_rfl) (by kernel_rfl) (by kernel_rfl) (fun _ _ _ h => h) hHeld (Or.inl ⟨by rfl, fun w' hSw => by (try dsimp only at hSw); (try subst hSw); go_simp⟩) ?_
  simp only [Act.put, List.setIfInBounds_toArray, List.set_cons_zero, List.set_cons_succ]
  refine held_take 19 (staV freshS q4) rfl (by kernel_rfl) (by kernel_rfl) (by kernel_rfl) (fun _ _ _ h => h) hHeld (Or.inl ⟨by rfl, fun w' hSw => ev_load 29 _ rfl g5 0 rfl (staA freshS q4).toList _ hSw.2.1 Tryz.underlying29 rfl size_sta⟩) ?_
  simp only [Act.put, List.setIfInBounds_toArray, List.set_cons_zero, List.set_cons_succ]
  refine held_step 20 rfl (by kernel_rfl) (fun K hK => ?_)
  go_simp
  refine (hf.out _).mono ?_; rintro e wc ⟨gc, _, rfl, hqc, kc⟩; replace kc := kb.trans kc.undrew
  go_wp2_with fail
  refine hK.out _ _ (KS.out _ kc).1 (fun hHeld => ?_)
  clear hK K
  refine held_step 21 rfl (by kernel_rfl) (fun K hK => ?_)
  go_simp
  refine (hsm.out _ _ _ hqc kc).mono ?_; rintro e wd ⟨hs, kd⟩; replace kd := kc.trans kd
  obtain rfl := says_true hs trivial
  go_wp2_with fail
  refine hK.out _ _ (KS.out _ kd).1 (fun hHeld => ?_)
  clear hK K
  refine held_take 22 (.bool true) rfl (by kernel_rfl) (by kernel_rfl) (by kernel_rfl) (fun _ _ _ h => h) hHeld (Or.inl ⟨by rfl, fun w' hSw => by (try dsimp only at hSw); (try subst hSw); go_simp⟩) ?_
  simp only [Act.put, List.setIfInBounds_toArray, List.set_cons_zero, List.set_cons_succ]
  refine held_take 23 (.bool true) rfl (by kernel_rfl) (by kernel_rfl) (by kernel_rfl) (fun _ _ _ h => h) hHeld (Or.inl ⟨by rfl, fun w' hSw => by (try dsimp only at hSw); (try subst hSw); go_simp⟩) ?_
  simp only [Act.put, List.setIfInBounds_toArray, List.set_cons_zero, List.set_cons_succ]
  refine held_take 24 (.int .i64 0) rfl (by kernel_rfl) (by kernel_rfl) (by kernel_rfl) (fun _ _ _ h => h) hHeld (Or.inl ⟨by rfl, fun w' hSw => by (try dsimp only at hSw); (try subst hSw); go_simp⟩) ?_
  simp only [Act.put, List.setIfInBounds_toArray, List.set_cons_zero, List.set_cons_succ]
  refine held_take 25 (.bool true) rfl (by kernel_rfl) (by kernel_rfl) (by kernel_rfl) (fun _ _ _ h => h) hHeld (Or.inl ⟨by rfl, fun w' hSw => by (try dsimp only at hSw); (try subst hSw); go_simp⟩) ?_
  simp only [Act.put, List.setIfInBounds_toArray, List.set_cons_zero, List.set_cons_succ]
  refine held_take 26 (.bool true) rfl (by kernel_rfl) (by kernel_rfl) (by kernel_rfl) (fun _ _ _ h => h) hHeld (Or.inl ⟨by rfl, fun w' hSw => by (try dsimp only at hSw); (try subst hSw); go_simp⟩) ?_
  simp only [Act.put, List.setIfInBounds_toArray, List.set_cons_zero, List.set_cons_succ]
  refine held_take 27 (.bool true) rfl (by kernel_rfl) (by kernel_rfl) (by kernel_rfl) (fun _ _ _ h => h) hHeld (Or.inl ⟨by rfl, fun w' hSw => by (try dsimp only at hSw); (try subst hSw); go_simp⟩) ?_
  simp only [Act.put, List.setIfInBounds_toArray, List.set_cons_zero, List.set_cons_succ]
  refine held_take 28 (.slice Ac 3 nc) rfl (by kernel_rfl) (by kernel_rfl) (by kernel_rfl) (fun _ _ _ h => h) hHeld (Or.inl ⟨by rfl, fun w' hSw => by (try dsimp only at hSw); (try subst hSw); go_simp⟩) ?_
  simp only [Act.put, List.setIfInBounds_toArray, List.set_cons_zero, List.set_cons_succ]
  refine held_take 29 (.int .i64 3) rfl (by kernel_rfl) (by kernel_rfl) (by kernel_rfl) (fun _ _ _ h => h) hHeld (Or.inl ⟨by rfl, fun w' hSw => by (try dsimp only at hSw); (try subst hSw); go_simp⟩) ?_
  simp only [Act.put, List.setIfInBounds_toArray, List.set_cons_zero, List.set_cons_succ]
  refine held_take 30 (.bool true) rfl (by kernel_rfl) (by kernel_rfl) (by kernel_rfl) (fun _ _ _ h => h) hHeld (Or.inl ⟨by rfl, fun w' hSw => by (try dsimp only at hSw); (try subst hSw); go_simp⟩) ?_
  simp only [Act.put, List.setIfInBounds_toArray, List.set_cons_zero, List.set_cons_succ]
  refine held_take 31 (.bool true) rfl (by kernel_rfl) (by kernel_rfl) (by kernel_rfl) (fun _ _ _ h => h) hHeld (Or.inl ⟨by rfl, fun w' hSw => by (try dsimp only at hSw); (try subst hSw); go_simp⟩) ?_
  simp only [Act.put, List.setIfInBounds_toArray, List.set_cons_zero, List.set_cons_succ]
  refine held_take 32 (.bool true) rfl (by kernel_rfl) (by kernel_rfl) (by kernel_rfl) (fun _ _ _ h => h) hHeld (Or.inl ⟨by rfl, fun w' hSw => by (try dsimp only at hSw); (try subst hSw); go_simp⟩) ?_
  simp only [Act.put, List.setIfInBounds_toArray, List.set_cons_zero, List.set_cons_succ]
  refine held_take 33 (staV mkS p9) rfl (by kernel_rfl) (by kernel_rfl) (by kernel_rfl) (fun _ _ _ h => h) hHeld (Or.inl ⟨by rfl, fun w' hSw => ev_load 29 _ rfl gx 0 rfl (staA mkS p9).toList _ hSw.1 Tryz.underlying29 rfl size_sta⟩) ?_
  simp only [Act.put, List.setIfInBounds_toArray, List.set_cons_zero, List.set_cons_succ]
  refine held_step 34 rfl (by kernel_rfl) (fun K hK => ?_)
  go_simp
  refine (hrt.out _ kd).mono ?_; rintro e we ⟨hs, ke⟩; replace ke := kd.trans ke
  obtain rfl := says_true hs mk_right
  go_wp2_with fail
  refine hK.out _ _ (KS.out _ ke).1 (fun hHeld => ?_)
  clear hK K
  refine held_take 35 (.bool true) rfl (by kernel_rfl) (by kernel_rfl) (by kernel_rfl) (fun _ _ _ h => h) hHeld (Or.inl ⟨by rfl, fun w' hSw => by (try dsimp only at hSw); (try subst hSw); go_simp⟩) ?_
  simp only [Act.put, List.setIfInBounds_toArray, List.set_cons_zero, List.set_cons_succ]
  refine held_take 36 (.bool true) rfl (by kernel_rfl) (by kernel_rfl) (by kernel_rfl) (fun _ _ _ h => h) hHeld (Or.inl ⟨by rfl, fun w' hSw => by (try dsimp only at hSw); (try subst hSw); go_simp⟩) ?_
  simp only [Act.put, List.setIfInBounds_toArray, List.set_cons_zero]
  refine wpAnyH_done (by kernel_rfl) ?_ _
  clear hHeld
  go_wp2
  go_ret
  exact ⟨rfl, kw9.trans ke⟩

end Go.Proofs.YtalkhhjfplahkaaGreat
