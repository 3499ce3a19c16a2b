/- Without, Turn, Ask: the document's. -/
import Derived.Test.YtnmmdnecojgccaaRet12
namespace Go.Proofs.Ytnmmdnecojgccaa
open Go.RowKit
set_option linter.unusedVariables false

theorem ins_after (a : List Hol) (x y : Hol) (h : x.client < y.client) : insH (a ++ [y]) x = insH a x ++ [y] := by
  have hp : posC (a ++ [y]) x.client = posC a x.client := by
    unfold posC
    rw [List.countP_append]
    simp
    omega
  unfold insH
  rw [hp, List.take_append_of_le_length (posC_le _ _), List.drop_append_of_le_length (posC_le _ _)]
  simp
theorem ins_end {a : List Hol} {x : Hol} (h : ∀ y ∈ a, y.client < x.client) : insH a x = a ++ [x] := by
  have hp : posC a x.client = a.length := by
    unfold posC
    rw [List.countP_eq_length]
    simpa using h
  unfold insH
  rw [hp, List.take_length, List.drop_length]
/-- What is answered: a lock whose holders lie somewhere, and two numbers. -/
def RAns (w w' : World) (e : Ending) (R : Lk × Int × Int) : Prop := ∃ A c, e = .returned (.tuple #[lkV R.1 (.slice A R.1.hs.length c), .int .i64 R.2.1, .int .i64 R.2.2]) ∧ Els holE 2 w' A R.1.hs ∧ Only [] w w'
theorem Hs.els {w w1 : World} {A : Option Addr} {c : Nat} {l : List Hol} (h : Hs [] w w1 (.slice A l.length c) l) : Els holE 2 w1 A l := by
  obtain ⟨B, d, hB, hel, _⟩ := h.shape
  injection hB with a _ _
  rw [a]
  exact hel
theorem join_3 {L : Lk} {c m : Int} (h : L.fenced = false) : joinL L c m = (L, 3) := by unfold joinL; rw [if_pos h]
theorem join_t {L : Lk} {c m : Int} (h : L.fenced = true) (h2 : ¬ mayJ L.used m) : joinL L c m = (turnL L, 3) := by unfold joinL; rw [if_neg (by simp [h]), if_pos h2]
theorem join_2 {L : Lk} {c m : Int} (h : L.fenced = true) (h2 : mayJ L.used m) (h3 : 4 ≤ L.hs.length) : joinL L c m = (L, 2) := by unfold joinL; rw [if_neg (by simp [h]), if_neg (fun k => k h2), if_pos h3]
theorem join_1 {L : Lk} {c m : Int} (h : L.fenced = true) (h2 : mayJ L.used m) (h3 : ¬ 4 ≤ L.hs.length) : joinL L c m = (⟨L.file, L.epoch, maxI L.used m, L.cut, L.fenced, L.gone, insH L.hs ⟨c, m⟩⟩, 1) := by unfold joinL; rw [if_neg (by simp [h]), if_neg (fun k => k h2), if_neg h3]
theorem take_end {l : List Hol} {k : Nat} {c : Int} {y : Hol} (hr : l.Pairwise cliLt) (hy : l[k]? = some y) (h : ∃ z ∈ l.take k, c < z.client) : c < y.client := by
  obtain ⟨z, hz, hc⟩ := h
  obtain ⟨j, hj, rfl⟩ := List.getElem_of_mem hz
  have hj' := hj
  rw [List.length_take] at hj'
  obtain ⟨hk, rfl⟩ := List.getElem?_eq_some_iff.1 hy
  have := (List.pairwise_iff_getElem.1 hr) j k (by omega) hk (by omega)
  rw [List.getElem_take] at hc
  unfold cliLt at this
  omega
theorem ne_of_new {w w1 : World} {v : Value} {l : List Hol} {q : Nat} (h : Hs [] w w1 v l) (hq : q < w.heap.size) : v.ownBlock ≠ some q := fun e => by
  rcases h.new q e with a | a
  · cases a
  · omega
theorem wrap_len (n : Nat) (h : n ≤ 1048576) : IntKind.i64.wrap ((n : Int) + 1) = (n : Int) + 1 := wrap_pos n h

set_option maxRecDepth 100000 in
set_option maxHeartbeats 4000000 in
theorem rwithout_any (w : World) (L : Lk) (A : Option Addr) (c : Nat) (cl : Int) (hb : Els holE 2 w A L.hs) (hl : L.hs.length ≤ 1000) :
    Calls Try.prog 28 #[lkV L (.slice A L.hs.length c), .int .u32 cl] w fun e w' => LkAns [] w w' e (withL L (withoutH L.hs cl)) := by
  obtain ⟨f, ep, u, ct, fe, go, l⟩ := L
  have T := two_new w f ep u ct fe go l (.slice A l.length c)
  generalize hwb : ((w.alloc (.cells #[.int .u32 f, .int .u32 ep, .int .u32 u, .int .u32 ct, .bool fe, .bool go, .slice A l.length c] 25)).alloc (.cells #[.int .u32 0, .int .u32 0, .int .u32 0, .int .u32 0, .bool false, .bool false, .slice none 0 0] 25)) = wb at T
  replace hwb := Lib.hid hwb
  obtain ⟨k2, b2, z2, hsz⟩ := T
  simp only at hb hl
  simp only [lkV, withL]
  replace hsz := Lib.hid hsz
  replace k2 := Lib.hid k2
  obtain ⟨L2, hL2⟩ : ∃ L2, L2 = withoutH l cl := ⟨_, rfl⟩
  rw [← hL2]
  replace hL2 := Lib.hid hL2
  go_enter Try.func28, Try.ntmps28
  go_wp2_with fail
  rw [hwb.out]
  go_loopw [5, 6] (fun v a wr => ∃ n : Nat, n ≤ l.length ∧ a = .int .i64 n ∧ Hs [] wb wr v (withoutH (l.take n) cl)) (fun _ a _ => l.length - (intOf a).toNat)
  case atStart => exact ⟨0, Nat.zero_le _, rfl, Hs.start (Only.refl _ _)⟩
  case round =>
    obtain ⟨n, hn, rfl, hm⟩ := hrel
    have hk := k2.out.trans hm.only
    obtain ⟨LL, hLL⟩ : ∃ LL, withoutH (l.take n) cl = LL := ⟨_, rfl⟩
    rw [hLL] at hm
    have hLn : LL.length ≤ 1000 := by rw [← hLL]; exact Nat.le_trans (without_sub _ _).length_le (by rw [List.length_take]; omega)
    replace hLL := Lib.hid hLL
    have b3 := b2.kept hm.only (by simp)
    obtain ⟨c0, c1, c2, c3, c4, c5, c6⟩ := b3.at (Only.refl [] _) (by simp)
    by_cases hlt : n < l.length
    rotate_left
    · obtain rfl : L2 = LL := by rw [hL2.out, ← hLL.out, List.take_of_length_le (by omega)]
      obtain ⟨B, d, rfl, _⟩ := hm.shape
      have z3 := Blk.kept z2 hm.only (by simp)
      have hN : ∀ g, (Value.slice B L2.length d).ownBlock = some g → wb.heap.size ≤ g := fun g hg => (hm.new g hg).resolve_left (by simp)
      have ne0 : (Value.slice B L2.length d).ownBlock ≠ some w.heap.size := fun h => by have := hN _ h; have := hsz.out; omega
      have ne1 : (Value.slice B L2.length d).ownBlock ≠ some (w.heap.size + 1) := fun h => by have := hN _ h; have := hsz.out; omega
      have k6 : Only [w.heap.size] wr (wr.setCell ⟨w.heap.size, 6, none⟩ (.slice B L2.length d)) := (Only.refl _ _).setCell (.inl (by simp)) _
      have hm6 := (Hs.from k2.out hm).far k6 (Nat.le_refl _) ne0
      have z6 := Blk.kept z3 k6 (by simp)
      have f6 := Blk.free b3 6
      replace hm6 := Lib.hid hm6
      replace ne1 := Lib.hid ne1
      clear hm hN ne0 k6 z3 b3 hLL hL2
      go_wp2_with (refine wpList_store_lk ⟨f, ep, u, ct, fe, go, L2⟩ noL (.slice B L2.length d) _ rfl rfl _ _ rfl (w.heap.size + 1) rfl rfl z6 ?_; intro w7 b7 k7)
      refine bodyPost_ret (v := lkV ⟨f, ep, u, ct, fe, go, L2⟩ (.slice B L2.length d)) (results_lk rfl _ _ (w.heap.size + 1) rfl _ _ b7) rfl ?_
      exact ⟨_, rfl, hm6.out.far k7 (by omega) ne1.out⟩
    obtain ⟨g, o, rfl, hg, hat⟩ := hb.get hlt
    obtain ⟨e0, e1⟩ := hols_at (hat.kept hk (by simp)) hlt
    have hx : l[n]? = some l[n] := List.getElem?_eq_getElem hlt
    generalize l[n] = x at *
    obtain ⟨x0, x1⟩ := x
    simp only at e0 e1
    replace hx := Lib.hid hx
    clear hat b3
    by_cases hc : x0 = cl
    · have d1 : (x0 != cl) = false := by simpa using hc
      have hnx : withoutH (l.take (n + 1)) cl = LL := by rw [get_snoc hx.out, without_snoc, hLL.out, if_neg (by simp only [noC, decide_eq_true_eq]; omega)]; simp
      replace hc := Lib.hid hc
      replace hnx := Lib.hid hnx
      go_wp2_with fail
      go_roundw
      case rel => exact ⟨n + 1, by omega, by go_num, by rw [hnx.out]; exact hm⟩
      case measure => simp [intOf]; omega
    · have d1 : (x0 != cl) = true := by simpa using hc
      have hnx : withoutH (l.take (n + 1)) cl = LL ++ [⟨x0, x1⟩] := by rw [get_snoc hx.out, without_snoc, hLL.out, if_pos (by simp only [noC, decide_eq_true_eq]; omega)]
      replace hc := Lib.hid hc
      replace hnx := Lib.hid hnx
      have hm5 := hm.kept ((Only.refl [] wr).alloc (.cells #[.int .u32 x0, .int .u32 x1] 47))
      have b5 : Blk (wr.alloc (.cells #[.int .u32 x0, .int .u32 x1] 47)) wr.heap.size 47 (holE ⟨x0, x1⟩).toArray := Blk.new _ _ _
      go_wp2_with (at_builtin; go_must (refine wpList_push rfl _ _ 23 rfl 47 _ 8 holE_length (by decide) holE_one Try.underlying23 info_hol rfl _ LL.length LL rfl hm5.own wr.heap.size ⟨x0, x1⟩ _ rfl b5 (by unfold maxLen; omega) (by omega) ?_); intro vv w6 h6 g6 a6)
      have hm6 := hm5.pushed h6 g6 a6
      replace hm6 := Lib.hid hm6
      clear h6 g6 a6 hm5 b5
      go_wp2_with fail
      go_roundw
      case rel => exact ⟨n + 1, by omega, by go_num, by rw [hnx.out]; exact hm6.out⟩
      case measure => simp [intOf]; omega

set_option maxRecDepth 100000 in
set_option maxHeartbeats 2000000 in
theorem rturn_any (w : World) (L : Lk) (A : Option Addr) (c : Nat) (he : 0 ≤ L.epoch ∧ L.epoch ≤ 4294967295) :
    Calls Try.prog 29 #[lkV L (.slice A L.hs.length c)] w fun e w' => e = .returned (lkV (turnL L) (turnV L (.slice A L.hs.length c))) ∧ Only [] w w' := by
  obtain ⟨f, ep, u, ct, fe, go, l⟩ := L
  simp only at he
  have T := two_new w f ep u ct fe go l (.slice A l.length c)
  obtain ⟨k2, b2, z2, hsz⟩ := T
  replace hsz := Lib.hid hsz
  by_cases hm : ep = 4294967295
  · rw [show turnL ⟨f, ep, u, ct, fe, go, l⟩ = ⟨f, ep, u, ct, fe, go, l⟩ from if_pos hm, show turnV ⟨f, ep, u, ct, fe, go, l⟩ (.slice A l.length c) = .slice A l.length c from if_pos hm]
    simp only [lkV]
    have d1 : (ep == 4294967295) = true := by simpa using hm
    replace hm := Lib.hid hm
    clear b2
    go_enter Try.func29, Try.ntmps29
    go_wp2_with (refine wpList_store_lk ⟨f, ep, u, ct, fe, go, l⟩ noL (.slice A l.length c) _ rfl rfl _ _ rfl (w.heap.size + 1) rfl rfl z2 ?_; intro w5 b5 k5)
    refine bodyPost_ret (v := lkV ⟨f, ep, u, ct, fe, go, l⟩ (.slice A l.length c)) (results_lk rfl _ _ (w.heap.size + 1) rfl _ _ b5) rfl ?_
    exact ⟨rfl, k2.far k5 (by omega)⟩
  · rw [show turnL ⟨f, ep, u, ct, fe, go, l⟩ = ⟨f, ep + 1, 0, ct, false, go, []⟩ from if_neg hm, show turnV ⟨f, ep, u, ct, fe, go, l⟩ (.slice A l.length c) = .slice none 0 0 from if_neg hm]
    simp only [lkV]
    have d1 : (ep == 4294967295) = false := by simpa using hm
    have hw : IntKind.u32.wrap (ep + 1) = ep + 1 := by rw [IntKind.wrap_u32]; omega
    replace hm := Lib.hid hm
    clear b2
    go_enter Try.func29, Try.ntmps29
    go_wp2_with (refine wpList_store_lk ⟨f, ep + 1, 0, ct, false, go, []⟩ noL (.slice none 0 0) _ rfl rfl _ _ rfl (w.heap.size + 1) rfl rfl z2 ?_; intro w5 b5 k5)
    refine bodyPost_ret (v := lkV ⟨f, ep + 1, 0, ct, false, go, []⟩ (.slice none 0 0)) (results_lk rfl _ _ (w.heap.size + 1) rfl _ _ b5) rfl ?_
    exact ⟨rfl, k2.far k5 (by omega)⟩

set_option maxRecDepth 100000 in
set_option maxHeartbeats 8000000 in
theorem rask_any (w : World) (L : Lk) (A : Option Addr) (c : Nat) (cl m : Int) (hb : Els holE 2 w A L.hs) (hl : L.hs.length ≤ 9223372036854775807) (he : 0 ≤ L.epoch ∧ L.epoch ≤ 4294967295) :
    Calls Try.prog 18 #[lkV L (.slice A L.hs.length c), .int .u32 cl, .int .u32 m] w fun e w' => RAns w w' e (askL L cl m) := by
  have hR := fun W (k : Only [] w W) => rright_any W L A c (hb.kept k (by simp)) hl
  have hT := fun W (k : Only [] w W) (r : RightP L) => rothers_any W L A c cl m (hb.kept k (by simp)) (by have := r.len; omega)
  have hD := fun W (k : Only [] w W) (r : RightP L) => rmode_of W L A c cl (hb.kept k (by simp)) (by have := r.len; omega)
  have hW := fun W (k : Only [] w W) (r : RightP L) => rwithout_any W L A c cl (hb.kept k (by simp)) (by have := r.len; omega)
  have hU := fun W B d => rturn_any W (withL L (withoutH L.hs cl)) B d he
  obtain ⟨R, hRR⟩ : ∃ R, R = askL L cl m := ⟨_, rfl⟩
  rw [← hRR]
  have r1 := ask_arg (l := L) (c := cl) (m := m)
  have r4 := ask_gone (l := L) (c := cl) (m := m)
  have r2 := ask_conf (l := L) (c := cl) (m := m)
  have rg := ask_has (l := L) (c := cl) (m := m)
  have rj := ask_join (l := L) (c := cl) (m := m)
  rw [← hRR] at r1 r4 r2 rg rj
  have hole : (othersL L.hs cl m).length ≤ L.hs.length := others_le _ _ _
  have hlen : RightP L → L.hs.length ≤ 4 := fun h => h.len
  have hri9 : RightP L → (withoutH L.hs cl).Pairwise cliLt := fun h => h.rise.sublist (without_sub _ _)
  have hle9 : (withoutH L.hs cl).length ≤ L.hs.length := (without_sub _ _).length_le
  have hno9 : findC (withoutH L.hs cl) cl = none := without_no
  clear hRR
  obtain ⟨f, ep, u, ct, fe, go, l⟩ := L
  have T := two_new w f ep u ct fe go l (.slice A l.length c)
  generalize hwb : ((w.alloc (.cells #[.int .u32 f, .int .u32 ep, .int .u32 u, .int .u32 ct, .bool fe, .bool go, .slice A l.length c] 25)).alloc (.cells #[.int .u32 0, .int .u32 0, .int .u32 0, .int .u32 0, .bool false, .bool false, .slice none 0 0] 25)) = wb at T
  replace hwb := Lib.hid hwb
  obtain ⟨k2, b2, z2, hsz⟩ := T
  simp only at hb hl he r1 r4 r2 rg rj hole hlen hri9 hle9 hno9
  simp only [lkV] at hR hT hD hW ⊢
  obtain ⟨l9, hl9⟩ : ∃ l9, l9 = withoutH l cl := ⟨_, rfl⟩
  rw [← hl9] at hW hU rj hri9 hle9 hno9
  simp only [withL] at hW hU rj
  simp only [lkV] at hU
  replace hl9 := Lib.hid hl9
  replace hR := Lib.hid hR
  replace hT := Lib.hid hT
  replace hD := Lib.hid hD
  replace hW := Lib.hid hW
  replace hU := Lib.hid hU
  replace r1 := Lib.hid r1
  replace r4 := Lib.hid r4
  replace r2 := Lib.hid r2
  replace rg := Lib.hid rg
  replace rj := Lib.hid rj
  replace hsz := Lib.hid hsz
  have q0 := Lib.hid (show w.heap.size < wb.heap.size by have := hsz.out; omega)
  have q1 := Lib.hid (show w.heap.size + 1 < wb.heap.size by have := hsz.out; omega)
  by_cases hr : RightP ⟨f, ep, u, ct, fe, go, l⟩
  rotate_left
  · obtain rfl := r1.out (fun h => hr h.1)
    rw [decide_eq_false hr] at hR
    replace hr := Lib.hid hr
    clear hole hT hD hW hU r4 r2 rg rj hlen hri9 hle9 hno9
    go_enter Try.func18, Try.ntmps18
    go_wp2_with fail
    rw [hwb.out]
    refine (hR.out _ k2).mono ?_; rintro e w3 ⟨rfl, k3⟩
    have z3 := z2.kept k3 (by simp)
    go_wp2_with (refine wpList_store_lk noL noL (.slice none 0 0) _ rfl rfl _ _ rfl (w.heap.size + 1) rfl rfl z3 ?_; intro w5 b5 k5)
    refine bodyPost_ret (v := .tuple #[lkV noL (.slice none 0 0), .int .i64 0, .int .i64 1]) (results_lk2 rfl _ _ (w.heap.size + 1) rfl _ _ b5 _ _ rfl rfl) rfl ?_
    exact ⟨none, 0, rfl, .inl rfl, (k2.trans k3).far k5 (by omega)⟩
  rw [decide_eq_true hr] at hR
  have hln := hlen hr
  have hri := hri9 hr
  clear hlen hri9
  have hl9n : l9.length ≤ 4 := by omega
  replace hri := Lib.hid hri
  replace hno9 := Lib.hid hno9
  replace hr := Lib.hid hr
  have hmm : m = 1 ∨ (m ≠ 1 ∧ m = 2) ∨ (m ≠ 1 ∧ m ≠ 2) := by omega
  rcases hmm with hmm | hmm | hmm
  rotate_left 2
  · obtain rfl := r1.out (fun h => by have := h.2; omega)
    have d1 : (m != 1) = true := by simpa using hmm.1
    have d2 : (m != 2) = true := by simpa using hmm.2
    replace hmm := Lib.hid hmm
    clear hole hT hD hW hU r4 r2 rg rj
    go_enter Try.func18, Try.ntmps18
    go_wp2_with fail
    rw [hwb.out]
    refine (hR.out _ k2).mono ?_; rintro e w3 ⟨rfl, k3⟩
    have z3 := z2.kept k3 (by simp)
    go_wp2_with (refine wpList_store_lk noL noL (.slice none 0 0) _ rfl rfl _ _ rfl (w.heap.size + 1) rfl rfl z3 ?_; intro w5 b5 k5)
    refine bodyPost_ret (v := .tuple #[lkV noL (.slice none 0 0), .int .i64 0, .int .i64 1]) (results_lk2 rfl _ _ (w.heap.size + 1) rfl _ _ b5 _ _ rfl rfl) rfl ?_
    exact ⟨none, 0, rfl, .inl rfl, (k2.trans k3).far k5 (by omega)⟩
  · have hm12 := Lib.hid (And.intro hr.out (show m = 1 ∨ m = 2 by omega))
    have d1 : (m != 1) = false := by simpa using hmm
    have d0 : (m == 1) = true := by simpa using hmm
    have hmu : mayJ u m ↔ u ≠ 2 := by unfold mayJ; omega
    replace hmm := Lib.hid hmm
    clear r1
    go_enter Try.func18, Try.ntmps18
    go_wp2_with fail
    rw [hwb.out]
    refine (hR.out _ k2).mono ?_; rintro e w3 ⟨rfl, k3'⟩
    have k3 := k2.trans k3'
    have b3 := b2.kept k3' (by simp)
    have z3 := z2.kept k3' (by simp)
    have hs3 := Lib.hid (k3'.size)
    obtain ⟨c0, c1, c2, c3, c4, c5, c6⟩ := b3.at (Only.refl [] _) (by simp)
    clear b2 z2 k2 k3' hR
    cases hgo : go with
    | true =>
      obtain rfl := r4.out hm12.out hgo
      subst hgo
      clear hole hT hD hW hU r2 rg rj
      go_wp2_with (refine wpList_store_lk ⟨f, ep, u, ct, fe, true, l⟩ noL (.slice A l.length c) _ rfl rfl _ _ rfl (w.heap.size + 1) rfl rfl z3 ?_; intro w7 b7 k7)
      refine bodyPost_ret (v := .tuple #[lkV ⟨f, ep, u, ct, fe, true, l⟩ (.slice A l.length c), .int .i64 4, .int .i64 0]) (results_lk2 rfl _ _ (w.heap.size + 1) rfl _ _ b7 _ _ rfl rfl) rfl ?_
      exact ⟨_, _, rfl, hb.kept (k3.far k7 (by omega)) (by simp), k3.far k7 (by omega)⟩
    | false =>
    subst hgo
    clear r4
    go_wp2_with fail
    refine (hT.out _ k3 hr.out).mono ?_; rintro e w6 ⟨v6, rfl, hn6⟩
    have k6 := hn6.only
    obtain ⟨A6, d6, rfl, _⟩ := hn6.shape nuE_length
    have b6 := Lx.kept b3 k6 (by simp)
    have z6 := Blk.kept z3 k6 (by simp)
    have k36 := k3.trans k6
    have hs6 := Lib.hid (Nat.le_trans hs3.out k6.size)
    clear c0 c1 c2 c3 c4 c5 c6 b3 z3 hn6 k6 k3 hs3
    obtain ⟨c0, c1, c2, c3, c4, c5, c6⟩ := Lx.at b6 (Only.refl [] _) (by simp)
    obtain ⟨OT, hOT⟩ : ∃ OT, OT = othersL l cl m := ⟨_, rfl⟩
    have hOT' := hOT
    replace hOT := Lib.hid hOT
    rw [← hOT']
    rw [← hOT'] at hole
    clear hOT'
    by_cases ho0 : OT = []
    rotate_left
    · obtain rfl := r2.out hm12.out (by first | rfl | trivial) (by rw [← hOT.out]; exact ho0)
      have hpos : (0 : Int) < (OT.length : Int) := by have := List.length_pos_iff.2 ho0; omega
      have hposn : 0 < OT.length := List.length_pos_iff.2 ho0
      have dpos : decide ((0 : Int) < (OT.length : Int)) = true := decide_eq_true hpos
      replace ho0 := Lib.hid ho0
      clear hT hD hW hU rg rj
      go_wp2_with (refine wpList_store_lk ⟨f, ep, u, ct, fe, false, l⟩ noL (.slice A l.length c) _ rfl rfl _ _ rfl (w.heap.size + 1) rfl rfl z6 ?_; intro w7 b7 k7)
      refine bodyPost_ret (v := .tuple #[lkV ⟨f, ep, u, ct, fe, false, l⟩ (.slice A l.length c), .int .i64 2, .int .i64 0]) (results_lk2 rfl _ _ (w.heap.size + 1) rfl _ _ b7 _ _ rfl rfl) rfl ?_
      exact ⟨_, _, rfl, hb.kept (k36.far k7 (by omega)) (by simp), k36.far k7 (by omega)⟩
    have hoe : othersL l cl m = [] := by rw [← hOT.out]; exact ho0
    replace hoe := Lib.hid hoe
    subst ho0
    simp only [List.length_nil]
    clear hT r2 hole
    go_wp2_with fail
    refine (hD.out _ k36 hr.out).mono ?_; rintro e w8 ⟨rfl, k8'⟩
    have b8 := Lx.kept b6 k8' (by simp)
    have z8 := Blk.kept z6 k8' (by simp)
    have k8 := k36.trans k8'
    have hs8 := Lib.hid (Nat.le_trans hs6.out k8'.size)
    clear c0 c1 c2 c3 c4 c5 c6 b6 z6 k36 k8' hs6
    obtain ⟨c0, c1, c2, c3, c4, c5, c6⟩ := Lx.at b8 (Only.refl [] _) (by simp)
    obtain ⟨MO, hMO⟩ : ∃ MO, MO = modeH l cl := ⟨_, rfl⟩
    rw [← hMO]
    have rg' := rg.out hm12.out (by first | rfl | trivial) hoe.out
    have rj' := rj.out hm12.out (by first | rfl | trivial) hoe.out
    rw [← hMO] at rg' rj'
    replace hMO := Lib.hid hMO
    clear rg rj
    by_cases hmm2 : m ≤ MO
    · obtain rfl := rg' hmm2
      have dm : decide (m ≤ MO) = true := decide_eq_true hmm2
      clear rj' rg'
      go_wp2_with (refine wpList_store_lk ⟨f, ep, u, ct, fe, false, l⟩ noL (.slice A l.length c) _ rfl rfl _ _ rfl (w.heap.size + 1) rfl rfl z8 ?_; intro w7 b7 k7)
      refine bodyPost_ret (v := .tuple #[lkV ⟨f, ep, u, ct, fe, false, l⟩ (.slice A l.length c), .int .i64 1, .int .i64 0]) (results_lk2 rfl _ _ (w.heap.size + 1) rfl _ _ b7 _ _ rfl rfl) rfl ?_
      exact ⟨_, _, rfl, hb.kept (k8.far k7 (by omega)) (by simp), k8.far k7 (by omega)⟩
    have hRj := rj' (by omega)
    have dm : decide (m ≤ MO) = false := decide_eq_false hmm2
    replace hRj := Lib.hid hRj
    replace hmm2 := Lib.hid hmm2
    clear rj' rg'
    go_wp2_with fail
    refine (hW.out _ k8 hr.out).mono ?_; rintro e w9 ⟨v9, rfl, hm9⟩
    simp only at hm9
    obtain ⟨A9, d9, rfl, _⟩ := hm9.shape
    have b9 := Lx.kept b8 hm9.only (by simp)
    have z9 := Blk.kept z8 hm9.only (by simp)
    have hN9 : ∀ g, (Value.slice A9 l9.length d9).ownBlock = some g → wb.heap.size ≤ g := fun g hg => by
      rcases hm9.new g hg with a | a
      · cases a
      · exact Nat.le_trans hs8.out a
    have hm9w := Hs.from k8 hm9
    have hs9 := Lib.hid (Nat.le_trans hs8.out hm9.only.size)
    have ne0 : (Value.slice A9 l9.length d9).ownBlock ≠ some w.heap.size := fun h => by have := hN9 _ h; have := q0.out; omega
    have ne1 : (Value.slice A9 l9.length d9).ownBlock ≠ some (w.heap.size + 1) := fun h => by have := hN9 _ h; have := q1.out; omega
    replace ne0 := Lib.hid ne0
    replace ne1 := Lib.hid ne1
    replace hm9w := Lib.hid hm9w
    clear hm9 hN9 c0 c1 c2 c3 c4 c5 c6 b8 z8 hW hD hs8
    cases hfe : fe with
    | false =>
      subst hfe
      have hj := hRj.out
      rw [join_3 rfl] at hj
      obtain rfl := hj
      clear hRj hU
      go_wp2_with (first
        | (refine wpList_store_lk ⟨f, ep, u, ct, false, false, l9⟩ ⟨f, ep, u, ct, false, false, l⟩ (.slice A9 l9.length d9) _ rfl rfl _ _ rfl w.heap.size rfl rfl b9 ?_; intro w11 b11 k11; have z11 := Blk.kept z9 k11 (by simp); have hm11 := Lib.hid (hm9w.out.far k11 (Nat.le_refl _) ne0.out); clear b9 z9 k11; obtain ⟨c0, c1, c2, c3, c4, c5, c6⟩ := Lx.at b11 (Only.refl [] _) (by simp))
        | (refine wpList_store_lk ⟨f, ep, u, ct, false, false, l9⟩ noL (.slice A9 l9.length d9) _ rfl rfl _ _ rfl (w.heap.size + 1) rfl rfl z11 ?_; intro w7 b7 k7))
      refine bodyPost_ret (v := .tuple #[lkV ⟨f, ep, u, ct, false, false, l9⟩ (.slice A9 l9.length d9), .int .i64 3, .int .i64 0]) (results_lk2 rfl _ _ (w.heap.size + 1) rfl _ _ b7 _ _ rfl rfl) rfl ?_
      have hfin := hm11.out.far k7 (by omega) ne1.out
      exact ⟨_, _, rfl, hfin.els, hfin.only⟩
    | true =>
    subst hfe
    by_cases hu : u ≠ 2
    rotate_left
    · replace hu : u = 2 := by omega
      have d3 : (u != 2) = false := by simpa using hu
      have d4 : (u == 0) = false := by simp; omega
      have hj := hRj.out
      rw [join_t rfl (fun h => by have := hmu.1 h; omega)] at hj
      replace hu := Lib.hid hu
      replace hmu := Lib.hid hmu
      have hU9 := fun W => hU.out W A9 d9
      have hTo := turnV_one (L := ⟨f, ep, u, ct, true, false, l9⟩) (v := .slice A9 l9.length d9) rfl
      have hnt : (turnV ⟨f, ep, u, ct, true, false, l9⟩ (.slice A9 l9.length d9)).ownBlock ≠ some (w.heap.size + 1) := by
        unfold turnV
        split
        · exact ne1.out
        · simp [Value.ownBlock]
      have hTu : ∀ W, Hs [] w W (.slice A9 l9.length d9) l9 → Hs [] w W (turnV ⟨f, ep, u, ct, true, false, l9⟩ (.slice A9 l9.length d9)) (turnL ⟨f, ep, u, ct, true, false, l9⟩).hs := fun W h => Hs.turn (L := ⟨f, ep, u, ct, true, false, l9⟩) h
      generalize turnL ⟨f, ep, u, ct, true, false, l9⟩ = TL at *
      generalize turnV ⟨f, ep, u, ct, true, false, l9⟩ (.slice A9 l9.length d9) = TV at *
      obtain rfl := hj
      replace hU9 := Lib.hid hU9
      replace hTu := Lib.hid hTu
      replace hnt := Lib.hid hnt
      clear hRj hU
      go_wp2_with (refine wpList_store_lk ⟨f, ep, u, ct, true, false, l9⟩ ⟨f, ep, u, ct, true, false, l⟩ (.slice A9 l9.length d9) _ rfl rfl _ _ rfl w.heap.size rfl rfl b9 ?_; intro w11 b11 k11; have z11 := Blk.kept z9 k11 (by simp); have hm11 := Lib.hid (hm9w.out.far k11 (Nat.le_refl _) ne0.out); have hs11 := Lib.hid (Nat.le_trans hs9.out k11.size); clear b9 z9 k11 hs9; obtain ⟨c0, c1, c2, c3, c4, c5, c6⟩ := Lx.at b11 (Only.refl [] _) (by simp))
      refine (hU9.out _).mono ?_; rintro e w12 ⟨rfl, k12⟩
      have hm12' := hTu.out _ (hm11.out.kept k12)
      obtain ⟨TA, td, hte, _⟩ := hm12'.shape
      subst hte
      have z12 := Blk.kept z11 k12 (by simp)
      replace hm12' := Lib.hid hm12'
      clear z11 b11 c0 c1 c2 c3 c4 c5 c6
      go_wp2_with (refine wpList_store_lk TL noL (.slice TA TL.hs.length td) _ rfl rfl _ _ rfl (w.heap.size + 1) rfl rfl z12 ?_; intro w7 b7 k7)
      refine bodyPost_ret (v := .tuple #[lkV TL (.slice TA TL.hs.length td), .int .i64 3, .int .i64 0]) (results_lk2 rfl _ _ (w.heap.size + 1) rfl _ _ b7 _ _ rfl rfl) rfl ?_
      have hfin := hm12'.out.far k7 (by omega) hnt.out
      exact ⟨_, _, rfl, hfin.els, hfin.only⟩
    have d3 : (u != 2) = true := by simpa using hu
    have hmay : mayJ u m := hmu.2 hu
    replace hu := Lib.hid hu
    replace hmu := Lib.hid hmu
    by_cases h4 : 4 ≤ l9.length
    · have hj := hRj.out
      rw [join_2 rfl hmay h4] at hj
      obtain rfl := hj
      have d5 : ((l9.length : Int) == 4) = true := by simp; omega
      have d6 : (l9.length : Int) = 4 := by omega
      have d7 : l9.length = 4 := by omega
      replace h4 := Lib.hid h4
      replace d6 := Lib.hid d6
      replace d7 := Lib.hid d7
      clear hRj hU hl9n
      go_wp2_with (first
        | (refine wpList_store_lk ⟨f, ep, u, ct, true, false, l9⟩ ⟨f, ep, u, ct, true, false, l⟩ (.slice A9 l9.length d9) _ rfl rfl _ _ rfl w.heap.size rfl rfl b9 ?_; intro w11 b11 k11; have z11 := Blk.kept z9 k11 (by simp); have hm11 := Lib.hid (hm9w.out.far k11 (Nat.le_refl _) ne0.out); have hs11 := Lib.hid (Nat.le_trans hs9.out k11.size); clear b9 z9 k11 hs9; obtain ⟨c0, c1, c2, c3, c4, c5, c6⟩ := Lx.at b11 (Only.refl [] _) (by simp))
        | (refine wpList_store_lk ⟨f, ep, u, ct, true, false, l9⟩ noL (.slice A9 l9.length d9) _ rfl rfl _ _ rfl (w.heap.size + 1) rfl rfl z11 ?_; intro w7 b7 k7))
      refine bodyPost_ret (v := .tuple #[lkV ⟨f, ep, u, ct, true, false, l9⟩ (.slice A9 l9.length d9), .int .i64 2, .int .i64 0]) (results_lk2 rfl _ _ (w.heap.size + 1) rfl _ _ b7 _ _ rfl rfl) rfl ?_
      have hfin := hm11.out.far k7 (by omega) ne1.out
      exact ⟨_, _, rfl, hfin.els, hfin.only⟩
    have hj := hRj.out
    rw [join_1 rfl hmay h4] at hj
    replace hj := Lib.hid hj
    have d5 : ((l9.length : Int) == 4) = false := by simp; omega
    have d6 : ¬ (l9.length : Int) = 4 := by omega
    have hl3 : l9.length ≤ 3 := by omega
    clear hRj hU h4 hl9n
    go_wp2_with (refine wpList_store_lk ⟨f, ep, u, ct, true, false, l9⟩ ⟨f, ep, u, ct, true, false, l⟩ (.slice A9 l9.length d9) _ rfl rfl _ _ rfl w.heap.size rfl rfl b9 ?_; intro w11 b11 k11; have z11 := Blk.kept z9 k11 (by simp); have hm11 := Lib.hid (hm9w.out.far k11 (Nat.le_refl _) ne0.out); have hs11 := Lib.hid (Nat.le_trans hs9.out k11.size); clear b9 z9 k11 hs9; obtain ⟨c0, c1, c2, c3, c4, c5, c6⟩ := Lx.at b11 (Only.refl [] _) (by simp))
    have hel9 := hm11.out.els
    have ko : Only [] w w11 := hm11.out.only
    clear d6
    go_loopw [9, 10, 11] (fun v dn a wr => ∃ k : Nat, k ≤ l9.length ∧ a = .int .i64 k ∧ ((dn = .bool false ∧ Hs [] w11 wr v (l9.take k) ∧ Hid (∀ y ∈ l9.take k, y.client < cl)) ∨ (dn = .bool true ∧ Hs [] w11 wr v (insH (l9.take k) ⟨cl, m⟩) ∧ Hid (∃ y ∈ l9.take k, cl < y.client)))) (fun _ _ a _ => l9.length - (intOf a).toNat)
    case atStart => exact ⟨0, Nat.zero_le _, rfl, .inl ⟨rfl, Hs.start (Only.refl _ _), fun y hy => by simp at hy⟩⟩
    case round =>
      clear c0 c1 c2 c3 c4 c5 c6
      obtain ⟨k, hk, rfl, hrel⟩ := hrel
      have hbk : ∀ wr', Only [] w11 wr' → Lx wr' w.heap.size ⟨f, ep, u, ct, true, false, l9⟩ (.slice A9 l9.length d9) := fun wr' h => b11.kept h (by simp)
      replace hbk := Lib.hid hbk
      by_cases hlt : k < l9.length
      · obtain ⟨g, o, hA9, hg, hat⟩ := hel9.get hlt
        have hy : l9[k]? = some l9[k] := List.getElem?_eq_getElem hlt
        have hatk : ∀ wr', Only [] w11 wr' → wr'.cell? ⟨g, o + k * 2, none⟩ = some (.int .u32 l9[k].client) ∧ wr'.cell? ⟨g, o + k * 2 + 1, none⟩ = some (.int .u32 l9[k].mode) := fun wr' h => hols_at (hat.kept h (by simp)) hlt
        have hym : l9[k] ∈ l9 := List.getElem_mem hlt
        generalize l9[k] = y at *
        have hyn : y.client ≠ cl := findC_none hno9.out y hym
        have hsn := get_snoc hy
        obtain ⟨y0, y1⟩ := y
        simp only at hatk hyn
        replace hatk := Lib.hid hatk
        replace hy := Lib.hid hy
        replace hym := Lib.hid hym
        replace hsn := Lib.hid hsn
        clear hat
        rcases hrel with ⟨rfl, hm, hlo⟩ | ⟨rfl, hm, hhi⟩
        · by_cases hcy : cl < y0
          · have d8 : decide (cl < y0) = true := decide_eq_true hcy
            have hnx : insH (l9.take (k + 1)) ⟨cl, m⟩ = l9.take k ++ [⟨cl, m⟩] ++ [⟨y0, y1⟩] := by rw [hsn.out, ins_after _ _ _ hcy, ins_end hlo.out]
            have hhi' : Hid (∃ y ∈ l9.take (k + 1), cl < y.client) := ⟨⟨y0, y1⟩, by rw [hsn.out]; simp, hcy⟩
            have hTl : (l9.take k).length ≤ 3 := by rw [List.length_take]; omega
            replace hnx := Lib.hid hnx
            generalize l9.take k = T at *
            have hm5 := Lib.hid (hm.kept ((Only.refl [] wr).alloc (.cells #[.int .u32 cl, .int .u32 m] 47)))
            have b5 : Blk (wr.alloc (.cells #[.int .u32 cl, .int .u32 m] 47)) wr.heap.size 47 (holE ⟨cl, m⟩).toArray := Blk.new _ _ _
            replace b5 := Lib.hid b5
            obtain ⟨c0, c1, c2, c3, c4, c5, c6⟩ := Lx.at (hbk.out _ hm.only) (Only.refl [] _) (by simp)
            obtain ⟨e0, e1⟩ := hatk.out _ hm.only
            subst hA9
            have hTl2 : (T ++ [(⟨cl, m⟩ : Hol)]).length ≤ 4 := by simp; omega
            replace hcy := Lib.hid hcy
            clear hm
            go_wp2_with (at_builtin; first
              | (refine wpList_push rfl (.tmp 86) (.tmp 90) 23 rfl 47 _ 8 holE_length (by decide) holE_one Try.underlying23 info_hol rfl _ T.length T rfl hm5.out.own wr.heap.size ⟨cl, m⟩ _ rfl b5.out (by unfold maxLen; omega) (by omega) ?_; intro vv w6 h6 g6 a6; have hm6 := Lib.hid (hm5.out.pushed h6 g6 a6); obtain ⟨m0, m1, m2, m3, m4, m5, m6⟩ := Lx.at (hbk.out _ hm6.out.only) (Only.refl [] _) (by simp); obtain ⟨n0, n1⟩ := hatk.out _ hm6.out.only; have hm7 := Lib.hid (hm6.out.kept ((Only.refl [] w6).alloc (.cells #[.int .u32 y0, .int .u32 y1] 47))); have b7 := Lib.hid (Blk.new w6 47 #[.int .u32 y0, .int .u32 y1]); clear h6 g6 a6 hm5 b5 c0 c1 c2 c3 c4 c5 c6 e0 e1)
              | (go_must (refine wpList_push rfl (.tmp 92) (.tmp 98) 23 rfl 47 _ 8 holE_length (by decide) holE_one Try.underlying23 info_hol rfl _ (T ++ [(⟨cl, m⟩ : Hol)]).length (T ++ [(⟨cl, m⟩ : Hol)]) rfl hm7.out.own w6.heap.size ⟨y0, y1⟩ _ rfl b7.out (by unfold maxLen; omega) (by omega) ?_; intro v8 w8 h8 g8 a8); have hm8 := Lib.hid (hm7.out.pushed h8 g8 a8); clear h8 g8 a8))
            go_roundw
            case rel => exact ⟨k + 1, by omega, by go_num, .inr ⟨rfl, by rw [hnx.out]; exact hm8.out, hhi'⟩⟩
            case measure => simp [intOf]; omega
          · have d8 : decide (cl < y0) = false := decide_eq_false hcy
            have hlo' : Hid (∀ y ∈ l9.take (k + 1), y.client < cl) := fun z hz => by
              rw [hsn.out, List.mem_append, List.mem_singleton] at hz
              rcases hz with hz | rfl
              · exact hlo.out z hz
              · show y0 < cl; omega
            have hTl : (l9.take k).length ≤ 3 := by rw [List.length_take]; omega
            obtain ⟨T, hTT⟩ : ∃ T, T = l9.take k := ⟨_, rfl⟩
            rw [← hTT] at hm hTl
            have hnx : l9.take (k + 1) = T ++ [⟨y0, y1⟩] := by rw [hsn.out, ← hTT]
            replace hnx := Lib.hid hnx
            replace hTT := Lib.hid hTT
            have hm5 := Lib.hid (hm.kept ((Only.refl [] wr).alloc (.cells #[.int .u32 y0, .int .u32 y1] 47)))
            have b5 : Blk (wr.alloc (.cells #[.int .u32 y0, .int .u32 y1] 47)) wr.heap.size 47 (holE ⟨y0, y1⟩).toArray := Blk.new _ _ _
            replace b5 := Lib.hid b5
            obtain ⟨c0, c1, c2, c3, c4, c5, c6⟩ := Lx.at (hbk.out _ hm.only) (Only.refl [] _) (by simp)
            obtain ⟨e0, e1⟩ := hatk.out _ hm.only
            subst hA9
            replace hcy := Lib.hid hcy
            clear hm
            go_wp2_with (at_builtin; go_must (refine wpList_push rfl (.tmp 92) (.tmp 98) 23 rfl 47 _ 8 holE_length (by decide) holE_one Try.underlying23 info_hol rfl _ T.length T rfl hm5.out.own wr.heap.size ⟨y0, y1⟩ _ rfl b5.out (by unfold maxLen; omega) (by omega) ?_; intro v8 w8 h8 g8 a8); have hm8 := Lib.hid (hm5.out.pushed h8 g8 a8); clear h8 g8 a8)
            go_roundw
            case rel => exact ⟨k + 1, by omega, by go_num, .inl ⟨rfl, by rw [hnx.out]; exact hm8.out, hlo'⟩⟩
            case measure => simp [intOf]; omega
        · have hcy := take_end hri.out hy.out hhi.out
          simp only at hcy
          have hhi' : Hid (∃ y ∈ l9.take (k + 1), cl < y.client) := ⟨⟨y0, y1⟩, by rw [hsn.out]; simp, hcy⟩
          have hTl : (insH (l9.take k) ⟨cl, m⟩).length ≤ 4 := by rw [ins_length, List.length_take]; omega
          obtain ⟨T, hTT⟩ : ∃ T, T = insH (l9.take k) ⟨cl, m⟩ := ⟨_, rfl⟩
          rw [← hTT] at hm hTl
          have hnx : insH (l9.take (k + 1)) ⟨cl, m⟩ = T ++ [⟨y0, y1⟩] := by rw [hsn.out, ins_after _ _ _ hcy, ← hTT]
          replace hnx := Lib.hid hnx
          replace hTT := Lib.hid hTT
          have hm5 := Lib.hid (hm.kept ((Only.refl [] wr).alloc (.cells #[.int .u32 y0, .int .u32 y1] 47)))
          have b5 : Blk (wr.alloc (.cells #[.int .u32 y0, .int .u32 y1] 47)) wr.heap.size 47 (holE ⟨y0, y1⟩).toArray := Blk.new _ _ _
          replace b5 := Lib.hid b5
          obtain ⟨c0, c1, c2, c3, c4, c5, c6⟩ := Lx.at (hbk.out _ hm.only) (Only.refl [] _) (by simp)
          obtain ⟨e0, e1⟩ := hatk.out _ hm.only
          subst hA9
          replace hcy := Lib.hid hcy
          clear hm
          go_wp2_with (at_builtin; go_must (refine wpList_push rfl (.tmp 92) (.tmp 98) 23 rfl 47 _ 8 holE_length (by decide) holE_one Try.underlying23 info_hol rfl _ T.length T rfl hm5.out.own wr.heap.size ⟨y0, y1⟩ _ rfl b5.out (by unfold maxLen; omega) (by omega) ?_; intro v8 w8 h8 g8 a8); have hm8 := Lib.hid (hm5.out.pushed h8 g8 a8); clear h8 g8 a8)
          go_roundw
          case rel => exact ⟨k + 1, by omega, by go_num, .inr ⟨rfl, by rw [hnx.out]; exact hm8.out, hhi'⟩⟩
          case measure => simp [intOf]; omega
      · have hfl : l9.take k = l9 := List.take_of_length_le (by omega)
        rw [hfl] at hrel
        have hil : (insH l9 ⟨cl, m⟩).length ≤ 4 := by rw [ins_length]; omega
        replace hfl := Lib.hid hfl
        obtain ⟨l2, hl2⟩ : ∃ l2, l2 = insH l9 ⟨cl, m⟩ := ⟨_, rfl⟩
        rw [← hl2] at hrel hil hj
        obtain ⟨mx, hmx⟩ : ∃ mx, maxI u m = mx := ⟨_, rfl⟩
        rw [hmx] at hj
        obtain rfl := hj.out
        clear hj
        unfold maxI at hmx
        have hsz11 : w.heap.size + 1 < w11.heap.size := by have := hs11.out; have := q1.out; omega
        replace hsz11 := Lib.hid hsz11
        rcases hrel with ⟨rfl, hm, hlo⟩ | ⟨rfl, hm, hhi⟩
        · have hl2e : l2 = l9 ++ [⟨cl, m⟩] := by rw [hl2, ins_end hlo.out]
          replace hl2 := Lib.hid hl2
          replace hl2e := Lib.hid hl2e
          have hm5 := Lib.hid (hm.kept ((Only.refl [] wr).alloc (.cells #[.int .u32 cl, .int .u32 m] 47)))
          have b5 : Blk (wr.alloc (.cells #[.int .u32 cl, .int .u32 m] 47)) wr.heap.size 47 (holE ⟨cl, m⟩).toArray := Blk.new _ _ _
          replace b5 := Lib.hid b5
          obtain ⟨c0, c1, c2, c3, c4, c5, c6⟩ := Lx.at (hbk.out _ hm.only) (Only.refl [] _) (by simp)
          clear hm
          by_cases hum : u < m
          · rw [if_pos hum] at hmx
            subst hmx
            have d8 : decide (u < m) = true := decide_eq_true hum
            go_wp2_with (first
              | (at_builtin; refine wpList_push rfl (.tmp 102) (.tmp 106) 23 rfl 47 _ 8 holE_length (by decide) holE_one Try.underlying23 info_hol rfl _ l9.length l9 rfl hm5.out.own wr.heap.size ⟨cl, m⟩ _ rfl b5.out (by unfold maxLen; omega) (by omega) ?_; intro vv w6 h6 g6 a6; have hm6 := hm5.out.pushed h6 g6 a6; rw [← hl2e.out] at hm6; obtain ⟨A2, d2, hv2, _⟩ := hm6.shape; subst hv2; have ne20 := Lib.hid (ne_of_new hm6 (Nat.lt_trans (Nat.lt_succ_self _) hsz11.out)); have ne21 := Lib.hid (ne_of_new hm6 hsz11.out); have z6 := Blk.kept z11 hm6.only (by simp); have f6 := Blk.free (hbk.out _ hm6.only) 6; have f2 := Blk.free (hbk.out _ hm6.only) 2; obtain ⟨m0, m1, m2, m3, m4, m5, m6⟩ := Lx.at (hbk.out _ hm6.only) (Only.refl [] _) (by simp); have hm9 := Lib.hid (Hs.from ko hm6); have z7 := Blk.far (p := ⟨w.heap.size, 6, none⟩) (u := .slice A2 l2.length d2) z6 (by simp); have z8 := Blk.far (p := ⟨w.heap.size, 2, none⟩) (u := .int .u32 m) z7 (by simp))
              | (refine wpList_store_lk ⟨f, ep, m, ct, true, false, l2⟩ noL (.slice A2 l2.length d2) _ rfl rfl _ _ rfl (w.heap.size + 1) rfl rfl z8 ?_; intro w7 b7 k7))
            refine bodyPost_ret (v := .tuple #[lkV ⟨f, ep, m, ct, true, false, l2⟩ (.slice A2 l2.length d2), .int .i64 1, .int .i64 0]) (results_lk2 rfl _ _ (w.heap.size + 1) rfl _ _ b7 _ _ rfl rfl) rfl ?_
            have kk : Only [w.heap.size] w6 ((w6.setCell ⟨w.heap.size, 6, none⟩ (.slice A2 l2.length d2)).setCell ⟨w.heap.size, 2, none⟩ (.int .u32 m)) := ((Only.refl _ _).setCell (.inl (by simp)) _).setCell (.inl (by simp)) _
            have hfin := (hm9.out.far kk (Nat.le_refl _) ne20.out).far k7 (by omega) ne21.out
            exact ⟨_, _, rfl, hfin.els, hfin.only⟩
          · rw [if_neg hum] at hmx
            subst hmx
            have d8 : decide (u < m) = false := decide_eq_false hum
            go_wp2_with (first
              | (at_builtin; refine wpList_push rfl (.tmp 102) (.tmp 106) 23 rfl 47 _ 8 holE_length (by decide) holE_one Try.underlying23 info_hol rfl _ l9.length l9 rfl hm5.out.own wr.heap.size ⟨cl, m⟩ _ rfl b5.out (by unfold maxLen; omega) (by omega) ?_; intro vv w6 h6 g6 a6; have hm6 := hm5.out.pushed h6 g6 a6; rw [← hl2e.out] at hm6; obtain ⟨A2, d2, hv2, _⟩ := hm6.shape; subst hv2; have ne20 := Lib.hid (ne_of_new hm6 (Nat.lt_trans (Nat.lt_succ_self _) hsz11.out)); have ne21 := Lib.hid (ne_of_new hm6 hsz11.out); have z6 := Blk.kept z11 hm6.only (by simp); have f6 := Blk.free (hbk.out _ hm6.only) 6; have f2 := Blk.free (hbk.out _ hm6.only) 2; obtain ⟨m0, m1, m2, m3, m4, m5, m6⟩ := Lx.at (hbk.out _ hm6.only) (Only.refl [] _) (by simp); have hm9 := Lib.hid (Hs.from ko hm6); have z7 := Blk.far (p := ⟨w.heap.size, 6, none⟩) (u := .slice A2 l2.length d2) z6 (by simp); have z8 := Blk.far (p := ⟨w.heap.size, 2, none⟩) (u := .int .u32 m) z7 (by simp))
              | (refine wpList_store_lk ⟨f, ep, u, ct, true, false, l2⟩ noL (.slice A2 l2.length d2) _ rfl rfl _ _ rfl (w.heap.size + 1) rfl rfl z7 ?_; intro w7 b7 k7))
            refine bodyPost_ret (v := .tuple #[lkV ⟨f, ep, u, ct, true, false, l2⟩ (.slice A2 l2.length d2), .int .i64 1, .int .i64 0]) (results_lk2 rfl _ _ (w.heap.size + 1) rfl _ _ b7 _ _ rfl rfl) rfl ?_
            have kk : Only [w.heap.size] w6 (w6.setCell ⟨w.heap.size, 6, none⟩ (.slice A2 l2.length d2)) := (Only.refl _ _).setCell (.inl (by simp)) _
            have hfin := (hm9.out.far kk (Nat.le_refl _) ne20.out).far k7 (by omega) ne21.out
            exact ⟨_, _, rfl, hfin.els, hfin.only⟩
        · replace hl2 := Lib.hid hl2
          obtain ⟨w6, hw6⟩ : ∃ w6, w6 = wr := ⟨_, rfl⟩
          rw [← hw6] at hm ⊢
          clear hw6
          have hm6 := hm
          obtain ⟨A2, d2, hv2, _⟩ := hm6.shape
          subst hv2
          have ne20 := Lib.hid (ne_of_new hm6 (Nat.lt_trans (Nat.lt_succ_self _) hsz11.out))
          have ne21 := Lib.hid (ne_of_new hm6 hsz11.out)
          have z6 := Blk.kept z11 hm6.only (by simp)
          have f6 := Blk.free (hbk.out _ hm6.only) 6
          have f2 := Blk.free (hbk.out _ hm6.only) 2
          obtain ⟨m0, m1, m2, m3, m4, m5, m6⟩ := Lx.at (hbk.out _ hm6.only) (Only.refl [] _) (by simp)
          have hm9 := Lib.hid (Hs.from ko hm6)
          have z7 := Blk.far (p := ⟨w.heap.size, 6, none⟩) (u := .slice A2 l2.length d2) z6 (by simp)
          have z8 := Blk.far (p := ⟨w.heap.size, 2, none⟩) (u := .int .u32 m) z7 (by simp)
          by_cases hum : u < m
          · rw [if_pos hum] at hmx
            subst hmx
            have d8 : decide (u < m) = true := decide_eq_true hum
            go_wp2_with (refine wpList_store_lk ⟨f, ep, m, ct, true, false, l2⟩ noL (.slice A2 l2.length d2) _ rfl rfl _ _ rfl (w.heap.size + 1) rfl rfl z8 ?_; intro w7 b7 k7)
            refine bodyPost_ret (v := .tuple #[lkV ⟨f, ep, m, ct, true, false, l2⟩ (.slice A2 l2.length d2), .int .i64 1, .int .i64 0]) (results_lk2 rfl _ _ (w.heap.size + 1) rfl _ _ b7 _ _ rfl rfl) rfl ?_
            have kk : Only [w.heap.size] w6 ((w6.setCell ⟨w.heap.size, 6, none⟩ (.slice A2 l2.length d2)).setCell ⟨w.heap.size, 2, none⟩ (.int .u32 m)) := ((Only.refl _ _).setCell (.inl (by simp)) _).setCell (.inl (by simp)) _
            have hfin := (hm9.out.far kk (Nat.le_refl _) ne20.out).far k7 (by omega) ne21.out
            exact ⟨_, _, rfl, hfin.els, hfin.only⟩
          · rw [if_neg hum] at hmx
            subst hmx
            have d8 : decide (u < m) = false := decide_eq_false hum
            go_wp2_with (refine wpList_store_lk ⟨f, ep, u, ct, true, false, l2⟩ noL (.slice A2 l2.length d2) _ rfl rfl _ _ rfl (w.heap.size + 1) rfl rfl z7 ?_; intro w7 b7 k7)
            refine bodyPost_ret (v := .tuple #[lkV ⟨f, ep, u, ct, true, false, l2⟩ (.slice A2 l2.length d2), .int .i64 1, .int .i64 0]) (results_lk2 rfl _ _ (w.heap.size + 1) rfl _ _ b7 _ _ rfl rfl) rfl ?_
            have kk : Only [w.heap.size] w6 (w6.setCell ⟨w.heap.size, 6, none⟩ (.slice A2 l2.length d2)) := (Only.refl _ _).setCell (.inl (by simp)) _
            have hfin := (hm9.out.far kk (Nat.le_refl _) ne20.out).far k7 (by omega) ne21.out
            exact ⟨_, _, rfl, hfin.els, hfin.only⟩
  · have hm12 := Lib.hid (And.intro hr.out (show m = 1 ∨ m = 2 by omega))
    have d1 : (m != 1) = true := by simpa using hmm.1
    have d0 : (m == 1) = false := by simpa using hmm.1
    have d2 : (m != 2) = false := by simpa using hmm.2
    have hmu : mayJ u m ↔ u = 0 := by unfold mayJ; omega
    replace hmm := Lib.hid hmm
    clear r1
    go_enter Try.func18, Try.ntmps18
    go_wp2_with fail
    rw [hwb.out]
    refine (hR.out _ k2).mono ?_; rintro e w3 ⟨rfl, k3'⟩
    have k3 := k2.trans k3'
    have b3 := b2.kept k3' (by simp)
    have z3 := z2.kept k3' (by simp)
    have hs3 := Lib.hid (k3'.size)
    obtain ⟨c0, c1, c2, c3, c4, c5, c6⟩ := b3.at (Only.refl [] _) (by simp)
    clear b2 z2 k2 k3' hR
    cases hgo : go with
    | true =>
      obtain rfl := r4.out hm12.out hgo
      subst hgo
      clear hole hT hD hW hU r2 rg rj
      go_wp2_with (refine wpList_store_lk ⟨f, ep, u, ct, fe, true, l⟩ noL (.slice A l.length c) _ rfl rfl _ _ rfl (w.heap.size + 1) rfl rfl z3 ?_; intro w7 b7 k7)
      refine bodyPost_ret (v := .tuple #[lkV ⟨f, ep, u, ct, fe, true, l⟩ (.slice A l.length c), .int .i64 4, .int .i64 0]) (results_lk2 rfl _ _ (w.heap.size + 1) rfl _ _ b7 _ _ rfl rfl) rfl ?_
      exact ⟨_, _, rfl, hb.kept (k3.far k7 (by omega)) (by simp), k3.far k7 (by omega)⟩
    | false =>
    subst hgo
    clear r4
    go_wp2_with fail
    refine (hT.out _ k3 hr.out).mono ?_; rintro e w6 ⟨v6, rfl, hn6⟩
    have k6 := hn6.only
    obtain ⟨A6, d6, rfl, _⟩ := hn6.shape nuE_length
    have b6 := Lx.kept b3 k6 (by simp)
    have z6 := Blk.kept z3 k6 (by simp)
    have k36 := k3.trans k6
    have hs6 := Lib.hid (Nat.le_trans hs3.out k6.size)
    clear c0 c1 c2 c3 c4 c5 c6 b3 z3 hn6 k6 k3 hs3
    obtain ⟨c0, c1, c2, c3, c4, c5, c6⟩ := Lx.at b6 (Only.refl [] _) (by simp)
    obtain ⟨OT, hOT⟩ : ∃ OT, OT = othersL l cl m := ⟨_, rfl⟩
    have hOT' := hOT
    replace hOT := Lib.hid hOT
    rw [← hOT']
    rw [← hOT'] at hole
    clear hOT'
    by_cases ho0 : OT = []
    rotate_left
    · obtain rfl := r2.out hm12.out (by first | rfl | trivial) (by rw [← hOT.out]; exact ho0)
      have hpos : (0 : Int) < (OT.length : Int) := by have := List.length_pos_iff.2 ho0; omega
      have hposn : 0 < OT.length := List.length_pos_iff.2 ho0
      have dpos : decide ((0 : Int) < (OT.length : Int)) = true := decide_eq_true hpos
      replace ho0 := Lib.hid ho0
      clear hT hD hW hU rg rj
      go_wp2_with (refine wpList_store_lk ⟨f, ep, u, ct, fe, false, l⟩ noL (.slice A l.length c) _ rfl rfl _ _ rfl (w.heap.size + 1) rfl rfl z6 ?_; intro w7 b7 k7)
      refine bodyPost_ret (v := .tuple #[lkV ⟨f, ep, u, ct, fe, false, l⟩ (.slice A l.length c), .int .i64 2, .int .i64 0]) (results_lk2 rfl _ _ (w.heap.size + 1) rfl _ _ b7 _ _ rfl rfl) rfl ?_
      exact ⟨_, _, rfl, hb.kept (k36.far k7 (by omega)) (by simp), k36.far k7 (by omega)⟩
    have hoe : othersL l cl m = [] := by rw [← hOT.out]; exact ho0
    replace hoe := Lib.hid hoe
    subst ho0
    simp only [List.length_nil]
    clear hT r2 hole
    go_wp2_with fail
    refine (hD.out _ k36 hr.out).mono ?_; rintro e w8 ⟨rfl, k8'⟩
    have b8 := Lx.kept b6 k8' (by simp)
    have z8 := Blk.kept z6 k8' (by simp)
    have k8 := k36.trans k8'
    have hs8 := Lib.hid (Nat.le_trans hs6.out k8'.size)
    clear c0 c1 c2 c3 c4 c5 c6 b6 z6 k36 k8' hs6
    obtain ⟨c0, c1, c2, c3, c4, c5, c6⟩ := Lx.at b8 (Only.refl [] _) (by simp)
    obtain ⟨MO, hMO⟩ : ∃ MO, MO = modeH l cl := ⟨_, rfl⟩
    rw [← hMO]
    have rg' := rg.out hm12.out (by first | rfl | trivial) hoe.out
    have rj' := rj.out hm12.out (by first | rfl | trivial) hoe.out
    rw [← hMO] at rg' rj'
    replace hMO := Lib.hid hMO
    clear rg rj
    by_cases hmm2 : m ≤ MO
    · obtain rfl := rg' hmm2
      have dm : decide (m ≤ MO) = true := decide_eq_true hmm2
      clear rj' rg'
      go_wp2_with (refine wpList_store_lk ⟨f, ep, u, ct, fe, false, l⟩ noL (.slice A l.length c) _ rfl rfl _ _ rfl (w.heap.size + 1) rfl rfl z8 ?_; intro w7 b7 k7)
      refine bodyPost_ret (v := .tuple #[lkV ⟨f, ep, u, ct, fe, false, l⟩ (.slice A l.length c), .int .i64 1, .int .i64 0]) (results_lk2 rfl _ _ (w.heap.size + 1) rfl _ _ b7 _ _ rfl rfl) rfl ?_
      exact ⟨_, _, rfl, hb.kept (k8.far k7 (by omega)) (by simp), k8.far k7 (by omega)⟩
    have hRj := rj' (by omega)
    have dm : decide (m ≤ MO) = false := decide_eq_false hmm2
    replace hRj := Lib.hid hRj
    replace hmm2 := Lib.hid hmm2
    clear rj' rg'
    go_wp2_with fail
    refine (hW.out _ k8 hr.out).mono ?_; rintro e w9 ⟨v9, rfl, hm9⟩
    simp only at hm9
    obtain ⟨A9, d9, rfl, _⟩ := hm9.shape
    have b9 := Lx.kept b8 hm9.only (by simp)
    have z9 := Blk.kept z8 hm9.only (by simp)
    have hN9 : ∀ g, (Value.slice A9 l9.length d9).ownBlock = some g → wb.heap.size ≤ g := fun g hg => by
      rcases hm9.new g hg with a | a
      · cases a
      · exact Nat.le_trans hs8.out a
    have hm9w := Hs.from k8 hm9
    have hs9 := Lib.hid (Nat.le_trans hs8.out hm9.only.size)
    have ne0 : (Value.slice A9 l9.length d9).ownBlock ≠ some w.heap.size := fun h => by have := hN9 _ h; have := q0.out; omega
    have ne1 : (Value.slice A9 l9.length d9).ownBlock ≠ some (w.heap.size + 1) := fun h => by have := hN9 _ h; have := q1.out; omega
    replace ne0 := Lib.hid ne0
    replace ne1 := Lib.hid ne1
    replace hm9w := Lib.hid hm9w
    clear hm9 hN9 c0 c1 c2 c3 c4 c5 c6 b8 z8 hW hD hs8
    cases hfe : fe with
    | false =>
      subst hfe
      have hj := hRj.out
      rw [join_3 rfl] at hj
      obtain rfl := hj
      clear hRj hU
      go_wp2_with (first
        | (refine wpList_store_lk ⟨f, ep, u, ct, false, false, l9⟩ ⟨f, ep, u, ct, false, false, l⟩ (.slice A9 l9.length d9) _ rfl rfl _ _ rfl w.heap.size rfl rfl b9 ?_; intro w11 b11 k11; have z11 := Blk.kept z9 k11 (by simp); have hm11 := Lib.hid (hm9w.out.far k11 (Nat.le_refl _) ne0.out); clear b9 z9 k11; obtain ⟨c0, c1, c2, c3, c4, c5, c6⟩ := Lx.at b11 (Only.refl [] _) (by simp))
        | (refine wpList_store_lk ⟨f, ep, u, ct, false, false, l9⟩ noL (.slice A9 l9.length d9) _ rfl rfl _ _ rfl (w.heap.size + 1) rfl rfl z11 ?_; intro w7 b7 k7))
      refine bodyPost_ret (v := .tuple #[lkV ⟨f, ep, u, ct, false, false, l9⟩ (.slice A9 l9.length d9), .int .i64 3, .int .i64 0]) (results_lk2 rfl _ _ (w.heap.size + 1) rfl _ _ b7 _ _ rfl rfl) rfl ?_
      have hfin := hm11.out.far k7 (by omega) ne1.out
      exact ⟨_, _, rfl, hfin.els, hfin.only⟩
    | true =>
    subst hfe
    by_cases hu : u = 0
    rotate_left
    · skip
      have d4 : (u == 0) = false := by simpa using hu
      have hj := hRj.out
      rw [join_t rfl (fun h => by have := hmu.1 h; omega)] at hj
      replace hu := Lib.hid hu
      replace hmu := Lib.hid hmu
      have hU9 := fun W => hU.out W A9 d9
      have hTo := turnV_one (L := ⟨f, ep, u, ct, true, false, l9⟩) (v := .slice A9 l9.length d9) rfl
      have hnt : (turnV ⟨f, ep, u, ct, true, false, l9⟩ (.slice A9 l9.length d9)).ownBlock ≠ some (w.heap.size + 1) := by
        unfold turnV
        split
        · exact ne1.out
        · simp [Value.ownBlock]
      have hTu : ∀ W, Hs [] w W (.slice A9 l9.length d9) l9 → Hs [] w W (turnV ⟨f, ep, u, ct, true, false, l9⟩ (.slice A9 l9.length d9)) (turnL ⟨f, ep, u, ct, true, false, l9⟩).hs := fun W h => Hs.turn (L := ⟨f, ep, u, ct, true, false, l9⟩) h
      generalize turnL ⟨f, ep, u, ct, true, false, l9⟩ = TL at *
      generalize turnV ⟨f, ep, u, ct, true, false, l9⟩ (.slice A9 l9.length d9) = TV at *
      obtain rfl := hj
      replace hU9 := Lib.hid hU9
      replace hTu := Lib.hid hTu
      replace hnt := Lib.hid hnt
      clear hRj hU
      go_wp2_with (refine wpList_store_lk ⟨f, ep, u, ct, true, false, l9⟩ ⟨f, ep, u, ct, true, false, l⟩ (.slice A9 l9.length d9) _ rfl rfl _ _ rfl w.heap.size rfl rfl b9 ?_; intro w11 b11 k11; have z11 := Blk.kept z9 k11 (by simp); have hm11 := Lib.hid (hm9w.out.far k11 (Nat.le_refl _) ne0.out); have hs11 := Lib.hid (Nat.le_trans hs9.out k11.size); clear b9 z9 k11 hs9; obtain ⟨c0, c1, c2, c3, c4, c5, c6⟩ := Lx.at b11 (Only.refl [] _) (by simp))
      refine (hU9.out _).mono ?_; rintro e w12 ⟨rfl, k12⟩
      have hm12' := hTu.out _ (hm11.out.kept k12)
      obtain ⟨TA, td, hte, _⟩ := hm12'.shape
      subst hte
      have z12 := Blk.kept z11 k12 (by simp)
      replace hm12' := Lib.hid hm12'
      clear z11 b11 c0 c1 c2 c3 c4 c5 c6
      go_wp2_with (refine wpList_store_lk TL noL (.slice TA TL.hs.length td) _ rfl rfl _ _ rfl (w.heap.size + 1) rfl rfl z12 ?_; intro w7 b7 k7)
      refine bodyPost_ret (v := .tuple #[lkV TL (.slice TA TL.hs.length td), .int .i64 3, .int .i64 0]) (results_lk2 rfl _ _ (w.heap.size + 1) rfl _ _ b7 _ _ rfl rfl) rfl ?_
      have hfin := hm12'.out.far k7 (by omega) hnt.out
      exact ⟨_, _, rfl, hfin.els, hfin.only⟩
    have d4 : (u == 0) = true := by simpa using hu
    have hmay : mayJ u m := hmu.2 hu
    replace hu := Lib.hid hu
    replace hmu := Lib.hid hmu
    by_cases h4 : 4 ≤ l9.length
    · have hj := hRj.out
      rw [join_2 rfl hmay h4] at hj
      obtain rfl := hj
      have d5 : ((l9.length : Int) == 4) = true := by simp; omega
      have d6 : (l9.length : Int) = 4 := by omega
      have d7 : l9.length = 4 := by omega
      replace h4 := Lib.hid h4
      replace d6 := Lib.hid d6
      replace d7 := Lib.hid d7
      clear hRj hU hl9n
      go_wp2_with (first
        | (refine wpList_store_lk ⟨f, ep, u, ct, true, false, l9⟩ ⟨f, ep, u, ct, true, false, l⟩ (.slice A9 l9.length d9) _ rfl rfl _ _ rfl w.heap.size rfl rfl b9 ?_; intro w11 b11 k11; have z11 := Blk.kept z9 k11 (by simp); have hm11 := Lib.hid (hm9w.out.far k11 (Nat.le_refl _) ne0.out); have hs11 := Lib.hid (Nat.le_trans hs9.out k11.size); clear b9 z9 k11 hs9; obtain ⟨c0, c1, c2, c3, c4, c5, c6⟩ := Lx.at b11 (Only.refl [] _) (by simp))
        | (refine wpList_store_lk ⟨f, ep, u, ct, true, false, l9⟩ noL (.slice A9 l9.length d9) _ rfl rfl _ _ rfl (w.heap.size + 1) rfl rfl z11 ?_; intro w7 b7 k7))
      refine bodyPost_ret (v := .tuple #[lkV ⟨f, ep, u, ct, true, false, l9⟩ (.slice A9 l9.length d9), .int .i64 2, .int .i64 0]) (results_lk2 rfl _ _ (w.heap.size + 1) rfl _ _ b7 _ _ rfl rfl) rfl ?_
      have hfin := hm11.out.far k7 (by omega) ne1.out
      exact ⟨_, _, rfl, hfin.els, hfin.only⟩
    have hj := hRj.out
    rw [join_1 rfl hmay h4] at hj
    replace hj := Lib.hid hj
    have d5 : ((l9.length : Int) == 4) = false := by simp; omega
    have d6 : ¬ (l9.length : Int) = 4 := by omega
    have hl3 : l9.length ≤ 3 := by omega
    clear hRj hU h4 hl9n
    go_wp2_with (refine wpList_store_lk ⟨f, ep, u, ct, true, false, l9⟩ ⟨f, ep, u, ct, true, false, l⟩ (.slice A9 l9.length d9) _ rfl rfl _ _ rfl w.heap.size rfl rfl b9 ?_; intro w11 b11 k11; have z11 := Blk.kept z9 k11 (by simp); have hm11 := Lib.hid (hm9w.out.far k11 (Nat.le_refl _) ne0.out); have hs11 := Lib.hid (Nat.le_trans hs9.out k11.size); clear b9 z9 k11 hs9; obtain ⟨c0, c1, c2, c3, c4, c5, c6⟩ := Lx.at b11 (Only.refl [] _) (by simp))
    have hel9 := hm11.out.els
    have ko : Only [] w w11 := hm11.out.only
    clear d6
    go_loopw [9, 10, 11] (fun v dn a wr => ∃ k : Nat, k ≤ l9.length ∧ a = .int .i64 k ∧ ((dn = .bool false ∧ Hs [] w11 wr v (l9.take k) ∧ Hid (∀ y ∈ l9.take k, y.client < cl)) ∨ (dn = .bool true ∧ Hs [] w11 wr v (insH (l9.take k) ⟨cl, m⟩) ∧ Hid (∃ y ∈ l9.take k, cl < y.client)))) (fun _ _ a _ => l9.length - (intOf a).toNat)
    case atStart => exact ⟨0, Nat.zero_le _, rfl, .inl ⟨rfl, Hs.start (Only.refl _ _), fun y hy => by simp at hy⟩⟩
    case round =>
      clear c0 c1 c2 c3 c4 c5 c6
      obtain ⟨k, hk, rfl, hrel⟩ := hrel
      have hbk : ∀ wr', Only [] w11 wr' → Lx wr' w.heap.size ⟨f, ep, u, ct, true, false, l9⟩ (.slice A9 l9.length d9) := fun wr' h => b11.kept h (by simp)
      replace hbk := Lib.hid hbk
      by_cases hlt : k < l9.length
      · obtain ⟨g, o, hA9, hg, hat⟩ := hel9.get hlt
        have hy : l9[k]? = some l9[k] := List.getElem?_eq_getElem hlt
        have hatk : ∀ wr', Only [] w11 wr' → wr'.cell? ⟨g, o + k * 2, none⟩ = some (.int .u32 l9[k].client) ∧ wr'.cell? ⟨g, o + k * 2 + 1, none⟩ = some (.int .u32 l9[k].mode) := fun wr' h => hols_at (hat.kept h (by simp)) hlt
        have hym : l9[k] ∈ l9 := List.getElem_mem hlt
        generalize l9[k] = y at *
        have hyn : y.client ≠ cl := findC_none hno9.out y hym
        have hsn := get_snoc hy
        obtain ⟨y0, y1⟩ := y
        simp only at hatk hyn
        replace hatk := Lib.hid hatk
        replace hy := Lib.hid hy
        replace hym := Lib.hid hym
        replace hsn := Lib.hid hsn
        clear hat
        rcases hrel with ⟨rfl, hm, hlo⟩ | ⟨rfl, hm, hhi⟩
        · by_cases hcy : cl < y0
          · have d8 : decide (cl < y0) = true := decide_eq_true hcy
            have hnx : insH (l9.take (k + 1)) ⟨cl, m⟩ = l9.take k ++ [⟨cl, m⟩] ++ [⟨y0, y1⟩] := by rw [hsn.out, ins_after _ _ _ hcy, ins_end hlo.out]
            have hhi' : Hid (∃ y ∈ l9.take (k + 1), cl < y.client) := ⟨⟨y0, y1⟩, by rw [hsn.out]; simp, hcy⟩
            have hTl : (l9.take k).length ≤ 3 := by rw [List.length_take]; omega
            replace hnx := Lib.hid hnx
            generalize l9.take k = T at *
            have hm5 := Lib.hid (hm.kept ((Only.refl [] wr).alloc (.cells #[.int .u32 cl, .int .u32 m] 47)))
            have b5 : Blk (wr.alloc (.cells #[.int .u32 cl, .int .u32 m] 47)) wr.heap.size 47 (holE ⟨cl, m⟩).toArray := Blk.new _ _ _
            replace b5 := Lib.hid b5
            obtain ⟨c0, c1, c2, c3, c4, c5, c6⟩ := Lx.at (hbk.out _ hm.only) (Only.refl [] _) (by simp)
            obtain ⟨e0, e1⟩ := hatk.out _ hm.only
            subst hA9
            have hTl2 : (T ++ [(⟨cl, m⟩ : Hol)]).length ≤ 4 := by simp; omega
            replace hcy := Lib.hid hcy
            clear hm
            go_wp2_with (at_builtin; first
              | (refine wpList_push rfl (.tmp 86) (.tmp 90) 23 rfl 47 _ 8 holE_length (by decide) holE_one Try.underlying23 info_hol rfl _ T.length T rfl hm5.out.own wr.heap.size ⟨cl, m⟩ _ rfl b5.out (by unfold maxLen; omega) (by omega) ?_; intro vv w6 h6 g6 a6; have hm6 := Lib.hid (hm5.out.pushed h6 g6 a6); obtain ⟨m0, m1, m2, m3, m4, m5, m6⟩ := Lx.at (hbk.out _ hm6.out.only) (Only.refl [] _) (by simp); obtain ⟨n0, n1⟩ := hatk.out _ hm6.out.only; have hm7 := Lib.hid (hm6.out.kept ((Only.refl [] w6).alloc (.cells #[.int .u32 y0, .int .u32 y1] 47))); have b7 := Lib.hid (Blk.new w6 47 #[.int .u32 y0, .int .u32 y1]); clear h6 g6 a6 hm5 b5 c0 c1 c2 c3 c4 c5 c6 e0 e1)
              | (go_must (refine wpList_push rfl (.tmp 92) (.tmp 98) 23 rfl 47 _ 8 holE_length (by decide) holE_one Try.underlying23 info_hol rfl _ (T ++ [(⟨cl, m⟩ : Hol)]).length (T ++ [(⟨cl, m⟩ : Hol)]) rfl hm7.out.own w6.heap.size ⟨y0, y1⟩ _ rfl b7.out (by unfold maxLen; omega) (by omega) ?_; intro v8 w8 h8 g8 a8); have hm8 := Lib.hid (hm7.out.pushed h8 g8 a8); clear h8 g8 a8))
            go_roundw
            case rel => exact ⟨k + 1, by omega, by go_num, .inr ⟨rfl, by rw [hnx.out]; exact hm8.out, hhi'⟩⟩
            case measure => simp [intOf]; omega
          · have d8 : decide (cl < y0) = false := decide_eq_false hcy
            have hlo' : Hid (∀ y ∈ l9.take (k + 1), y.client < cl) := fun z hz => by
              rw [hsn.out, List.mem_append, List.mem_singleton] at hz
              rcases hz with hz | rfl
              · exact hlo.out z hz
              · show y0 < cl; omega
            have hTl : (l9.take k).length ≤ 3 := by rw [List.length_take]; omega
            obtain ⟨T, hTT⟩ : ∃ T, T = l9.take k := ⟨_, rfl⟩
            rw [← hTT] at hm hTl
            have hnx : l9.take (k + 1) = T ++ [⟨y0, y1⟩] := by rw [hsn.out, ← hTT]
            replace hnx := Lib.hid hnx
            replace hTT := Lib.hid hTT
            have hm5 := Lib.hid (hm.kept ((Only.refl [] wr).alloc (.cells #[.int .u32 y0, .int .u32 y1] 47)))
            have b5 : Blk (wr.alloc (.cells #[.int .u32 y0, .int .u32 y1] 47)) wr.heap.size 47 (holE ⟨y0, y1⟩).toArray := Blk.new _ _ _
            replace b5 := Lib.hid b5
            obtain ⟨c0, c1, c2, c3, c4, c5, c6⟩ := Lx.at (hbk.out _ hm.only) (Only.refl [] _) (by simp)
            obtain ⟨e0, e1⟩ := hatk.out _ hm.only
            subst hA9
            replace hcy := Lib.hid hcy
            clear hm
            go_wp2_with (at_builtin; go_must (refine wpList_push rfl (.tmp 92) (.tmp 98) 23 rfl 47 _ 8 holE_length (by decide) holE_one Try.underlying23 info_hol rfl _ T.length T rfl hm5.out.own wr.heap.size ⟨y0, y1⟩ _ rfl b5.out (by unfold maxLen; omega) (by omega) ?_; intro v8 w8 h8 g8 a8); have hm8 := Lib.hid (hm5.out.pushed h8 g8 a8); clear h8 g8 a8)
            go_roundw
            case rel => exact ⟨k + 1, by omega, by go_num, .inl ⟨rfl, by rw [hnx.out]; exact hm8.out, hlo'⟩⟩
            case measure => simp [intOf]; omega
        · have hcy := take_end hri.out hy.out hhi.out
          simp only at hcy
          have hhi' : Hid (∃ y ∈ l9.take (k + 1), cl < y.client) := ⟨⟨y0, y1⟩, by rw [hsn.out]; simp, hcy⟩
          have hTl : (insH (l9.take k) ⟨cl, m⟩).length ≤ 4 := by rw [ins_length, List.length_take]; omega
          obtain ⟨T, hTT⟩ : ∃ T, T = insH (l9.take k) ⟨cl, m⟩ := ⟨_, rfl⟩
          rw [← hTT] at hm hTl
          have hnx : insH (l9.take (k + 1)) ⟨cl, m⟩ = T ++ [⟨y0, y1⟩] := by rw [hsn.out, ins_after _ _ _ hcy, ← hTT]
          replace hnx := Lib.hid hnx
          replace hTT := Lib.hid hTT
          have hm5 := Lib.hid (hm.kept ((Only.refl [] wr).alloc (.cells #[.int .u32 y0, .int .u32 y1] 47)))
          have b5 : Blk (wr.alloc (.cells #[.int .u32 y0, .int .u32 y1] 47)) wr.heap.size 47 (holE ⟨y0, y1⟩).toArray := Blk.new _ _ _
          replace b5 := Lib.hid b5
          obtain ⟨c0, c1, c2, c3, c4, c5, c6⟩ := Lx.at (hbk.out _ hm.only) (Only.refl [] _) (by simp)
          obtain ⟨e0, e1⟩ := hatk.out _ hm.only
          subst hA9
          replace hcy := Lib.hid hcy
          clear hm
          go_wp2_with (at_builtin; go_must (refine wpList_push rfl (.tmp 92) (.tmp 98) 23 rfl 47 _ 8 holE_length (by decide) holE_one Try.underlying23 info_hol rfl _ T.length T rfl hm5.out.own wr.heap.size ⟨y0, y1⟩ _ rfl b5.out (by unfold maxLen; omega) (by omega) ?_; intro v8 w8 h8 g8 a8); have hm8 := Lib.hid (hm5.out.pushed h8 g8 a8); clear h8 g8 a8)
          go_roundw
          case rel => exact ⟨k + 1, by omega, by go_num, .inr ⟨rfl, by rw [hnx.out]; exact hm8.out, hhi'⟩⟩
          case measure => simp [intOf]; omega
      · have hfl : l9.take k = l9 := List.take_of_length_le (by omega)
        rw [hfl] at hrel
        have hil : (insH l9 ⟨cl, m⟩).length ≤ 4 := by rw [ins_length]; omega
        replace hfl := Lib.hid hfl
        obtain ⟨l2, hl2⟩ : ∃ l2, l2 = insH l9 ⟨cl, m⟩ := ⟨_, rfl⟩
        rw [← hl2] at hrel hil hj
        obtain ⟨mx, hmx⟩ : ∃ mx, maxI u m = mx := ⟨_, rfl⟩
        rw [hmx] at hj
        obtain rfl := hj.out
        clear hj
        unfold maxI at hmx
        have hsz11 : w.heap.size + 1 < w11.heap.size := by have := hs11.out; have := q1.out; omega
        replace hsz11 := Lib.hid hsz11
        rcases hrel with ⟨rfl, hm, hlo⟩ | ⟨rfl, hm, hhi⟩
        · have hl2e : l2 = l9 ++ [⟨cl, m⟩] := by rw [hl2, ins_end hlo.out]
          replace hl2 := Lib.hid hl2
          replace hl2e := Lib.hid hl2e
          have hm5 := Lib.hid (hm.kept ((Only.refl [] wr).alloc (.cells #[.int .u32 cl, .int .u32 m] 47)))
          have b5 : Blk (wr.alloc (.cells #[.int .u32 cl, .int .u32 m] 47)) wr.heap.size 47 (holE ⟨cl, m⟩).toArray := Blk.new _ _ _
          replace b5 := Lib.hid b5
          obtain ⟨c0, c1, c2, c3, c4, c5, c6⟩ := Lx.at (hbk.out _ hm.only) (Only.refl [] _) (by simp)
          clear hm
          by_cases hum : u < m
          · rw [if_pos hum] at hmx
            subst hmx
            have d8 : decide (u < m) = true := decide_eq_true hum
            go_wp2_with (first
              | (at_builtin; refine wpList_push rfl (.tmp 102) (.tmp 106) 23 rfl 47 _ 8 holE_length (by decide) holE_one Try.underlying23 info_hol rfl _ l9.length l9 rfl hm5.out.own wr.heap.size ⟨cl, m⟩ _ rfl b5.out (by unfold maxLen; omega) (by omega) ?_; intro vv w6 h6 g6 a6; have hm6 := hm5.out.pushed h6 g6 a6; rw [← hl2e.out] at hm6; obtain ⟨A2, d2, hv2, _⟩ := hm6.shape; subst hv2; have ne20 := Lib.hid (ne_of_new hm6 (Nat.lt_trans (Nat.lt_succ_self _) hsz11.out)); have ne21 := Lib.hid (ne_of_new hm6 hsz11.out); have z6 := Blk.kept z11 hm6.only (by simp); have f6 := Blk.free (hbk.out _ hm6.only) 6; have f2 := Blk.free (hbk.out _ hm6.only) 2; obtain ⟨m0, m1, m2, m3, m4, m5, m6⟩ := Lx.at (hbk.out _ hm6.only) (Only.refl [] _) (by simp); have hm9 := Lib.hid (Hs.from ko hm6); have z7 := Blk.far (p := ⟨w.heap.size, 6, none⟩) (u := .slice A2 l2.length d2) z6 (by simp); have z8 := Blk.far (p := ⟨w.heap.size, 2, none⟩) (u := .int .u32 m) z7 (by simp))
              | (refine wpList_store_lk ⟨f, ep, m, ct, true, false, l2⟩ noL (.slice A2 l2.length d2) _ rfl rfl _ _ rfl (w.heap.size + 1) rfl rfl z8 ?_; intro w7 b7 k7))
            refine bodyPost_ret (v := .tuple #[lkV ⟨f, ep, m, ct, true, false, l2⟩ (.slice A2 l2.length d2), .int .i64 1, .int .i64 0]) (results_lk2 rfl _ _ (w.heap.size + 1) rfl _ _ b7 _ _ rfl rfl) rfl ?_
            have kk : Only [w.heap.size] w6 ((w6.setCell ⟨w.heap.size, 6, none⟩ (.slice A2 l2.length d2)).setCell ⟨w.heap.size, 2, none⟩ (.int .u32 m)) := ((Only.refl _ _).setCell (.inl (by simp)) _).setCell (.inl (by simp)) _
            have hfin := (hm9.out.far kk (Nat.le_refl _) ne20.out).far k7 (by omega) ne21.out
            exact ⟨_, _, rfl, hfin.els, hfin.only⟩
          · rw [if_neg hum] at hmx
            subst hmx
            have d8 : decide (u < m) = false := decide_eq_false hum
            go_wp2_with (first
              | (at_builtin; refine wpList_push rfl (.tmp 102) (.tmp 106) 23 rfl 47 _ 8 holE_length (by decide) holE_one Try.underlying23 info_hol rfl _ l9.length l9 rfl hm5.out.own wr.heap.size ⟨cl, m⟩ _ rfl b5.out (by unfold maxLen; omega) (by omega) ?_; intro vv w6 h6 g6 a6; have hm6 := hm5.out.pushed h6 g6 a6; rw [← hl2e.out] at hm6; obtain ⟨A2, d2, hv2, _⟩ := hm6.shape; subst hv2; have ne20 := Lib.hid (ne_of_new hm6 (Nat.lt_trans (Nat.lt_succ_self _) hsz11.out)); have ne21 := Lib.hid (ne_of_new hm6 hsz11.out); have z6 := Blk.kept z11 hm6.only (by simp); have f6 := Blk.free (hbk.out _ hm6.only) 6; have f2 := Blk.free (hbk.out _ hm6.only) 2; obtain ⟨m0, m1, m2, m3, m4, m5, m6⟩ := Lx.at (hbk.out _ hm6.only) (Only.refl [] _) (by simp); have hm9 := Lib.hid (Hs.from ko hm6); have z7 := Blk.far (p := ⟨w.heap.size, 6, none⟩) (u := .slice A2 l2.length d2) z6 (by simp); have z8 := Blk.far (p := ⟨w.heap.size, 2, none⟩) (u := .int .u32 m) z7 (by simp))
              | (refine wpList_store_lk ⟨f, ep, u, ct, true, false, l2⟩ noL (.slice A2 l2.length d2) _ rfl rfl _ _ rfl (w.heap.size + 1) rfl rfl z7 ?_; intro w7 b7 k7))
            refine bodyPost_ret (v := .tuple #[lkV ⟨f, ep, u, ct, true, false, l2⟩ (.slice A2 l2.length d2), .int .i64 1, .int .i64 0]) (results_lk2 rfl _ _ (w.heap.size + 1) rfl _ _ b7 _ _ rfl rfl) rfl ?_
            have kk : Only [w.heap.size] w6 (w6.setCell ⟨w.heap.size, 6, none⟩ (.slice A2 l2.length d2)) := (Only.refl _ _).setCell (.inl (by simp)) _
            have hfin := (hm9.out.far kk (Nat.le_refl _) ne20.out).far k7 (by omega) ne21.out
            exact ⟨_, _, rfl, hfin.els, hfin.only⟩
        · replace hl2 := Lib.hid hl2
          obtain ⟨w6, hw6⟩ : ∃ w6, w6 = wr := ⟨_, rfl⟩
          rw [← hw6] at hm ⊢
          clear hw6
          have hm6 := hm
          obtain ⟨A2, d2, hv2, _⟩ := hm6.shape
          subst hv2
          have ne20 := Lib.hid (ne_of_new hm6 (Nat.lt_trans (Nat.lt_succ_self _) hsz11.out))
          have ne21 := Lib.hid (ne_of_new hm6 hsz11.out)
          have z6 := Blk.kept z11 hm6.only (by simp)
          have f6 := Blk.free (hbk.out _ hm6.only) 6
          have f2 := Blk.free (hbk.out _ hm6.only) 2
          obtain ⟨m0, m1, m2, m3, m4, m5, m6⟩ := Lx.at (hbk.out _ hm6.only) (Only.refl [] _) (by simp)
          have hm9 := Lib.hid (Hs.from ko hm6)
          have z7 := Blk.far (p := ⟨w.heap.size, 6, none⟩) (u := .slice A2 l2.length d2) z6 (by simp)
          have z8 := Blk.far (p := ⟨w.heap.size, 2, none⟩) (u := .int .u32 m) z7 (by simp)
          by_cases hum : u < m
          · rw [if_pos hum] at hmx
            subst hmx
            have d8 : decide (u < m) = true := decide_eq_true hum
            go_wp2_with (refine wpList_store_lk ⟨f, ep, m, ct, true, false, l2⟩ noL (.slice A2 l2.length d2) _ rfl rfl _ _ rfl (w.heap.size + 1) rfl rfl z8 ?_; intro w7 b7 k7)
            refine bodyPost_ret (v := .tuple #[lkV ⟨f, ep, m, ct, true, false, l2⟩ (.slice A2 l2.length d2), .int .i64 1, .int .i64 0]) (results_lk2 rfl _ _ (w.heap.size + 1) rfl _ _ b7 _ _ rfl rfl) rfl ?_
            have kk : Only [w.heap.size] w6 ((w6.setCell ⟨w.heap.size, 6, none⟩ (.slice A2 l2.length d2)).setCell ⟨w.heap.size, 2, none⟩ (.int .u32 m)) := ((Only.refl _ _).setCell (.inl (by simp)) _).setCell (.inl (by simp)) _
            have hfin := (hm9.out.far kk (Nat.le_refl _) ne20.out).far k7 (by omega) ne21.out
            exact ⟨_, _, rfl, hfin.els, hfin.only⟩
          · rw [if_neg hum] at hmx
            subst hmx
            have d8 : decide (u < m) = false := decide_eq_false hum
            go_wp2_with (refine wpList_store_lk ⟨f, ep, u, ct, true, false, l2⟩ noL (.slice A2 l2.length d2) _ rfl rfl _ _ rfl (w.heap.size + 1) rfl rfl z7 ?_; intro w7 b7 k7)
            refine bodyPost_ret (v := .tuple #[lkV ⟨f, ep, u, ct, true, false, l2⟩ (.slice A2 l2.length d2), .int .i64 1, .int .i64 0]) (results_lk2 rfl _ _ (w.heap.size + 1) rfl _ _ b7 _ _ rfl rfl) rfl ?_
            have kk : Only [w.heap.size] w6 (w6.setCell ⟨w.heap.size, 6, none⟩ (.slice A2 l2.length d2)) := (Only.refl _ _).setCell (.inl (by simp)) _
            have hfin := (hm9.out.far kk (Nat.le_refl _) ne20.out).far k7 (by omega) ne21.out
            exact ⟨_, _, rfl, hfin.els, hfin.only⟩
end Go.Proofs.Ytnmmdnecojgccaa
