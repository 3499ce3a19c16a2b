/- The document's put: a row in its place. -/
import Derived.Test.YthpjkhmkjhgbkaaGreatDoorUnd5
import Derived.Test.YthpjkhmkjhgbkaaGreatDoorKeeps5
namespace Go.Proofs.YthpjkhmkjhgbkaaGreatDoor
open Go.RowKit Go.Maps

theorem insR_at (x : Rw) : ∀ (l : List Rw) (k : Nat), k ≤ l.length → (∀ (j : Nat) y, j < k → l[j]? = some y → bytesBefore y.key x.key = true) → (∀ y, l[k]? = some y → bytesBefore x.key y.key = true) → insR x l = l.take k ++ x :: l.drop k
  | [], k, hk, _, _ => by
    obtain rfl : k = 0 := by simpa using hk
    rfl
  | y :: r, 0, _, _, h2 => by
    rw [insR, if_pos (h2 y rfl)]
    rfl
  | y :: r, k + 1, hk, h1, h2 => by
    have hy := h1 0 y (by omega) rfl
    have ih := insR_at x r k (by simpa using hk) (fun j z hj hz => h1 (j + 1) z (by omega) hz) (fun z hz => h2 z hz)
    rw [insR, if_neg (by rw [bb_asymm _ _ hy]; decide), ih]
    rfl
theorem Mine.joined {α : Type} {enc : α → List Value} {k : Nat} {e : TypeId} {w w1 w2 : World} {v v' : Value} {l ys : List α} (h : Mine enc k e w w1 v l) (h1 : w2.ownsRow 0 e k v' (l.length + ys.length) (encs enc (l ++ ys))) (h2 : w1.grownBy w2 v.ownBlock) (h3 : v'.ownBlock = v.ownBlock ∨ v'.ownBlock = some w1.heap.size) : Mine enc k e w w2 v' (l ++ ys) := by
  refine ⟨by rw [List.length_append]; exact h1, fun g hg => ?_, h.only.grown h2 (fun j hj => .inr (h.new j hj))⟩
  rcases h3 with h3 | h3
  · exact h.new g (by rw [← h3]; exact hg)
  · rw [h3] at hg
    injection hg with hg
    have := h.only.size
    omega

set_option maxRecDepth 100000 in
set_option maxHeartbeats 2000000 in
theorem rput_any (w : World) (g o c : Nat) (l : List Rw) (x : Rw) (hat : ElsAt rwE 3 w g o l) (hl : l.length ≤ 100000) (hc : l.length ≤ c) (hne : ∀ y ∈ l, y.key ≠ x.key) :
    Calls Tryz.prog 60 #[.slice (some ⟨g, o, none⟩) l.length c, .agg (rwE x).toArray] w fun e w' => ∃ v, e = .returned v ∧ Mine rwE 3 81 w w' v (insR x l) := by
  have hlI : (l.length : Int) ≤ 100000 := by omega
  have hcI : (l.length : Int) ≤ (c : Int) := by omega
  have hrise : ∀ (k : Nat) y z, l[k]? = some y → bytesBefore y.key x.key = false → y = z → bytesBefore x.key z.key = true := fun k y z hy hb e => by
    subst e
    rcases bb_total y.key x.key (hne y (List.mem_of_getElem? hy)) with h | h
    · rw [h] at hb; cases hb
    · exact h
  have hins := insR_at x l
  have hless := fun a : List UInt8 => less_before a x.key
  have k1 : Only [] w (w.alloc (.cells (rwE x).toArray 81)) := (Only.refl [] w).alloc _
  have b1 : Blk (w.alloc (.cells (rwE x).toArray 81)) w.heap.size 81 (rwE x).toArray := Blk.new _ _ _
  have henc : (rwE x).toArray = #[.string (strOf x.key), .string (strOf x.val), .int .i64 (x.at_ : Int)] := rfl
  have q0 := b1.cell 0
  have q1 := b1.cell 1
  have q2 := b1.cell 2
  rw [henc] at q0 q1 q2 k1
  simp only [List.getElem?_toArray, List.getElem?_cons_zero, List.getElem?_cons_succ] at q0 q1 q2
  rw [henc]
  have hxk : (strOf x.key).toList = x.key := str_toList _
  generalize hks : strOf x.key = ks at *
  generalize hvs : strOf x.val = vs at *
  replace hks := Lib.hid hks
  replace hvs := Lib.hid hvs
  replace hrise := Lib.hid hrise
  replace hins := Lib.hid hins
  replace hless := Lib.hid hless
  replace hxk := Lib.hid hxk
  replace henc := Lib.hid henc
  clear b1 hne
  go_enter Tryz.func60, Tryz.ntmps60
  go_wp2_with fail
  obtain ⟨bx, hbx⟩ : ∃ bx, bx = w.heap.size := ⟨_, rfl⟩
  rw [← hbx] at q0 q1 q2
  simp only [← hbx]
  generalize (w.alloc (.cells #[.string ks, .string vs, .int .i64 (x.at_ : Int)] 81)) = w1 at *
  replace hbx := Lib.hid hbx
  go_loopw [5] (fun i wr => ∃ k : Nat, k ≤ l.length ∧ i = .int .i64 k ∧ Hid (∀ (j : Nat) y, j < k → l[j]? = some y → bytesBefore y.key x.key = true) ∧ Only [] w1 wr) (fun i _ => l.length - (intOf i).toNat)
  case atStart => exact ⟨0, Nat.zero_le _, rfl, fun j y hj => by omega, Only.refl _ _⟩
  case round =>
    obtain ⟨k, hk, rfl, hbef, honly⟩ := hrel
    have p0 := honly.cell q0 (by simp)
    have p1 := honly.cell q1 (by simp)
    have p2 := honly.cell q2 (by simp)
    have hatw := hat.kept (k1.trans honly) (by simp)
    by_cases hlt : k < l.length
    · obtain ⟨c0, _, _⟩ := rws_at hatw hlt
      have hy : l[k]? = some l[k] := List.getElem?_eq_getElem hlt
      have hle := hless.out l[k].key
      have hyl : (strOf l[k].key).toList = l[k].key := str_toList _
      generalize l[k] = y at *
      generalize strOf y.key = ys at *
      cases hb : bytesBefore y.key x.key with
      | true =>
        have hl1 : Op.bytesLess ys.toList ks.toList = true := by rw [hyl, hxk.out, hle, hb]
        have hnext : Hid (∀ (j : Nat) y, j < k + 1 → l[j]? = some y → bytesBefore y.key x.key = true) := fun j z hj hz => by
          by_cases hjk : j = k
          · subst hjk
            rw [hy] at hz
            injection hz with hz
            subst hz
            exact hb
          · exact hbef.out j z (by omega) hz
        replace hyl := Lib.hid hyl
        replace hle := Lib.hid hle
        replace hy := Lib.hid hy
        replace hb := Lib.hid hb
        clear hbef hatw
        go_wp2
        go_quiet (fail)
        go_wp2
        go_roundw
        case rel => exact ⟨k + 1, by omega, by go_num, hnext, honly.drewN _⟩
        case measure => simp [intOf]; omega
      | false =>
        have hl1 : Op.bytesLess ys.toList ks.toList = false := by rw [hyl, hxk.out, hle, hb]
        have hgo := hins.out k hk hbef.out (fun z hz => hrise.out k y z hy hb (by rw [hy] at hz; injection hz))
        replace hyl := Lib.hid hyl
        replace hle := Lib.hid hle
        replace hy := Lib.hid hy
        replace hb := Lib.hid hb
        clear hbef
        have hdrop : (l.drop k).length = l.length - k := by simp
        have htake : (l.take k).length = k := by simp; omega
        have hkc : (k : Int) ≤ (c : Int) := by omega
        have hkI : (k : Int) ≤ (l.length : Int) := by omega
        replace hgo := Lib.hid hgo
        replace hdrop := Lib.hid hdrop
        replace htake := Lib.hid htake
        go_wp2
        go_quiet (fail)
        have honly' := honly.drewN nq
        have hatw' := hat.kept (k1.trans honly') (by simp)
        clear hatw p0 p1 p2 c0
        go_wp2_with (at_builtin; go_must (refine wpList_append_els rwE_length (by decide) rwE_one rfl (.tmp 23) (.tmp 26) 32 rfl 81 (.agg #[.string ⟨#[]⟩, .string ⟨#[]⟩, .int .i64 0]) 40 Tryz.underlying32 info_rw rfl (.slice none 0 0) 0 [] rfl (World.ownsRow_nil _ 0 _ 3) g o k _ (l.take k) htake.out.symm rfl (hatw'.take k) ?c1 ?c2 ?go))
        case c1 => unfold maxLen; omega
        case c2 => omega
        case go =>
        intro v3 w3 hown3 hg3 hat3
        have hm3 : Mine rwE 3 81 w w3 v3 ([] ++ l.take k) := (Mine.start rwE 3 81 (k1.trans honly')).joined (by rw [htake.out]; simpa using hown3) hg3 hat3
        rw [List.nil_append] at hm3
        have k03 := (Only.refl [] _).grown hg3 (fun j hj => by simp [Value.ownBlock] at hj)
        have s0 := k03.cell (honly'.cell q0 (by simp)) (by simp)
        have s1 := k03.cell (honly'.cell q1 (by simp)) (by simp)
        have s2 := k03.cell (honly'.cell q2 (by simp)) (by simp)
        have htl : (l.take k).length ≤ 100000 := by have := htake.out; omega
        have b6 : Blk (w3.alloc (.cells #[.string ks, .string vs, .int .i64 (x.at_ : Int)] 81)) w3.heap.size 81 (rwE x).toArray := by
          rw [henc.out]
          exact Blk.new _ _ _
        have hm6 := hm3.keep ((Only.refl [] w3).alloc (.cells #[.string ks, .string vs, .int .i64 (x.at_ : Int)] 81))
        clear hown3 hg3 hat3 hm3 k03
        go_wp2_with (first | (at_builtin; (refine wpList_push rfl _ _ 32 rfl 81 _ 40 rwE_length (by decide) rwE_one Tryz.underlying32 info_rw rfl _ (l.take k).length (l.take k) rfl hm6.own w3.heap.size x _ rfl b6 (by unfold maxLen; omega) (by omega) ?_); intro vv' w8 h8 g8 a8; have hm8 := hm6.pushed h8 g8 a8; have hat8 := hat.kept hm8.only (by simp); have hl8 : (l.take k ++ [x]).length = k + 1 := (by rw [List.length_append, htake.out]; rfl); clear h8 g8 a8 hm6 b6 s0 s1 s2) | (at_builtin; (refine wpList_append_els rwE_length (by decide) rwE_one rfl (.tmp 32) (.tmp 35) 32 rfl 81 (.agg #[.string ⟨#[]⟩, .string ⟨#[]⟩, .int .i64 0]) 40 Tryz.underlying32 info_rw rfl vv' (l.take k ++ [x]).length (l.take k ++ [x]) rfl hm8.own g (o + k * 3) (l.length - k) _ (l.drop k) hdrop.out.symm rfl (hat8.drop k) ?d1 ?d2 ?go2)))
        case d1 => unfold maxLen; omega
        case d2 => omega
        case go2 =>
        intro v9 w9 hown9 hg9 hat9
        have hm9 := hm8.joined (ys := l.drop k) (by rw [hdrop.out, hl8, List.append_assoc, List.singleton_append]; simpa using hown9) hg9 hat9
        rw [List.append_assoc, List.singleton_append, ← hgo.out] at hm9
        have hfin := hm9
        replace hfin := Lib.hid hfin
        clear hown9 hg9 hat9 hm8 hm9 hat8
        go_wp2
        go_ret
        exact ⟨_, rfl, hfin.out⟩
    · have hge : (l.length : Int) ≤ k := by omega
      have hgo := hins.out k hk hbef.out (fun z hz => by rw [List.getElem?_eq_none (by omega)] at hz; cases hz)
      have hlk : l.length - k = 0 := by omega
      rw [List.drop_of_length_le (by omega : l.length ≤ k)] at hgo
      clear hbef
      have htake : (l.take k).length = k := by simp; omega
      have hkc : (k : Int) ≤ (c : Int) := by omega
      have hkI : (k : Int) ≤ (l.length : Int) := by omega
      replace hgo := Lib.hid hgo
      replace htake := Lib.hid htake
      go_wp2
      go_quiet (fail)
      have honly' := honly.drewN nq
      have hatw' := hat.kept (k1.trans honly') (by simp)
      clear hatw p0 p1 p2
      go_wp2_with (at_builtin; go_must (refine wpList_append_els rwE_length (by decide) rwE_one rfl (.tmp 23) (.tmp 26) 32 rfl 81 (.agg #[.string ⟨#[]⟩, .string ⟨#[]⟩, .int .i64 0]) 40 Tryz.underlying32 info_rw rfl (.slice none 0 0) 0 [] rfl (World.ownsRow_nil _ 0 _ 3) g o k _ (l.take k) htake.out.symm rfl (hatw'.take k) ?c1 ?c2 ?go))
      case c1 => unfold maxLen; omega
      case c2 => omega
      case go =>
      intro v3 w3 hown3 hg3 hat3
      have hm3 : Mine rwE 3 81 w w3 v3 ([] ++ l.take k) := (Mine.start rwE 3 81 (k1.trans honly')).joined (by rw [htake.out]; simpa using hown3) hg3 hat3
      rw [List.nil_append] at hm3
      have k03 := (Only.refl [] _).grown hg3 (fun j hj => by simp [Value.ownBlock] at hj)
      have s0 := k03.cell (honly'.cell q0 (by simp)) (by simp)
      have s1 := k03.cell (honly'.cell q1 (by simp)) (by simp)
      have s2 := k03.cell (honly'.cell q2 (by simp)) (by simp)
      have htl : (l.take k).length ≤ 100000 := by have := htake.out; omega
      have b6 : Blk (w3.alloc (.cells #[.string ks, .string vs, .int .i64 (x.at_ : Int)] 81)) w3.heap.size 81 (rwE x).toArray := by
        rw [henc.out]
        exact Blk.new _ _ _
      have hm6 := hm3.keep ((Only.refl [] w3).alloc (.cells #[.string ks, .string vs, .int .i64 (x.at_ : Int)] 81))
      clear hown3 hg3 hat3 hm3 k03
      go_wp2_with (first | (at_builtin; (refine wpList_push rfl _ _ 32 rfl 81 _ 40 rwE_length (by decide) rwE_one Tryz.underlying32 info_rw rfl _ (l.take k).length (l.take k) rfl hm6.own w3.heap.size x _ rfl b6 (by unfold maxLen; omega) (by omega) ?_); intro vv' w8 h8 g8 a8; have hm8 := hm6.pushed h8 g8 a8; have hat8 := hat.kept hm8.only (by simp); have hl8 : (l.take k ++ [x]).length = k + 1 := (by rw [List.length_append, htake.out]; rfl); clear h8 g8 a8 hm6 b6 s0 s1 s2) | (at_builtin; (refine wpList_append_any rwE_length (by decide) rwE_one rfl (.tmp 32) (.tmp 35) 32 rfl 81 (.agg #[.string ⟨#[]⟩, .string ⟨#[]⟩, .int .i64 0]) 40 Tryz.underlying32 info_rw rfl vv' (l.take k ++ [x]).length (l.take k ++ [x]) rfl hm8.own _ _ [] rfl (.inl rfl) ?d1 ?d2 ?go2)))
      all_goals first
        | (unfold maxLen; simp only [List.length_nil]; omega)
        | (simp only [List.length_nil]; omega)
        | (intro v9 w9 hown9 hg9 hat9; have hm9 := hm8.joined (ys := []) (by rw [hl8]; simpa using hown9) hg9 hat9; rw [List.append_nil, ← hgo.out] at hm9; have hfin := hm9; replace hfin := Lib.hid hfin; clear hown9 hg9 hat9 hm8 hm9 hat8; go_wp2; all_goals (go_ret; exact ⟨_, rfl, hfin.out⟩))
end Go.Proofs.YthpjkhmkjhgbkaaGreatDoor
