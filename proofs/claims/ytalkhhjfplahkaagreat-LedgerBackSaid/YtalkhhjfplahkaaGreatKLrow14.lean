/- The rows of locks and of seats. -/
import Derived.Test.YtalkhhjfplahkaaGreatKRow14
import Derived.Test.YtalkhhjfplahkaaGreatKK
namespace Go.Proofs.YtalkhhjfplahkaaGreat
open Go.RowKit
set_option linter.unusedVariables false

def numE (n : Nat) : List Value := [.int .u32 (n : Int)]
theorem numE_length (n : Nat) : (numE n).length = 1 := rfl
theorem numE_one (n : Nat) : ∀ v ∈ numE n, v.oneCell' = true := by
  intro v hv
  simp [numE] at hv
  subst hv
  rfl
theorem nums_els {w : World} {A : Option Addr} {l : List Nat} (S : List Nat) (h : Els numE 1 w A l) (hS : ∀ a, A = some a → a.block ∉ S) : Nums w S A l := by
  rcases h with h | ⟨g, o, rfl, _, hat⟩
  · exact .inl h
  · exact .inr ⟨g, o, rfl, hS _ rfl, fun j hj => by simpa using hat j hj 0 _ rfl⟩
theorem holN_snoc (l : List Hol) (x : Hol) : holN (l ++ [x]) = holN l ++ [x.client.toNat, x.mode.toNat] := by
  induction l with
  | nil => rfl
  | cons a r ih => simp [holN, ih]
theorem holN_take {l : List Hol} {n : Nat} {x : Hol} (h : l[n]? = some x) : holN (l.take (n + 1)) = holN (l.take n) ++ [x.client.toNat, x.mode.toNat] := by
  rw [List.take_add_one, h]
  exact holN_snoc _ _


set_option maxRecDepth 100000 in
set_option maxHeartbeats 4000000 in
theorem lockRow_any (w : World) (L : Lk) (A : Option Addr) (c : Nat) (hb : Els holE 2 w A L.hs) (hl : L.hs.length ≤ 1000) (hf : L.Fit) : Calls Tryz.prog 14 #[lkV L (.slice A L.hs.length c)] w fun e w' => e = .returned (chV (lockR L)) ∧ Only [] w w' := by
  obtain ⟨x0, x1, x2, x3, fe, go, hs⟩ := L
  obtain ⟨f0, f1, f2, f3, fh⟩ := hf
  obtain ⟨n0, rfl, hn0⟩ := u32_nat f0
  obtain ⟨n1, rfl, hn1⟩ := u32_nat f1
  obtain ⟨n2, rfl, hn2⟩ := u32_nat f2
  obtain ⟨n3, rfl, hn3⟩ := u32_nat f3
  clear f0 f1 f2 f3
  unfold lkV
  simp only at hl hb fh ⊢
  have hlI : (hs.length : Int) ≤ 1000 := by omega
  have k0 : Only [] w ((w.alloc (.cells #[.int .u32 (n0 : Int), .int .u32 (n1 : Int), .int .u32 (n2 : Int), .int .u32 (n3 : Int), .bool fe, .bool go, .slice A hs.length c] 45)).alloc (.cells #[.string ⟨#[]⟩, .string ⟨#[]⟩, .bool false] 48)) := ((Only.refl [] w).alloc _).alloc _
  have b1 := Blk.new w 45 #[.int .u32 (n0 : Int), .int .u32 (n1 : Int), .int .u32 (n2 : Int), .int .u32 (n3 : Int), .bool fe, .bool go, .slice A hs.length c]
  have b2 : Blk ((w.alloc (.cells #[.int .u32 (n0 : Int), .int .u32 (n1 : Int), .int .u32 (n2 : Int), .int .u32 (n3 : Int), .bool fe, .bool go, .slice A hs.length c] 45)).alloc (.cells #[.string ⟨#[]⟩, .string ⟨#[]⟩, .bool false] 48)) (w.heap.size + 1) 48 (chA noCh) := by
    have := Blk.new (w.alloc (.cells #[.int .u32 (n0 : Int), .int .u32 (n1 : Int), .int .u32 (n2 : Int), .int .u32 (n3 : Int), .bool fe, .bool go, .slice A hs.length c] 45)) 48 (chA noCh)
    rw [show (w.alloc (.cells #[.int .u32 (n0 : Int), .int .u32 (n1 : Int), .int .u32 (n2 : Int), .int .u32 (n3 : Int), .bool fe, .bool go, .slice A hs.length c] 45)).heap.size = w.heap.size + 1 by simp] at this
    exact this
  have KB : Hid (∀ W, Only [] ((w.alloc (.cells #[.int .u32 (n0 : Int), .int .u32 (n1 : Int), .int .u32 (n2 : Int), .int .u32 (n3 : Int), .bool fe, .bool go, .slice A hs.length c] 45)).alloc (.cells #[.string ⟨#[]⟩, .string ⟨#[]⟩, .bool false] 48)) W → W.cell? ⟨w.heap.size, 0, none⟩ = some (.int .u32 (n0 : Int)) ∧ W.cell? ⟨w.heap.size, 1, none⟩ = some (.int .u32 (n1 : Int)) ∧ W.cell? ⟨w.heap.size, 2, none⟩ = some (.int .u32 (n2 : Int)) ∧ W.cell? ⟨w.heap.size, 3, none⟩ = some (.int .u32 (n3 : Int)) ∧ W.cell? ⟨w.heap.size, 4, none⟩ = some (.bool fe) ∧ W.cell? ⟨w.heap.size, 5, none⟩ = some (.bool go) ∧ W.cell? ⟨w.heap.size, 6, none⟩ = some (.slice A hs.length c)) := fun W kW => by
    have b := Blk.kept (b1.alloc (.cells #[.string ⟨#[]⟩, .string ⟨#[]⟩, .bool false] 48)) kW (by simp)
    exact ⟨b.cell 0, b.cell 1, b.cell 2, b.cell 3, b.cell 4, b.cell 5, b.cell 6⟩
  have KB2 : Hid (∀ W, Only [] ((w.alloc (.cells #[.int .u32 (n0 : Int), .int .u32 (n1 : Int), .int .u32 (n2 : Int), .int .u32 (n3 : Int), .bool fe, .bool go, .slice A hs.length c] 45)).alloc (.cells #[.string ⟨#[]⟩, .string ⟨#[]⟩, .bool false] 48)) W → Blk W (w.heap.size + 1) 48 (chA noCh)) := fun W kW => b2.kept kW (by simp)
  clear b1 b2
  have hw : WrN ((w.alloc (.cells #[.int .u32 (n0 : Int), .int .u32 (n1 : Int), .int .u32 (n2 : Int), .int .u32 (n3 : Int), .bool fe, .bool go, .slice A hs.length c] 45)).alloc (.cells #[.string ⟨#[]⟩, .string ⟨#[]⟩, .bool false] 48)) (((w.alloc (.cells #[.int .u32 (n0 : Int), .int .u32 (n1 : Int), .int .u32 (n2 : Int), .int .u32 (n3 : Int), .bool fe, .bool go, .slice A hs.length c] 45)).alloc (.cells #[.string ⟨#[]⟩, .string ⟨#[]⟩, .bool false] 48)).alloc (.cells #[.slice none 0 0] 84)) (w.heap.size + 1 + 1) [] [] := by
    have := WrN.new (Only.refl [] ((w.alloc (.cells #[.int .u32 (n0 : Int), .int .u32 (n1 : Int), .int .u32 (n2 : Int), .int .u32 (n3 : Int), .bool fe, .bool go, .slice A hs.length c] 45)).alloc (.cells #[.string ⟨#[]⟩, .string ⟨#[]⟩, .bool false] 48)))
    rw [show ((w.alloc (.cells #[.int .u32 (n0 : Int), .int .u32 (n1 : Int), .int .u32 (n2 : Int), .int .u32 (n3 : Int), .bool fe, .bool go, .slice A hs.length c] 45)).alloc (.cells #[.string ⟨#[]⟩, .string ⟨#[]⟩, .bool false] 48)).heap.size = w.heap.size + 1 + 1 by simp] at this
    exact this
  obtain ⟨c0, c1, c2, c3, c4, c5, c6⟩ := KB.out _ hw.only
  go_enter Tryz.func14, Tryz.ntmps14
  go_wp2_with fail
  refine (wnumber_any _ _ _ _ _ n1 rfl hn1 hw.wr (by simp)).mono ?_
  rintro e w1 ⟨rfl, hw1⟩
  obtain ⟨F1, hw2⟩ := hw.next hw1
  clear hw hw1 c0 c1 c2 c3 c4 c5 c6
  have hw := hw2
  clear hw2
  obtain ⟨c0, c1, c2, c3, c4, c5, c6⟩ := KB.out _ hw.only
  go_wp2_with fail
  refine (wnumber_any _ _ _ _ _ n2 rfl hn2 hw.wr (by simp [be4_length])).mono ?_
  rintro e w1 ⟨rfl, hw1⟩
  obtain ⟨F1, hw2⟩ := hw.next hw1
  clear hw hw1 c0 c1 c2 c3 c4 c5 c6
  have hw := hw2
  clear hw2
  obtain ⟨c0, c1, c2, c3, c4, c5, c6⟩ := KB.out _ hw.only
  go_wp2_with fail
  refine (wnumber_any _ _ _ _ _ n3 rfl hn3 hw.wr (by simp [be4_length])).mono ?_
  rintro e w1 ⟨rfl, hw1⟩
  obtain ⟨F1, hw2⟩ := hw.next hw1
  clear hw hw1 c0 c1 c2 c3 c4 c5 c6
  have hw := hw2
  clear hw2
  obtain ⟨c0, c1, c2, c3, c4, c5, c6⟩ := KB.out _ hw.only
  go_wp2_with fail
  refine (wflag_any _ _ _ _ fe hw.wr (by simp [be4_length])).mono ?_
  rintro e w1 ⟨rfl, hw1⟩
  obtain ⟨F1, hw2⟩ := hw.next hw1
  clear hw hw1 c0 c1 c2 c3 c4 c5 c6
  have hw := hw2
  clear hw2
  obtain ⟨c0, c1, c2, c3, c4, c5, c6⟩ := KB.out _ hw.only
  go_wp2_with fail
  refine (wflag_any _ _ _ _ go hw.wr (by simp [be4_length])).mono ?_
  rintro e w1 ⟨rfl, hw1⟩
  obtain ⟨F1, hw2⟩ := hw.next hw1
  clear hw hw1 c0 c1 c2 c3 c4 c5 c6
  have hw := hw2
  clear hw2
  obtain ⟨c0, c1, c2, c3, c4, c5, c6⟩ := KB.out _ hw.only
  go_wp2_with fail
  have hw0 := hw.only
  have hlo := Lib.hid hw
  go_loopw [25, 4] (fun i v wr => ∃ n : Nat, n ≤ hs.length ∧ i = .int .i64 n ∧ Mine numE 1 22 w1 wr v (holN (hs.take n))) (fun i _ _ => hs.length - (intOf i).toNat)
  case atStart => exact ⟨0, Nat.zero_le _, rfl, Mine.start _ _ _ (Only.refl _ _)⟩
  case round =>
    obtain ⟨n, hn, rfl, hm⟩ := hrel
    have hkw := k0.trans (hw0.trans hm.only)
    by_cases hlt : n < hs.length
    · obtain ⟨g, o, rfl, hg, hat⟩ := hb.get hlt
      obtain ⟨e0, e1⟩ := hols_at (hat.kept hkw (by simp)) hlt
      have hx : hs[n]? = some hs[n] := List.getElem?_eq_getElem hlt
      have hxf := fh hs[n] (List.getElem_mem hlt)
      have htk := holN_take hx
      have hnl := holN_length (hs.take n)
      rw [List.length_take] at hnl
      generalize hs[n] = x at *
      obtain ⟨y0, y1⟩ := x
      obtain ⟨g0, g1⟩ := hxf
      obtain ⟨m0, rfl, hm0⟩ := u32_nat g0
      obtain ⟨m1, rfl, hm1⟩ := u32_nat g1
      simp only [Int.toNat_natCast] at e0 e1 htk
      replace htk := Lib.hid htk
      replace hnl := Lib.hid hnl
      replace hx := Lib.hid hx
      have hma := hm.keep ((Only.refl [] _).alloc (.cells #[.int .u32 (m0 : Int), .int .u32 (m1 : Int)] 91))
      have hmb := hma.keep ((Only.refl [] _).alloc (.cells #[.int .u32 (m0 : Int), .int .u32 (m1 : Int)] 22))
      have hsrc : ElsAt numE 1 ((wr.alloc (.cells #[.int .u32 (m0 : Int), .int .u32 (m1 : Int)] 91)).alloc (.cells #[.int .u32 (m0 : Int), .int .u32 (m1 : Int)] 22)) (wr.heap.size + 1) 0 [m0, m1] := by
        have b := Blk.new (wr.alloc (.cells #[.int .u32 (m0 : Int), .int .u32 (m1 : Int)] 91)) 22 #[.int .u32 (m0 : Int), .int .u32 (m1 : Int)]
        rw [show (wr.alloc (.cells #[.int .u32 (m0 : Int), .int .u32 (m1 : Int)] 91)).heap.size = wr.heap.size + 1 by simp] at b
        intro i hi j v hv
        simp [numE] at hv
        match i, hi with
        | 0, _ => match j, hv with
          | 0, hv => simp at hv; subst hv; exact b.cell 0
          | j + 1, hv => simp at hv
        | 1, _ => match j, hv with
          | 0, hv => simp at hv; subst hv; exact b.cell 1
          | j + 1, hv => simp at hv
      replace hsrc := Lib.hid hsrc
      replace hmb := Lib.hid hmb
      clear hm hma hw0 hat
      go_wp2_with (at_builtin; go_must (refine wpList_append_els numE_length (by decide) numE_one rfl _ _ 89 rfl 22 _ 4 Tryz.underlying89 info_u32 rfl _ (holN (hs.take n)).length _ rfl hmb.out.own (wr.heap.size + 1) 0 2 _ [m0, m1] rfl rfl hsrc.out ?c1 ?c2 ?go))
      case c1 => unfold maxLen; have := hnl.out; omega
      case c2 => have := hnl.out; omega
      case go =>
      intro vv w6 h6 g6 a6
      have hm6 : Mine numE 1 22 w1 w6 vv (holN (hs.take (n + 1))) := by
        have hq := hmb.out
        rw [htk.out]
        refine ⟨by rw [List.length_append]; exact h6, fun j hj => ?_, hq.only.grown g6 (fun j hj => .inr (hq.new j hj))⟩
        rcases a6 with a6 | a6
        · exact hq.new j (by rw [← a6]; exact hj)
        · rw [a6] at hj; injection hj with hj; have := hq.only.size; simp at this; omega
      clear h6 g6 a6 hmb e0 e1
      go_wp2
      go_roundw
      case rel => exact ⟨n + 1, by omega, by go_num, hm6⟩
      case measure => simp [intOf]; omega
    rw [List.take_of_length_le (by omega)] at hm
    have hnl := Lib.hid (holN_length hs)
    have hlt2 := Lib.hid (holN_lt fh)
    obtain ⟨A5, c5, rfl, hels, hcap, hnew, _⟩ := hm.shape numE_length
    have hw := hlo.out.kept hm.only
    obtain ⟨c0, c1, c2, c3, c4, c5', c6⟩ := KB.out _ hw.only
    have hnums : Nums wr ((w.heap.size + 1 + 1) :: F1) A5 (holN hs) := nums_els _ hels (fun a ha => by
      have h1 := hnew a ha
      have h2 := hlo.out.wr.lt
      rw [List.mem_cons, not_or]
      refine ⟨by omega, fun hm => ?_⟩
      have := hlo.out.lt _ hm
      omega)
    replace hnums := Lib.hid hnums
    replace hels := Lib.hid hels
    replace hm := Lib.hid hm
    go_wp2_with fail
    refine (wlist_any _ _ _ _ A5 c5 (holN hs) hw.wr hnums.out hlt2.out (by have := hnl.out; simp [be4_length]; omega)).mono ?_
    rintro e w2 ⟨rfl, hw1⟩
    obtain ⟨F2, hw2⟩ := hw.next hw1
    clear hw hw1 c0 c1 c2 c3 c4 c5' c6
    have hw := hw2
    clear hw2
    obtain ⟨c0, c1, c2, c3, c4, c5', c6⟩ := KB.out _ hw.only
    have hnm := nums_one w2 [] n0 (by simp)
    have hkk := key_any _ [76] _ 1 [n0] hnm (by simp; omega) (by simp) (by simp)
    have hwb := hw.kept ((Only.refl [] w2).alloc (.cells #[.int .u32 (n0 : Int)] 22))
    replace hkk := Lib.hid hkk
    clear hnm
    go_wp2_with fail
    refine hkk.out.mono ?_; rintro e w3 ⟨rfl, k3⟩
    replace hwb := hwb.kept k3
    go_wp2_with fail
    refine (bytes_any _ _ _ _ hwb.wr).mono ?_; rintro e w4 ⟨rfl, rfl⟩
    have hb4 := KB2.out _ hwb.only
    have hrow : (.agg #[.string (strOf ([76] ++ encNs [n0])), .string (strOf ([] ++ be4 n1 ++ be4 n2 ++ be4 n3 ++ be4 fe.toNat ++ be4 go.toNat ++ encL (holN hs))), .bool false] : Value) = chV (lockR ⟨n0, n1, n2, n3, fe, go, hs⟩) := by
      simp [chV, lockR, encNs]
    go_wp2_with (refine wpList_store_ch (lockR ⟨n0, n1, n2, n3, fe, go, hs⟩) noCh rfl _ _ rfl (w.heap.size + 1) rfl hrow hb4 ?_; intro w5 b5 k5)
    refine bodyPost_ret (results_ch rfl _ _ (w.heap.size + 1) rfl _ b5) rfl ?_
    exact ⟨rfl, (k0.trans hwb.only).beyond k5 (by omega)⟩


set_option maxRecDepth 100000 in
set_option maxHeartbeats 8000000 in
theorem seatRow_any (w : World) (x : Sea) (hf : x.Fit) (hr : x.pk.Right) : Calls Tryz.prog 17 #[seaV x] w fun e w' => e = .returned (chV (seatR x)) ∧ Only [] w w' := by
  have k0 : Only [] w ((w.alloc (.cells (seaA x) 56)).alloc (.cells #[.string ⟨#[]⟩, .string ⟨#[]⟩, .bool false] 48)) := ((Only.refl [] w).alloc _).alloc _
  have bx : Blk (w.alloc (.cells (seaA x) 56)) w.heap.size 56 (seaA x) := Blk.new _ _ _
  have b1 := bx.alloc (.cells #[.string ⟨#[]⟩, .string ⟨#[]⟩, .bool false] 48)
  have b2 : Blk ((w.alloc (.cells (seaA x) 56)).alloc (.cells #[.string ⟨#[]⟩, .string ⟨#[]⟩, .bool false] 48)) (w.heap.size + 1) 48 (chA noCh) := by
    have := Blk.new (w.alloc (.cells (seaA x) 56)) 48 (chA noCh)
    rw [show (w.alloc (.cells (seaA x) 56)).heap.size = w.heap.size + 1 by simp] at this
    exact this
  have hW := fun W => write_any W x.pk hf.pk
  unfold writeS writeE at hW
  simp only [if_pos hr] at hW
  replace hW := Lib.hid hW
  obtain ⟨n, hn0, hn⟩ := u32_nat hf.client
  have c0 := b1.cell 0
  replace c0 : ((w.alloc (.cells (seaA x) 56)).alloc (.cells #[.string ⟨#[]⟩, .string ⟨#[]⟩, .bool false] 48)).cell? ⟨w.heap.size, 0, none⟩ = some (.int .u32 x.client) := c0
  rw [hn0] at c0
  have KB : Hid (∀ W, Only [] ((w.alloc (.cells (seaA x) 56)).alloc (.cells #[.string ⟨#[]⟩, .string ⟨#[]⟩, .bool false] 48)) W → W.cell? ⟨w.heap.size, 0, none⟩ = some (.int .u32 (n : Int)) ∧ Blk W (w.heap.size + 1) 48 (chA noCh)) := fun W kW => ⟨kW.cell c0 (by simp), b2.kept kW (by simp)⟩
  have hrg := sea_range b1
  have hrow : Hid ((.agg #[.string (strOf ([83] ++ encNs [n])), .string (strOf (bytesP x.pk)), .bool false] : Value) = chV (seatR x)) := by
    unfold Hid
    simp [chV, seatR, encNs, hn0]
  replace hrg := Lib.hid hrg
  replace hn0 := Lib.hid hn0
  clear bx b1 b2 c0 hf hr
  go_enter Tryz.func17, Tryz.ntmps17
  go_wp2_with (first | refine wpList_load_at (by rfl) 54 _ rfl w.heap.size 1 rfl (pkA x.pk).toList _ hrg.out Tryz.underlying54 rfl size_pk ?_)
  refine (hW.out _).mono ?_; rintro e w1 ⟨rfl, k1⟩
  obtain ⟨c0, b2⟩ := KB.out _ k1
  have hnm := nums_one w1 [] n (by simp)
  have hkk := key_any _ [83] _ 1 [n] hnm (by simp; omega) (by simp) (by simp)
  replace hkk := Lib.hid hkk
  clear hnm b2
  go_wp2_with fail
  refine hkk.out.mono ?_; rintro e w3 ⟨rfl, k3⟩
  have k4 := (k1.alloc _).trans k3
  obtain ⟨_, hb4⟩ := KB.out _ k4
  go_wp2_with (refine wpList_store_ch (seatR x) noCh rfl _ _ rfl (w.heap.size + 1) rfl hrow.out hb4 ?_; intro w5 b5 k5)
  refine bodyPost_ret (results_ch rfl _ _ (w.heap.size + 1) rfl _ b5) rfl ?_
  exact ⟨rfl, (k0.trans k4).beyond k5 (by omega)⟩

end Go.Proofs.YtalkhhjfplahkaaGreat
