/- Rows of a state's parts. -/
import Derived.Test.YtalkhhjfplahkaaGreatKRgt14
import Derived.Test.YtalkhhjfplahkaaGreatKG
namespace Go.Proofs.YtalkhhjfplahkaaGreat
open Go.RowKit
set_option linter.unusedVariables false

/-- A writer that was made since w. -/
structure WrN (w w1 : World) (p : Nat) (F : List Nat) (bs : List UInt8) : Prop where
  wr : Wr w1 p F bs
  pn : w.heap.size ≤ p
  fn : ∀ k ∈ F, w.heap.size ≤ k
  lt : ∀ k ∈ F, k < w1.heap.size
  only : Only [] w w1
theorem WrN.new {w w1 : World} (k : Only [] w w1) : WrN w (w1.alloc (.cells #[.slice none 0 0] 84)) w1.heap.size [] [] :=
  ⟨⟨.slice none 0 0, Blk.new w1 _ _, World.ownsRow_nil _ 0 _ 1, by simp [Value.ownBlock], by simp [Value.ownBlock]⟩, k.size, by simp, by simp, k.alloc _⟩
theorem WrN.next {w w1 w2 : World} {p : Nat} {F : List Nat} {bs bs2 : List UInt8} (h : WrN w w1 p F bs) (h2 : Wrote w1 w2 p F bs2) : ∃ F2, WrN w w2 p F2 bs2 := by
  obtain ⟨F2, ⟨v, h1, h3, h4, h5⟩, k, hF⟩ := h2
  refine ⟨v.ownBlock.toList, ⟨v, h1, h3, h4, fun k hk => by simp [hk]⟩, h.pn, fun i hi => ?_, fun i hi => (h3.lt i (by simpa using hi)).2, h.only.then k (fun i hi => ?_)⟩
  · rcases hF i (h5 i (by simpa using hi)) with hi | hi
    · exact h.fn i hi
    · exact Nat.le_trans h.only.size hi
  · rcases List.mem_cons.1 hi with rfl | hi
    · exact .inr h.pn
    · exact .inr (h.fn i hi)
theorem WrN.kept {w w1 w2 : World} {p : Nat} {F : List Nat} {bs : List UInt8} (h : WrN w w1 p F bs) (k : Only [] w1 w2) : WrN w w2 p F bs := ⟨h.wr.kept k (by simp) (by simp), h.pn, h.fn, fun i hi => Nat.lt_of_lt_of_le (h.lt i hi) k.size, h.only.trans k⟩

/-! A change in its own block. -/
def chA (x : Ch) : Array Value := #[.string (strOf x.key), .string (strOf x.val), .bool x.gone]
def noCh : Ch := ⟨[], [], false⟩
theorem size_ch : (Tryz.prog.info? 48).map (·.size) = some 3 := by kernel_rfl
section
variable {ops : Array Oper} {rest : List Oper} {o : Oper} {a : Act} {w : World} {Q : Exit → Act → World → Prop}
theorem wpList_store_ch (p q : Ch) (hw : Region.wanted o (yielded ops a.tmps) = true) (x y : Operand) (ho : o.op = .store 48 x y) (g : Nat) (hx : a.eval x = .pointer (some ⟨g, 0, none⟩)) (hy : a.eval y = chV p) (hb : Blk w g 48 (chA q))
    (h : ∀ w', Blk w' g 48 (chA p) → Only [g] w w' → wpList Tryz.prog ops Q rest (a.put o.dst undef) w') : wpList Tryz.prog ops Q (o :: rest) a w :=
  wpList_store_blk hw 48 x y ho g _ _ hx hy hb size_ch rfl (by simp [Value.oneCell']) h
end
theorem results_ch {fn : Func} {p : Tmp} (h : fn.results = #[.cell p 48]) (tmps : Array Value) (w : World) (g : Nat) (hp : tmps.getD p undef = .pointer (some ⟨g, 0, none⟩)) (q : Ch) (hb : Blk w g 48 (chA q)) :
    (results fn tmps).run Tryz.prog w = .ok (chV q) w := by
  rw [results_cell h, hp]
  simp only [asAddr, Sem.run_pure, Result.andThen_ok]
  exact run_loadVar_mid (P := Tryz.prog) w g 0 48 (chA q).toList _ (Blk.range9 hb) Tryz.underlying48 rfl size_ch

/-! A key. -/
theorem nums_one (w : World) (S : List Nat) (a : Nat) (hS : w.heap.size ∉ S) : Nums (w.alloc (.cells #[.int .u32 (a : Int)] 22)) S (some ⟨w.heap.size, 0, none⟩) [a] := by
  refine .inr ⟨_, _, rfl, hS, fun j hj => ?_⟩
  rw [Nat.zero_add, (Blk.new w _ _).cell j]
  match j, hj with
  | 0, _ => rfl
theorem nums_two (w : World) (S : List Nat) (a b : Nat) (hS : w.heap.size ∉ S) : Nums (w.alloc (.cells #[.int .u32 (a : Int), .int .u32 (b : Int)] 22)) S (some ⟨w.heap.size, 0, none⟩) [a, b] := by
  refine .inr ⟨_, _, rfl, hS, fun j hj => ?_⟩
  rw [Nat.zero_add, (Blk.new w _ _).cell j]
  match j, hj with
  | 0, _ => rfl
  | 1, _ => rfl
theorem strOf_add (a b : List UInt8) : strOf a ++ strOf b = strOf (a ++ b) := by
  apply ByteArray.ext
  simp [strOf]

set_option maxRecDepth 100000 in
set_option maxHeartbeats 4000000 in
theorem key_any (w : World) (s : List UInt8) (A : Option Addr) (c : Nat) (l : List Nat) (hb : Nums w [] A l) (h32 : ∀ n ∈ l, n < 4294967296) (hl : l.length ≤ 100) (hs : s.length ≤ 100) :
    Calls Tryz.prog 36 #[.string (strOf s), .slice A l.length c] w fun e w' => e = .returned (.string (strOf (s ++ encNs l))) ∧ Only [] w w' := by
  have hlI : (l.length : Int) ≤ 100 := by omega
  have hw0 := WrN.new (Only.refl [] w)
  go_enter Tryz.func36, Tryz.ntmps36
  go_wp2_with fail
  go_loopw [10] (fun i wr => ∃ (n : Nat) (F : List Nat), n ≤ l.length ∧ i = .int .i64 n ∧ WrN w wr w.heap.size F (encNs (l.take n))) (fun i _ => l.length - (intOf i).toNat)
  case atStart => exact ⟨0, [], Nat.zero_le _, rfl, hw0⟩
  case round =>
    obtain ⟨n, F, hn, rfl, hw⟩ := hrel
    clear hw0
    by_cases hlt : n < l.length
    · have hx := List.getElem_mem hlt
      rcases id hb with rfl | ⟨g, o, rfl, _, hat⟩
      · simp at hlt
      have c0 := hw.only.cell (hat n hlt) (by simp)
      have hn32 := h32 _ hx
      have htk := encNs_take l n hlt
      have hbl : (encNs (l.take n)).length + 4 ≤ 1048576 := by rw [encNs_length, List.length_take]; omega
      generalize l[n] = x at *
      replace hx := Lib.hid hx
      replace hat := Lib.hid hat
      replace hbl := Lib.hid hbl
      replace hn32 := Lib.hid hn32
      replace htk := Lib.hid htk
      go_wp2_with fail
      refine (wnumber_any _ w.heap.size F _ _ x rfl hn32.out hw.wr hbl.out).mono ?_
      rintro e w4 ⟨rfl, hw4⟩
      obtain ⟨F2, hw5⟩ := hw.next hw4
      rw [← htk.out] at hw5
      clear c0 hw4 hw
      go_wp2
      go_roundw
      case rel => exact ⟨n + 1, F2, by omega, by go_num, hw5⟩
      case measure => simp [intOf]; omega
    · have hwr := hw.wr
      rw [List.take_of_length_le (by omega)] at hwr
      go_wp2_with fail
      refine (bytes_any _ w.heap.size F _ hwr).mono ?_; rintro e w6 ⟨rfl, rfl⟩
      go_wp2_with (refine wpList_concat _ rfl 9 9 _ _ rfl s (encNs l) rfl rfl (by rw [encNs_length]; omega) ?_)
      go_ret
      exact ⟨rfl, hw.only⟩

theorem u32_nat {x : Int} (h : U x) : ∃ n : Nat, x = n ∧ n < 4294967296 := ⟨x.toNat, (Int.toNat_of_nonneg h.1).symm, h.lt⟩

set_option maxRecDepth 100000 in
set_option maxHeartbeats 4000000 in
theorem openRow_any (w : World) (o : Opn) (hf : o.Fit) : Calls Tryz.prog 16 #[opV o] w fun e w' => e = .returned (chV (openR o)) ∧ Only [] w w' := by
  obtain ⟨o0, o1, o2, o3, o4⟩ := o
  obtain ⟨f0, f1, f2, f3, f4⟩ := hf
  obtain ⟨n0, rfl, hn0⟩ := u32_nat f0
  obtain ⟨n1, rfl, hn1⟩ := u32_nat f1
  obtain ⟨n2, rfl, hn2⟩ := u32_nat f2
  obtain ⟨n3, rfl, hn3⟩ := u32_nat f3
  have ho4 : o4 < 4294967296 := f4
  clear f0 f1 f2 f3 f4
  unfold opV
  simp only
  have k0 : Only [] w ((w.alloc (.cells #[.int .u32 (n0 : Int), .int .u32 (n1 : Int), .int .u32 (n2 : Int), .int .u32 (n3 : Int), .int .u32 (o4 : Int)] 61)).alloc (.cells #[.string ⟨#[]⟩, .string ⟨#[]⟩, .bool false] 48)) := ((Only.refl [] w).alloc _).alloc _
  have b1 := Blk.new w 61 #[.int .u32 (n0 : Int), .int .u32 (n1 : Int), .int .u32 (n2 : Int), .int .u32 (n3 : Int), .int .u32 (o4 : Int)]
  have b2 : Blk ((w.alloc (.cells #[.int .u32 (n0 : Int), .int .u32 (n1 : Int), .int .u32 (n2 : Int), .int .u32 (n3 : Int), .int .u32 (o4 : Int)] 61)).alloc (.cells #[.string ⟨#[]⟩, .string ⟨#[]⟩, .bool false] 48)) (w.heap.size + 1) 48 (chA noCh) := by
    have := Blk.new (w.alloc (.cells #[.int .u32 (n0 : Int), .int .u32 (n1 : Int), .int .u32 (n2 : Int), .int .u32 (n3 : Int), .int .u32 (o4 : Int)] 61)) 48 (chA noCh)
    rw [show (w.alloc (.cells #[.int .u32 (n0 : Int), .int .u32 (n1 : Int), .int .u32 (n2 : Int), .int .u32 (n3 : Int), .int .u32 (o4 : Int)] 61)).heap.size = w.heap.size + 1 by simp] at this
    exact this
  have KB : Hid (∀ W, Only [] ((w.alloc (.cells #[.int .u32 (n0 : Int), .int .u32 (n1 : Int), .int .u32 (n2 : Int), .int .u32 (n3 : Int), .int .u32 (o4 : Int)] 61)).alloc (.cells #[.string ⟨#[]⟩, .string ⟨#[]⟩, .bool false] 48)) W → W.cell? ⟨w.heap.size, 0, none⟩ = some (.int .u32 (n0 : Int)) ∧ W.cell? ⟨w.heap.size, 1, none⟩ = some (.int .u32 (n1 : Int)) ∧ W.cell? ⟨w.heap.size, 2, none⟩ = some (.int .u32 (n2 : Int)) ∧ W.cell? ⟨w.heap.size, 3, none⟩ = some (.int .u32 (n3 : Int)) ∧ W.cell? ⟨w.heap.size, 4, none⟩ = some (.int .u32 (o4 : Int))) := fun W kW => by
    have b := Blk.kept (b1.alloc (.cells #[.string ⟨#[]⟩, .string ⟨#[]⟩, .bool false] 48)) kW (by simp)
    exact ⟨b.cell 0, b.cell 1, b.cell 2, b.cell 3, b.cell 4⟩
  have KB2 : Hid (∀ W, Only [] ((w.alloc (.cells #[.int .u32 (n0 : Int), .int .u32 (n1 : Int), .int .u32 (n2 : Int), .int .u32 (n3 : Int), .int .u32 (o4 : Int)] 61)).alloc (.cells #[.string ⟨#[]⟩, .string ⟨#[]⟩, .bool false] 48)) W → Blk W (w.heap.size + 1) 48 (chA noCh)) := fun W kW => b2.kept kW (by simp)
  clear b1 b2
  have hw : WrN ((w.alloc (.cells #[.int .u32 (n0 : Int), .int .u32 (n1 : Int), .int .u32 (n2 : Int), .int .u32 (n3 : Int), .int .u32 (o4 : Int)] 61)).alloc (.cells #[.string ⟨#[]⟩, .string ⟨#[]⟩, .bool false] 48)) (((w.alloc (.cells #[.int .u32 (n0 : Int), .int .u32 (n1 : Int), .int .u32 (n2 : Int), .int .u32 (n3 : Int), .int .u32 (o4 : Int)] 61)).alloc (.cells #[.string ⟨#[]⟩, .string ⟨#[]⟩, .bool false] 48)).alloc (.cells #[.slice none 0 0] 84)) (w.heap.size + 1 + 1) [] [] := by
    have := WrN.new (Only.refl [] ((w.alloc (.cells #[.int .u32 (n0 : Int), .int .u32 (n1 : Int), .int .u32 (n2 : Int), .int .u32 (n3 : Int), .int .u32 (o4 : Int)] 61)).alloc (.cells #[.string ⟨#[]⟩, .string ⟨#[]⟩, .bool false] 48)))
    rw [show ((w.alloc (.cells #[.int .u32 (n0 : Int), .int .u32 (n1 : Int), .int .u32 (n2 : Int), .int .u32 (n3 : Int), .int .u32 (o4 : Int)] 61)).alloc (.cells #[.string ⟨#[]⟩, .string ⟨#[]⟩, .bool false] 48)).heap.size = w.heap.size + 1 + 1 by simp] at this
    exact this
  obtain ⟨c0, c1, c2, c3, c4⟩ := KB.out _ hw.only
  go_enter Tryz.func16, Tryz.ntmps16
  go_wp2_with fail
  refine (wnumber_any _ _ _ _ _ n2 rfl hn2 hw.wr (by simp)).mono ?_
  rintro e w1 ⟨rfl, hw1⟩
  obtain ⟨F1, hw2⟩ := hw.next hw1
  clear hw hw1 c0 c1 c2 c3 c4
  have hw := hw2
  clear hw2
  obtain ⟨c0, c1, c2, c3, c4⟩ := KB.out _ hw.only
  go_wp2_with fail
  refine (wnumber_any _ _ _ _ _ n3 rfl hn3 hw.wr (by simp [be4_length])).mono ?_
  rintro e w1 ⟨rfl, hw1⟩
  obtain ⟨F1, hw2⟩ := hw.next hw1
  clear hw hw1 c0 c1 c2 c3 c4
  have hw := hw2
  clear hw2
  obtain ⟨c0, c1, c2, c3, c4⟩ := KB.out _ hw.only
  go_wp2_with fail
  refine (wnumber_any _ _ _ _ _ o4 rfl ho4 hw.wr (by simp [be4_length])).mono ?_
  rintro e w1 ⟨rfl, hw1⟩
  obtain ⟨F1, hw2⟩ := hw.next hw1
  clear hw hw1 c0 c1 c2 c3 c4
  have hw := hw2
  clear hw2
  obtain ⟨c0, c1, c2, c3, c4⟩ := KB.out _ hw.only
  have hnm := nums_two w1 [] n0 n1 (by simp)
  have hkk := key_any _ [79] _ 2 [n0, n1] hnm (by simp; omega) (by simp) (by simp)
  have hwb := hw.kept ((Only.refl [] w1).alloc (.cells #[.int .u32 (n0 : Int), .int .u32 (n1 : Int)] 22))
  replace hkk := Lib.hid hkk
  clear hnm
  go_wp2_with fail
  refine hkk.out.mono ?_; rintro e w3 ⟨rfl, k3⟩
  replace hwb := hwb.kept k3
  go_wp2_with fail
  refine (bytes_any _ _ _ _ hwb.wr).mono ?_; rintro e w4 ⟨rfl, rfl⟩
  have hb4 := KB2.out _ hwb.only
  have hrow : (.agg #[.string (strOf ([79] ++ encNs [n0, n1])), .string (strOf ([] ++ be4 n2 ++ be4 n3 ++ be4 o4)), .bool false] : Value) = chV (openR ⟨n0, n1, n2, n3, o4⟩) := by
    simp [chV, openR, encNs]
  go_wp2_with (refine wpList_store_ch (openR ⟨n0, n1, n2, n3, o4⟩) noCh rfl _ _ rfl (w.heap.size + 1) rfl hrow hb4 ?_; intro w5 b5 k5)
  refine bodyPost_ret (results_ch rfl _ _ (w.heap.size + 1) rfl _ b5) rfl ?_
  exact ⟨rfl, (k0.trans hwb.only).beyond k5 (by omega)⟩

set_option maxRecDepth 100000 in
set_option maxHeartbeats 4000000 in
theorem inodeRow_any (w : World) (x : Nd) (hf : x.Fit) (hl : x.name.length ≤ 1000) : Calls Tryz.prog 15 #[ndV x] w fun e w' => e = .returned (chV (nodeR x)) ∧ Only [] w w' := by
  obtain ⟨x0, x1, x2, x3, x4⟩ := x
  obtain ⟨f0, f1, f2⟩ := hf
  obtain ⟨n0, rfl, hn0⟩ := u32_nat f0
  obtain ⟨n1, rfl, hn1⟩ := u32_nat f1
  obtain ⟨n4, rfl, hn4⟩ := u32_nat f2
  clear f0 f1 f2
  unfold ndV
  simp only at hl ⊢
  have k0 : Only [] w ((w.alloc (.cells #[.int .u32 (n0 : Int), .int .u32 (n1 : Int), .string (strOf x2), .bool x3, .int .u32 (n4 : Int)] 42)).alloc (.cells #[.string ⟨#[]⟩, .string ⟨#[]⟩, .bool false] 48)) := ((Only.refl [] w).alloc _).alloc _
  have b1 := Blk.new w 42 #[.int .u32 (n0 : Int), .int .u32 (n1 : Int), .string (strOf x2), .bool x3, .int .u32 (n4 : Int)]
  have b2 : Blk ((w.alloc (.cells #[.int .u32 (n0 : Int), .int .u32 (n1 : Int), .string (strOf x2), .bool x3, .int .u32 (n4 : Int)] 42)).alloc (.cells #[.string ⟨#[]⟩, .string ⟨#[]⟩, .bool false] 48)) (w.heap.size + 1) 48 (chA noCh) := by
    have := Blk.new (w.alloc (.cells #[.int .u32 (n0 : Int), .int .u32 (n1 : Int), .string (strOf x2), .bool x3, .int .u32 (n4 : Int)] 42)) 48 (chA noCh)
    rw [show (w.alloc (.cells #[.int .u32 (n0 : Int), .int .u32 (n1 : Int), .string (strOf x2), .bool x3, .int .u32 (n4 : Int)] 42)).heap.size = w.heap.size + 1 by simp] at this
    exact this
  have KB : Hid (∀ W, Only [] ((w.alloc (.cells #[.int .u32 (n0 : Int), .int .u32 (n1 : Int), .string (strOf x2), .bool x3, .int .u32 (n4 : Int)] 42)).alloc (.cells #[.string ⟨#[]⟩, .string ⟨#[]⟩, .bool false] 48)) W → W.cell? ⟨w.heap.size, 0, none⟩ = some (.int .u32 (n0 : Int)) ∧ W.cell? ⟨w.heap.size, 1, none⟩ = some (.int .u32 (n1 : Int)) ∧ W.cell? ⟨w.heap.size, 2, none⟩ = some (.string (strOf x2)) ∧ W.cell? ⟨w.heap.size, 3, none⟩ = some (.bool x3) ∧ W.cell? ⟨w.heap.size, 4, none⟩ = some (.int .u32 (n4 : Int))) := fun W kW => by
    have b := Blk.kept (b1.alloc (.cells #[.string ⟨#[]⟩, .string ⟨#[]⟩, .bool false] 48)) kW (by simp)
    exact ⟨b.cell 0, b.cell 1, b.cell 2, b.cell 3, b.cell 4⟩
  have KB2 : Hid (∀ W, Only [] ((w.alloc (.cells #[.int .u32 (n0 : Int), .int .u32 (n1 : Int), .string (strOf x2), .bool x3, .int .u32 (n4 : Int)] 42)).alloc (.cells #[.string ⟨#[]⟩, .string ⟨#[]⟩, .bool false] 48)) W → Blk W (w.heap.size + 1) 48 (chA noCh)) := fun W kW => b2.kept kW (by simp)
  clear b1 b2
  have hw : WrN ((w.alloc (.cells #[.int .u32 (n0 : Int), .int .u32 (n1 : Int), .string (strOf x2), .bool x3, .int .u32 (n4 : Int)] 42)).alloc (.cells #[.string ⟨#[]⟩, .string ⟨#[]⟩, .bool false] 48)) (((w.alloc (.cells #[.int .u32 (n0 : Int), .int .u32 (n1 : Int), .string (strOf x2), .bool x3, .int .u32 (n4 : Int)] 42)).alloc (.cells #[.string ⟨#[]⟩, .string ⟨#[]⟩, .bool false] 48)).alloc (.cells #[.slice none 0 0] 84)) (w.heap.size + 1 + 1) [] [] := by
    have := WrN.new (Only.refl [] ((w.alloc (.cells #[.int .u32 (n0 : Int), .int .u32 (n1 : Int), .string (strOf x2), .bool x3, .int .u32 (n4 : Int)] 42)).alloc (.cells #[.string ⟨#[]⟩, .string ⟨#[]⟩, .bool false] 48)))
    rw [show ((w.alloc (.cells #[.int .u32 (n0 : Int), .int .u32 (n1 : Int), .string (strOf x2), .bool x3, .int .u32 (n4 : Int)] 42)).alloc (.cells #[.string ⟨#[]⟩, .string ⟨#[]⟩, .bool false] 48)).heap.size = w.heap.size + 1 + 1 by simp] at this
    exact this
  obtain ⟨c0, c1, c2, c3, c4⟩ := KB.out _ hw.only
  go_enter Tryz.func15, Tryz.ntmps15
  go_wp2_with fail
  refine (wnumber_any _ _ _ _ _ n1 rfl hn1 hw.wr (by simp)).mono ?_
  rintro e w1 ⟨rfl, hw1⟩
  obtain ⟨F1, hw2⟩ := hw.next hw1
  clear hw hw1 c0 c1 c2 c3 c4
  have hw := hw2
  clear hw2
  obtain ⟨c0, c1, c2, c3, c4⟩ := KB.out _ hw.only
  go_wp2_with fail
  refine (wflag_any _ _ _ _ x3 hw.wr (by simp [be4_length])).mono ?_
  rintro e w1 ⟨rfl, hw1⟩
  obtain ⟨F1, hw2⟩ := hw.next hw1
  clear hw hw1 c0 c1 c2 c3 c4
  have hw := hw2
  clear hw2
  obtain ⟨c0, c1, c2, c3, c4⟩ := KB.out _ hw.only
  go_wp2_with fail
  refine (wnumber_any _ _ _ _ _ n4 rfl hn4 hw.wr (by simp [be4_length])).mono ?_
  rintro e w1 ⟨rfl, hw1⟩
  obtain ⟨F1, hw2⟩ := hw.next hw1
  clear hw hw1 c0 c1 c2 c3 c4
  have hw := hw2
  clear hw2
  obtain ⟨c0, c1, c2, c3, c4⟩ := KB.out _ hw.only
  go_wp2_with fail
  refine (wtext_any _ _ _ _ (strOf x2) hw.wr (by simp [be4_length, strOf_size]; omega)).mono ?_
  rintro e w1 ⟨rfl, hw1⟩
  obtain ⟨F1, hw2⟩ := hw.next hw1
  clear hw hw1 c0 c1 c2 c3 c4
  have hw := hw2
  clear hw2
  obtain ⟨c0, c1, c2, c3, c4⟩ := KB.out _ hw.only
  have hnm := nums_one w1 [] n0 (by simp)
  have hkk := key_any _ [78] _ 1 [n0] hnm (by simp; omega) (by simp) (by simp)
  have hwb := hw.kept ((Only.refl [] w1).alloc (.cells #[.int .u32 (n0 : Int)] 22))
  replace hkk := Lib.hid hkk
  clear hnm
  go_wp2_with fail
  refine hkk.out.mono ?_; rintro e w3 ⟨rfl, k3⟩
  replace hwb := hwb.kept k3
  go_wp2_with fail
  refine (bytes_any _ _ _ _ hwb.wr).mono ?_; rintro e w4 ⟨rfl, rfl⟩
  have hb4 := KB2.out _ hwb.only
  have hrow : (.agg #[.string (strOf ([78] ++ encNs [n0])), .string (strOf ([] ++ be4 n1 ++ be4 x3.toNat ++ be4 n4 ++ encT (strOf x2).data.toList)), .bool false] : Value) = chV (nodeR ⟨n0, n1, x2, x3, n4⟩) := by
    simp [chV, nodeR, encNs, strOf_list]
  go_wp2_with (refine wpList_store_ch (nodeR ⟨n0, n1, x2, x3, n4⟩) noCh rfl _ _ rfl (w.heap.size + 1) rfl hrow hb4 ?_; intro w5 b5 k5)
  refine bodyPost_ret (results_ch rfl _ _ (w.heap.size + 1) rfl _ b5) rfl ?_
  exact ⟨rfl, (k0.trans hwb.only).beyond k5 (by omega)⟩

set_option maxRecDepth 100000 in
set_option maxHeartbeats 4000000 in
theorem workRow_any (w : World) (x : Wk) (hf : x.Fit) (hc : 0 ≤ x.code ∧ x.code ≤ 30) (hl : x.data.length ≤ 1000) : Calls Tryz.prog 18 #[wkV x] w fun e w' => e = .returned (chV (workR x)) ∧ Only [] w w' := by
  obtain ⟨x0, x1, x2, x3, x4, x5, x6, x7⟩ := x
  obtain ⟨f0, f1, f2, f3, f4, f5, f6⟩ := hf
  obtain ⟨n0, rfl, hn0⟩ := u32_nat f0
  obtain ⟨n1, rfl, hn1⟩ := u32_nat f1
  obtain ⟨n2, rfl, hn2⟩ := u32_nat f2
  obtain ⟨n3, rfl, hn3⟩ := u32_nat f3
  obtain ⟨n5, rfl, hn5⟩ := u32_nat f5
  obtain ⟨n6, rfl, hn6⟩ := u32_nat f6
  simp only at hl hc
  obtain ⟨n4, rfl, hn4⟩ : ∃ n : Nat, x4 = n ∧ n < 4294967296 := ⟨x4.toNat, (Int.toNat_of_nonneg hc.1).symm, by omega⟩
  have hcw : IntKind.u32.wrap (n4 : Int) = n4 := by simp only [IntKind.wrap, IntKind.bits, IntKind.signed]; simp; omega
  clear f0 f1 f2 f3 f4 f5 f6
  unfold wkV
  simp only
  have k0 : Only [] w ((w.alloc (.cells #[.int .u32 (n0 : Int), .int .u32 (n1 : Int), .int .u32 (n2 : Int), .int .u32 (n3 : Int), .int .i64 (n4 : Int), .int .u32 (n5 : Int), .int .u32 (n6 : Int), .string (strOf x7)] 50)).alloc (.cells #[.string ⟨#[]⟩, .string ⟨#[]⟩, .bool false] 48)) := ((Only.refl [] w).alloc _).alloc _
  have b1 := Blk.new w 50 #[.int .u32 (n0 : Int), .int .u32 (n1 : Int), .int .u32 (n2 : Int), .int .u32 (n3 : Int), .int .i64 (n4 : Int), .int .u32 (n5 : Int), .int .u32 (n6 : Int), .string (strOf x7)]
  have b2 : Blk ((w.alloc (.cells #[.int .u32 (n0 : Int), .int .u32 (n1 : Int), .int .u32 (n2 : Int), .int .u32 (n3 : Int), .int .i64 (n4 : Int), .int .u32 (n5 : Int), .int .u32 (n6 : Int), .string (strOf x7)] 50)).alloc (.cells #[.string ⟨#[]⟩, .string ⟨#[]⟩, .bool false] 48)) (w.heap.size + 1) 48 (chA noCh) := by
    have := Blk.new (w.alloc (.cells #[.int .u32 (n0 : Int), .int .u32 (n1 : Int), .int .u32 (n2 : Int), .int .u32 (n3 : Int), .int .i64 (n4 : Int), .int .u32 (n5 : Int), .int .u32 (n6 : Int), .string (strOf x7)] 50)) 48 (chA noCh)
    rw [show (w.alloc (.cells #[.int .u32 (n0 : Int), .int .u32 (n1 : Int), .int .u32 (n2 : Int), .int .u32 (n3 : Int), .int .i64 (n4 : Int), .int .u32 (n5 : Int), .int .u32 (n6 : Int), .string (strOf x7)] 50)).heap.size = w.heap.size + 1 by simp] at this
    exact this
  have KB : Hid (∀ W, Only [] ((w.alloc (.cells #[.int .u32 (n0 : Int), .int .u32 (n1 : Int), .int .u32 (n2 : Int), .int .u32 (n3 : Int), .int .i64 (n4 : Int), .int .u32 (n5 : Int), .int .u32 (n6 : Int), .string (strOf x7)] 50)).alloc (.cells #[.string ⟨#[]⟩, .string ⟨#[]⟩, .bool false] 48)) W → W.cell? ⟨w.heap.size, 0, none⟩ = some (.int .u32 (n0 : Int)) ∧ W.cell? ⟨w.heap.size, 1, none⟩ = some (.int .u32 (n1 : Int)) ∧ W.cell? ⟨w.heap.size, 2, none⟩ = some (.int .u32 (n2 : Int)) ∧ W.cell? ⟨w.heap.size, 3, none⟩ = some (.int .u32 (n3 : Int)) ∧ W.cell? ⟨w.heap.size, 4, none⟩ = some (.int .i64 (n4 : Int)) ∧ W.cell? ⟨w.heap.size, 5, none⟩ = some (.int .u32 (n5 : Int)) ∧ W.cell? ⟨w.heap.size, 6, none⟩ = some (.int .u32 (n6 : Int)) ∧ W.cell? ⟨w.heap.size, 7, none⟩ = some (.string (strOf x7))) := fun W kW => by
    have b := Blk.kept (b1.alloc (.cells #[.string ⟨#[]⟩, .string ⟨#[]⟩, .bool false] 48)) kW (by simp)
    exact ⟨b.cell 0, b.cell 1, b.cell 2, b.cell 3, b.cell 4, b.cell 5, b.cell 6, b.cell 7⟩
  have KB2 : Hid (∀ W, Only [] ((w.alloc (.cells #[.int .u32 (n0 : Int), .int .u32 (n1 : Int), .int .u32 (n2 : Int), .int .u32 (n3 : Int), .int .i64 (n4 : Int), .int .u32 (n5 : Int), .int .u32 (n6 : Int), .string (strOf x7)] 50)).alloc (.cells #[.string ⟨#[]⟩, .string ⟨#[]⟩, .bool false] 48)) W → Blk W (w.heap.size + 1) 48 (chA noCh)) := fun W kW => b2.kept kW (by simp)
  clear b1 b2
  have hw : WrN ((w.alloc (.cells #[.int .u32 (n0 : Int), .int .u32 (n1 : Int), .int .u32 (n2 : Int), .int .u32 (n3 : Int), .int .i64 (n4 : Int), .int .u32 (n5 : Int), .int .u32 (n6 : Int), .string (strOf x7)] 50)).alloc (.cells #[.string ⟨#[]⟩, .string ⟨#[]⟩, .bool false] 48)) (((w.alloc (.cells #[.int .u32 (n0 : Int), .int .u32 (n1 : Int), .int .u32 (n2 : Int), .int .u32 (n3 : Int), .int .i64 (n4 : Int), .int .u32 (n5 : Int), .int .u32 (n6 : Int), .string (strOf x7)] 50)).alloc (.cells #[.string ⟨#[]⟩, .string ⟨#[]⟩, .bool false] 48)).alloc (.cells #[.slice none 0 0] 84)) (w.heap.size + 1 + 1) [] [] := by
    have := WrN.new (Only.refl [] ((w.alloc (.cells #[.int .u32 (n0 : Int), .int .u32 (n1 : Int), .int .u32 (n2 : Int), .int .u32 (n3 : Int), .int .i64 (n4 : Int), .int .u32 (n5 : Int), .int .u32 (n6 : Int), .string (strOf x7)] 50)).alloc (.cells #[.string ⟨#[]⟩, .string ⟨#[]⟩, .bool false] 48)))
    rw [show ((w.alloc (.cells #[.int .u32 (n0 : Int), .int .u32 (n1 : Int), .int .u32 (n2 : Int), .int .u32 (n3 : Int), .int .i64 (n4 : Int), .int .u32 (n5 : Int), .int .u32 (n6 : Int), .string (strOf x7)] 50)).alloc (.cells #[.string ⟨#[]⟩, .string ⟨#[]⟩, .bool false] 48)).heap.size = w.heap.size + 1 + 1 by simp] at this
    exact this
  obtain ⟨c0, c1, c2, c3, c4, c5, c6, c7⟩ := KB.out _ hw.only
  go_enter Tryz.func18, Tryz.ntmps18
  go_wp2_with fail
  refine (wnumber_any _ _ _ _ _ n1 rfl hn1 hw.wr (by simp)).mono ?_
  rintro e w1 ⟨rfl, hw1⟩
  obtain ⟨F1, hw2⟩ := hw.next hw1
  clear hw hw1 c0 c1 c2 c3 c4 c5 c6 c7
  have hw := hw2
  clear hw2
  obtain ⟨c0, c1, c2, c3, c4, c5, c6, c7⟩ := KB.out _ hw.only
  go_wp2_with fail
  refine (wnumber_any _ _ _ _ _ n2 rfl hn2 hw.wr (by simp [be4_length])).mono ?_
  rintro e w1 ⟨rfl, hw1⟩
  obtain ⟨F1, hw2⟩ := hw.next hw1
  clear hw hw1 c0 c1 c2 c3 c4 c5 c6 c7
  have hw := hw2
  clear hw2
  obtain ⟨c0, c1, c2, c3, c4, c5, c6, c7⟩ := KB.out _ hw.only
  go_wp2_with fail
  refine (wnumber_any _ _ _ _ _ n3 rfl hn3 hw.wr (by simp [be4_length])).mono ?_
  rintro e w1 ⟨rfl, hw1⟩
  obtain ⟨F1, hw2⟩ := hw.next hw1
  clear hw hw1 c0 c1 c2 c3 c4 c5 c6 c7
  have hw := hw2
  clear hw2
  obtain ⟨c0, c1, c2, c3, c4, c5, c6, c7⟩ := KB.out _ hw.only
  go_wp2_with fail
  refine (wnumber_any _ _ _ _ _ n4 rfl hn4 hw.wr (by simp [be4_length])).mono ?_
  rintro e w1 ⟨rfl, hw1⟩
  obtain ⟨F1, hw2⟩ := hw.next hw1
  clear hw hw1 c0 c1 c2 c3 c4 c5 c6 c7
  have hw := hw2
  clear hw2
  obtain ⟨c0, c1, c2, c3, c4, c5, c6, c7⟩ := KB.out _ hw.only
  go_wp2_with fail
  refine (wnumber_any _ _ _ _ _ n5 rfl hn5 hw.wr (by simp [be4_length])).mono ?_
  rintro e w1 ⟨rfl, hw1⟩
  obtain ⟨F1, hw2⟩ := hw.next hw1
  clear hw hw1 c0 c1 c2 c3 c4 c5 c6 c7
  have hw := hw2
  clear hw2
  obtain ⟨c0, c1, c2, c3, c4, c5, c6, c7⟩ := KB.out _ hw.only
  go_wp2_with fail
  refine (wnumber_any _ _ _ _ _ n6 rfl hn6 hw.wr (by simp [be4_length])).mono ?_
  rintro e w1 ⟨rfl, hw1⟩
  obtain ⟨F1, hw2⟩ := hw.next hw1
  clear hw hw1 c0 c1 c2 c3 c4 c5 c6 c7
  have hw := hw2
  clear hw2
  obtain ⟨c0, c1, c2, c3, c4, c5, c6, c7⟩ := KB.out _ hw.only
  go_wp2_with fail
  refine (wtext_any _ _ _ _ (strOf x7) hw.wr (by simp [be4_length, strOf_size]; omega)).mono ?_
  rintro e w1 ⟨rfl, hw1⟩
  obtain ⟨F1, hw2⟩ := hw.next hw1
  clear hw hw1 c0 c1 c2 c3 c4 c5 c6 c7
  have hw := hw2
  clear hw2
  obtain ⟨c0, c1, c2, c3, c4, c5, c6, c7⟩ := KB.out _ hw.only
  have hnm := nums_one w1 [] n0 (by simp)
  have hkk := key_any _ [87] _ 1 [n0] hnm (by simp; omega) (by simp) (by simp)
  have hwb := hw.kept ((Only.refl [] w1).alloc (.cells #[.int .u32 (n0 : Int)] 22))
  replace hkk := Lib.hid hkk
  clear hnm
  go_wp2_with fail
  refine hkk.out.mono ?_; rintro e w3 ⟨rfl, k3⟩
  replace hwb := hwb.kept k3
  go_wp2_with fail
  refine (bytes_any _ _ _ _ hwb.wr).mono ?_; rintro e w4 ⟨rfl, rfl⟩
  have hb4 := KB2.out _ hwb.only
  have hrow : (.agg #[.string (strOf ([87] ++ encNs [n0])), .string (strOf ([] ++ be4 n1 ++ be4 n2 ++ be4 n3 ++ be4 n4 ++ be4 n5 ++ be4 n6 ++ encT (strOf x7).data.toList)), .bool false] : Value) = chV (workR ⟨n0, n1, n2, n3, n4, n5, n6, x7⟩) := by
    simp [chV, workR, encNs, strOf_list]
  go_wp2_with (refine wpList_store_ch (workR ⟨n0, n1, n2, n3, n4, n5, n6, x7⟩) noCh rfl _ _ rfl (w.heap.size + 1) rfl hrow hb4 ?_; intro w5 b5 k5)
  refine bodyPost_ret (results_ch rfl _ _ (w.heap.size + 1) rfl _ b5) rfl ?_
  exact ⟨rfl, (k0.trans hwb.only).beyond k5 (by omega)⟩

set_option maxRecDepth 100000 in
set_option maxHeartbeats 4000000 in
theorem numberRow_any (w : World) (s : List UInt8) (x : Int) (hs : s.length ≤ 100) (hf : U x) : Calls Tryz.prog 13 #[.string (strOf s), .int .u32 x] w fun e w' => e = .returned (chV ⟨s, encNs [x.toNat], false⟩) ∧ Only [] w w' := by
  obtain ⟨n, rfl, hn⟩ := u32_nat hf
  have k0 : Only [] w (w.alloc (.cells #[.string ⟨#[]⟩, .string ⟨#[]⟩, .bool false] 48)) := (Only.refl [] w).alloc _
  have b2 := Blk.new w 48 (chA noCh)
  have KB2 : Hid (∀ W, Only [] (w.alloc (.cells #[.string ⟨#[]⟩, .string ⟨#[]⟩, .bool false] 48)) W → Blk W w.heap.size 48 (chA noCh)) := fun W kW => b2.kept kW (by simp)
  clear b2 hf
  have hw : WrN (w.alloc (.cells #[.string ⟨#[]⟩, .string ⟨#[]⟩, .bool false] 48)) ((w.alloc (.cells #[.string ⟨#[]⟩, .string ⟨#[]⟩, .bool false] 48)).alloc (.cells #[.slice none 0 0] 84)) (w.heap.size + 1) [] [] := by
    have := WrN.new (Only.refl [] (w.alloc (.cells #[.string ⟨#[]⟩, .string ⟨#[]⟩, .bool false] 48)))
    rw [show (w.alloc (.cells #[.string ⟨#[]⟩, .string ⟨#[]⟩, .bool false] 48)).heap.size = w.heap.size + 1 by simp] at this
    exact this
  go_enter Tryz.func13, Tryz.ntmps13
  go_wp2_with fail
  refine (wnumber_any _ _ _ _ _ n rfl hn hw.wr (by simp)).mono ?_
  rintro e w1 ⟨rfl, hw1⟩
  obtain ⟨F1, hw2⟩ := hw.next hw1
  clear hw hw1
  have hkk := key_any w1 s none 0 [] (.inl rfl) (by simp) (by simp) hs
  replace hkk := Lib.hid hkk
  go_wp2_with fail
  refine hkk.out.mono ?_; rintro e w3 ⟨rfl, k3⟩
  have hwb := hw2.kept k3
  go_wp2_with fail
  refine (bytes_any _ _ _ _ hwb.wr).mono ?_; rintro e w4 ⟨rfl, rfl⟩
  have hb4 := KB2.out _ hwb.only
  have hrow : (.agg #[.string (strOf (s ++ encNs [])), .string (strOf ([] ++ be4 n)), .bool false] : Value) = chV ⟨s, encNs [((n : Nat) : Int).toNat], false⟩ := by
    simp [chV, encNs]
  go_wp2_with (refine wpList_store_ch ⟨s, encNs [((n : Nat) : Int).toNat], false⟩ noCh rfl _ _ rfl w.heap.size rfl hrow hb4 ?_; intro w5 b5 k5)
  refine bodyPost_ret (results_ch rfl _ _ w.heap.size rfl _ b5) rfl ?_
  exact ⟨rfl, (k0.trans hwb.only).beyond k5 (Nat.le_refl _)⟩

end Go.Proofs.YtalkhhjfplahkaaGreat
