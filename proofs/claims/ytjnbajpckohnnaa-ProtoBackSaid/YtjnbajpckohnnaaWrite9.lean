/- The walk of Write. -/
import Derived.Test.YtjnbajpckohnnaaRight9
import Derived.Test.YtjnbajpckohnnaaWhole9
import Derived.Test.YtjnbajpckohnnaaWr2
import Derived.Test.YtjnbajpckohnnaaChecked
import Derived.Tactics
import Derived.Tactics2
import Derived.StillTactics
import Derived.StillTailTactics
import Derived.RegionTactic
import Derived.WalkKit
import Derived.WalkLawsBesides
import Derived.WalkSpells
import Derived.Outline
import Derived.Laws.Pointers
import Derived.Laws.Small
import Derived.Laws.Build
import Derived.Laws.Cover3
import Derived.Laws.StructEq
import Derived.KernelRfl
import Derived.Lib.Hide
import Derived.BigQuiet
import Derived.BigRegion
import Derived.OwnWalk
import Derived.LoopTactic
import Derived.Laws.ResultCell
namespace Go.Proofs.Ytjnbajpckohnnaa
open Go.RowKit

theorem Wrote.after {w w1 w2 : World} {p : Nat} {F : List Nat} {bs : List UInt8} (h : Wrote w w1 p F bs) (k : Only [] w1 w2) : Wrote w w2 p F bs := by
  obtain ⟨F1, a1, a2, a3⟩ := h
  exact ⟨F1, a1.kept k (by simp) (by simp), a2.then k (by simp), a3⟩
theorem Wr.new (w : World) : Wr (w.alloc (.cells #[.slice none 0 0] 42)) w.heap.size [] [] :=
  ⟨.slice none 0 0, Blk.new w _ _, ⟨rfl, .inl ⟨rfl, rfl⟩⟩, by simp [Value.ownBlock], by simp [Value.ownBlock]⟩

theorem numZ_pos (p : Pk) (ho : p.Ok) (hr : p.Right) : ∀ z ∈ numZ p, 0 ≤ z ∧ z < 4294967296 := by
  obtain ⟨_, ⟨_, _⟩, ⟨_, _⟩, ⟨_, _⟩, hc, _, ⟨_, _⟩, _⟩ := hr
  have hc' : 0 ≤ p.code ∧ p.code ≤ 30 := by unfold knownP at hc; omega
  intro n hn
  simp only [numZ, List.mem_cons, List.not_mem_nil, or_false] at hn
  rcases hn with h | h | h | h | h | h | h | h | h | h | h | h | h | h | h | h | h
  all_goals subst h
  · omega
  · omega
  · omega
  · have := ho.life; unfold U at this; omega
  · have := ho.seq; unfold U at this; omega
  · have := ho.asked; unfold U at this; omega
  · have := ho.boot; unfold U at this; omega
  · omega
  · omega
  · have := ho.file; unfold U at this; omega
  · have := ho.epoch; unfold U at this; omega
  · have := ho.off; unfold U at this; omega
  · have := ho.len; unfold U at this; omega
  · have := ho.size; unfold U at this; omega
  · have := ho.mode; unfold U at this; omega
  · have := ho.deny; unfold U at this; omega
  · have := ho.handle; unfold U at this; omega
theorem num_at (p : Pk) (ho : p.Ok) (hr : p.Right) (k : Nat) (hk : k < (numN p).length) : ∃ n : Nat, zOf p k = n ∧ Hid (n < 4294967296) ∧ Hid ((numN p)[k] = n) := by
  have hk' : k < (numZ p).length := by simpa [numN] using hk
  obtain ⟨a, b⟩ := numZ_pos p ho hr _ (List.getElem_mem hk')
  have e : (numN p)[k] = (numZ p)[k].toNat := by simp [numN]
  exact ⟨(numZ p)[k].toNat, by rw [zOf_at p k hk']; omega, Lib.hid (by omega), Lib.hid e⟩
/-- The first j texts. -/
def encTs (s : Nat → ByteArray) : Nat → List UInt8
  | 0 => []
  | j + 1 => encTs s j ++ encT (s j).data.toList
theorem encTs_succ (s : Nat → ByteArray) (j : Nat) : encTs s (j + 1) = encTs s j ++ encT (s j).data.toList := rfl
theorem bytesP_is (p : Pk) : encNs (numN p) ++ encTs (sOf p) 3 = bytesP p := by
  simp [encTs, bytesP, sOf]
theorem text_most (p : Pk) (hr : p.Right) (j : Nat) : (sOf p j).size ≤ 128 := by
  obtain ⟨⟨⟨_, _⟩, _⟩, _⟩ := hr
  unfold sOf
  split <;> omega
theorem encTs_most (p : Pk) (hr : p.Right) (j : Nat) : (encTs (sOf p) j).length ≤ 136 * j := by
  induction j with
  | zero => simp [encTs]
  | succ j ih =>
    have := encT_most (sOf p j).data.toList 128 (by rw [size_list]; exact text_most p hr j)
    rw [encTs_succ, List.length_append]
    omega
theorem right_five (p : Pk) (hr : p.Right) : U p.kind ∧ U p.frm ∧ U p.to ∧ U p.code ∧ U p.err := by
  obtain ⟨_, ⟨_, _⟩, ⟨_, _⟩, ⟨_, _⟩, hc, _, ⟨_, _⟩, _⟩ := hr
  have hc' : 0 ≤ p.code ∧ p.code ≤ 30 := by unfold knownP at hc; omega
  unfold U
  omega

theorem write_no (w : World) (p : Pk) (hr : ¬ p.Right) : Calls Try.prog 8 #[pkV p] w fun e w' => e = .returned (.tuple #[.string ⟨#[]⟩, .int .i64 1]) ∧ Only [] w w' := by
  have hd : decide p.Right = false := decide_eq_false hr
  have b0 := Blk.new w 27 (pkA p)
  go_enter Try.func8, Try.ntmps8
  go_wp2_with (refine wpList_load_pk p rfl (.tmp 1) rfl w.heap.size rfl b0 ?_)
  refine (right_any _ p).mono ?_; rintro e w1 ⟨rfl, k1⟩
  rw [hd]
  clear hd hr
  go_wp2
  go_ret2
  exact ⟨rfl, k1.boxed⟩

set_option maxHeartbeats 1000000 in
theorem write_yes (w : World) (p : Pk) (ho : p.Ok) (hr : p.Right) : Calls Try.prog 8 #[pkV p] w fun e w' => e = .returned (.tuple #[.string (strOf (bytesP p)), .int .i64 0]) ∧ Only [] w w' := by
  have hd : decide p.Right = true := decide_eq_true hr
  obtain ⟨u0, u1, u2, u3, u4⟩ := right_five p hr
  have NA := Lib.hid (num_at p ho hr)
  have TM := Lib.hid (text_most p hr)
  have EM := Lib.hid (encTs_most p hr)
  clear ho hr
  have b0 := Blk.new w 27 (pkA p)
  go_enter Try.func8, Try.ntmps8
  go_wp2_with (refine wpList_load_pk p rfl (.tmp 1) rfl w.heap.size rfl b0 ?_)
  refine (right_any _ p).mono ?_; rintro e w1 ⟨rfl, k1⟩
  rw [hd]
  clear hd
  have z1 : w.heap.size + 1 ≤ w1.heap.size := by have := k1.size; simpa using this
  have b1 := b0.kept k1 (by simp)
  clear b0
  replace k1 := k1.boxed
  have b2 := b1.alloc (.cells #[.slice none 0 0] 42)
  go_wp2_with (refine wpList_load_pk p rfl (.tmp 1) rfl w.heap.size rfl b2 ?_)
  refine (counted_any _ p u0 u1 u2 u3 u4).mono ?_; rintro e w2 ⟨rfl, k2⟩
  have z2 : w1.heap.size + 1 ≤ w2.heap.size := by have := k2.size; simpa using this
  have hwr2 := (Wr.new w1).kept k2 (by simp) (by simp)
  replace b2 := b2.kept k2 (by simp)
  replace k2 := k1.trans k2.boxed
  clear b1 k1
  go_wp2_with fail
  refine (numbers_any _ w.heap.size w2.heap.size).mono ?_; rintro e w3 ⟨rfl, k3⟩
  have L : Lies w3 w.heap.size w2.heap.size (aOf p) (zOf p) (sOf p) := ⟨(b2.alloc _).kept k3 (by simp), (Blk.new w2 44 _).kept k3 (by simp), by omega⟩
  have hwr := (hwr2.kept ((Only.refl [] w2).alloc _) (by simp) (by simp)).kept k3 (by simp) (by simp)
  replace k3 := k2.trans k3.boxed
  have n1 : w.heap.size ∉ [w1.heap.size] := by simp; omega
  have n2 : w2.heap.size ∉ [w1.heap.size] := by simp; omega
  have n3 : w.heap.size ≤ w1.heap.size := by omega
  clear b2 hwr2 k2 z1 z2
  generalize w2.heap.size = h at *
  generalize w1.heap.size = pw at *
  obtain ⟨g, hg⟩ : ∃ g, w.heap.size = g := ⟨_, rfl⟩
  rw [hg] at L n1
  have n4 : g ≤ pw := by omega
  rw [hg]
  replace hg := Lib.hid hg
  clear n3
  go_wp2_with fail
  go_loopw [7, 16] (fun _ i wr => ∃ k : Nat, k ≤ 17 ∧ i = .int .i64 k ∧ Wrote w3 wr pw [] (encNs ((numN p).take k))) (fun _ i _ => 17 - (intOf i).toNat)
  case atStart => exact ⟨0, by omega, rfl, [], hwr, Only.refl _ _, by simp⟩
  case round =>
    obtain ⟨k, hk, rfl, hw⟩ := hrel
    clear hwr
    by_cases hlt : k < 17
    · obtain ⟨F1, a1, a2, a3⟩ := hw
      have hix := index_nums g h k hlt
      have q0 := (L.kept a2 n1 n2).num k hlt
      have hlt' : (k : Int) < 17 := by omega
      obtain ⟨n, e1, e2, e3⟩ := NA.out k (by rw [numN_length]; exact hlt)
      rw [e1] at q0
      replace e1 := Lib.hid e1
      have hbl : (encNs ((numN p).take k)).length + 4 ≤ 1048576 := by rw [encNs_length, List.length_take, numN_length]; omega
      replace hbl := Lib.hid hbl
      generalize locB g h k = B at *
      generalize locO k = O at *
      replace a3 := Lib.hid a3
      replace a2 := Lib.hid a2
      go_wp2_with fail
      refine (wnumber_any _ pw F1 _ _ n rfl e2.out a1 hbl.out).mono ?_
      rintro e w4 ⟨rfl, hw4⟩
      go_wp2
      go_roundw
      case rel => exact ⟨k + 1, by omega, by go_num, by
        have := Wrote.join a2.out a3.out hw4
        rw [encNs_take _ k (by rw [numN_length]; exact hlt), e3.out]
        exact this⟩
      case measure => simp [intOf]; omega
    · obtain rfl : k = 17 := by omega
      rw [show (numN p).take 17 = numN p from List.take_of_length_le (by rw [numN_length]; exact Nat.le_refl _)] at hw
      clear hk hlt
      go_wp2_with fail
      refine (texts_any _ g).mono ?_; rintro e w5 ⟨rfl, k5⟩
      have hw5 : Wrote w3 w5 pw [] (encNs (numN p) ++ encTs (sOf p) 0) := by
        have := hw.after k5
        simpa [encTs] using this
      clear hw k5
      go_wp2_with fail
      go_loopw [9, 25] (fun _ i wr => ∃ j : Nat, j ≤ 3 ∧ i = .int .i64 j ∧ Wrote w3 wr pw [] (encNs (numN p) ++ encTs (sOf p) j)) (fun _ i _ => 3 - (intOf i).toNat)
      case atStart => exact ⟨0, by omega, rfl, hw5⟩
      case round =>
        obtain ⟨j, hj, rfl, hw⟩ := hrel
        clear hw5
        by_cases hlt : j < 3
        · obtain ⟨F1, a1, a2, a3⟩ := hw
          have hix := index_texts g j hlt
          have hlt' : (j : Int) < 3 := by omega
          have q0 := ((L.kept a2 n1 n2).kept ((Only.refl [] wr).alloc (.cells #[.pointer (some ⟨g, 17 + j, none⟩), .int .i64 (mostK j : Nat)] 54)) (by simp) (by simp)).text j hlt
          have t0 := (Blk.new wr 54 #[.pointer (some ⟨g, 17 + j, none⟩), .int .i64 (mostK j : Nat)]).cell 0
          have t1 := (Blk.new wr 54 #[.pointer (some ⟨g, 17 + j, none⟩), .int .i64 (mostK j : Nat)]).cell 1
          simp only [List.getElem?_toArray, List.getElem?_cons_zero, List.getElem?_cons_succ] at t0 t1
          have hwr := a1.kept ((Only.refl [] wr).alloc (.cells #[.pointer (some ⟨g, 17 + j, none⟩), .int .i64 (mostK j : Nat)] 54)) (by simp) (by simp)
          have hbl : (encNs (numN p) ++ encTs (sOf p) j).length + (sOf p j).size + 8 ≤ 1048576 := by
            have := TM.out j
            have := EM.out j
            rw [List.length_append, encNs_length, numN_length]
            omega
          replace hbl := Lib.hid hbl
          replace a3 := Lib.hid a3
          replace a2 := Lib.hid a2
          clear a1
          go_wp2_with fail
          refine (wtext_any _ pw F1 _ (sOf p j) hwr hbl.out).mono ?_
          rintro e w6 ⟨rfl, hw6⟩
          go_wp2
          go_roundw
          case rel => exact ⟨j + 1, by omega, by go_num, by
            have := Wrote.join a2.out a3.out (hw6.from ((Only.refl [] wr).alloc _))
            rw [encTs_succ, ← List.append_assoc]
            exact this⟩
          case measure => simp [intOf]; omega
        · obtain rfl : j = 3 := by omega
          obtain ⟨F1, a1, a2, a3⟩ := hw
          rw [bytesP_is] at a1
          clear hj hlt
          go_wp2_with fail
          refine (bytes_any _ pw F1 _ a1).mono ?_; rintro e w6 ⟨rfl, rfl⟩
          go_wp2
          go_ret2
          exact ⟨rfl, k3.then a2 (by intro i hi; simp at hi; subst hi; right; have := hg.out; omega)⟩

theorem write_any (w : World) (p : Pk) (ho : p.Ok) : Calls Try.prog 8 #[pkV p] w fun e w' => e = .returned (.tuple #[.string (writeS p), .int .i64 (writeE p)]) ∧ Only [] w w' := by
  unfold writeS writeE
  by_cases hr : p.Right
  · rw [if_pos hr, if_pos hr]
    exact write_yes w p ho hr
  · rw [if_neg hr, if_neg hr]
    exact write_no w p hr

end Go.Proofs.Ytjnbajpckohnnaa
