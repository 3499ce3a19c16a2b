/- Joined: Put9, Read9, Write9. -/
import Derived.Test.YtalkhhjfplahkaaGreatKF
import Derived.Test.YtalkhhjfplahkaaGreatKB
import Derived.Test.YtalkhhjfplahkaaGreatChecked
import Derived.Tactics
import Derived.Tactics2
import Derived.StillTactics
import Derived.StillTailTactics
import Derived.RegionTactic
import Derived.WalkKit
import Derived.WalkLawsBesides
import Derived.WalkSpells
import Derived.Outline
import Derived.Laws.Pointers
import Derived.Laws.Small
import Derived.Laws.Build
import Derived.Laws.Cover3
import Derived.Laws.StructEq
import Derived.KernelRfl
import Derived.Lib.Hide
import Derived.BigQuiet
import Derived.BigRegion
import Derived.OwnWalk
import Derived.LoopTactic
import Derived.Laws.ResultCell
import Derived.Test.YtalkhhjfplahkaaGreatKH
import Derived.Deep.RegionHeld3
import Derived.Test.YtalkhhjfplahkaaGreatKG
namespace Go.Proofs.YtalkhhjfplahkaaGreat
set_option maxRecDepth 100000
open Go.RowKit

/-- The whole numbers of a packet, by its numbers. -/
def aZ (z : Nat → Int) : Nat → Int
  | 0 => z 0
  | 1 => z 1
  | 2 => z 2
  | 3 => z 7
  | _ => z 8
set_option maxHeartbeats 2000000 in
theorem put9_any (w : World) (g : Nat) (z : Nat → Int) (s : Nat → ByteArray) (h0 : U (z 0)) (h1 : U (z 1)) (h2 : U (z 2)) (h7 : U (z 7)) (h8 : U (z 8)) (hb : Blk w g 54 (pC (fun _ => 0) z s)) :
    Calls Tryz.prog 94 #[.agg (cC z), .pointer (some ⟨g, 0, none⟩)] w fun e w' => e = .returned (.tuple #[]) ∧ Blk w' g 54 (pC (aZ z) z s) ∧ Only [g] w w' := by
  replace h0 := wrap_i h0
  replace h1 := wrap_i h1
  replace h2 := wrap_i h2
  replace h7 := wrap_i h7
  replace h8 := wrap_i h8
  have hne : g ≠ w.heap.size := by have := hb.lt; omega
  have hne' : w.heap.size ≠ g := fun e => hne e.symm
  have hx := hb.alloc (.cells #[.int .u32 (z 0), .int .u32 (z 1), .int .u32 (z 2), .int .u32 (z 7), .int .u32 (z 8)] 115)
  have hn := Blk.new w 115 #[.int .u32 (z 0), .int .u32 (z 1), .int .u32 (z 2), .int .u32 (z 7), .int .u32 (z 8)]
  have kw := (Only.refl [g] w).alloc (.cells #[.int .u32 (z 0), .int .u32 (z 1), .int .u32 (z 2), .int .u32 (z 7), .int .u32 (z 8)] 115)
  have v0 := hn.cell 0
  have v1 := hn.cell 1
  have v2 := hn.cell 2
  have v3 := hn.cell 3
  have v4 := hn.cell 4
  have c0 := hx.cell 0
  have c1 := hx.cell 1
  have c2 := hx.cell 2
  have c7 := hx.cell 7
  have c8 := hx.cell 8
  have f0 := hx.free 0
  have f1 := hx.free 1
  have f2 := hx.free 2
  have f7 := hx.free 7
  have f8 := hx.free 8
  simp only [pC, List.getElem?_toArray, List.getElem?_cons_zero, List.getElem?_cons_succ] at v0 v1 v2 v3 v4 c0 c1 c2 c7 c8
  obtain ⟨W, hW⟩ : ∃ W, W = w.alloc (.cells #[.int .u32 (z 0), .int .u32 (z 1), .int .u32 (z 2), .int .u32 (z 7), .int .u32 (z 8)] 115) := ⟨_, rfl⟩
  rw [← hW] at hx kw v0 v1 v2 v3 v4 c0 c1 c2 c7 c8 f0 f1 f2 f7 f8
  replace hW := Lib.hid hW
  replace hx := Lib.hid hx
  replace kw := Lib.hid kw
  clear hb hn
  go_enter Tryz.func94, Tryz.ntmps94
  go_wp2
  unfold cC
  rw [← hW.out]
  go_region
  have hy : Blk (((W.setCell ⟨g, 0, none⟩ (.int .i64 (z 0))).setCell ⟨g, 1, none⟩ (.int .i64 (z 1))).setCell ⟨g, 2, none⟩ (.int .i64 (z 2))).drew g 54 (pC (fun | 0 => z 0 | 1 => z 1 | 2 => z 2 | _ => 0) z s) := (((hx.out.set 0 (.int .i64 (z 0))).set 1 (.int .i64 (z 1))).set 2 (.int .i64 (z 2))).kept (Only.refl [] _).drew (by simp)
  have ky : Only [g] W (((W.setCell ⟨g, 0, none⟩ (.int .i64 (z 0))).setCell ⟨g, 1, none⟩ (.int .i64 (z 1))).setCell ⟨g, 2, none⟩ (.int .i64 (z 2))).drew := ((((Only.refl [g] W).setCell (.inl (by simp)) _).setCell (.inl (by simp)) _).setCell (.inl (by simp)) _).drew
  obtain ⟨W2, hW2⟩ : ∃ W2, W2 = (((W.setCell ⟨g, 0, none⟩ (.int .i64 (z 0))).setCell ⟨g, 1, none⟩ (.int .i64 (z 1))).setCell ⟨g, 2, none⟩ (.int .i64 (z 2))).drew := ⟨_, rfl⟩
  rw [← hW2] at hy ky
  rw [← hW2]
  replace hW2 := Lib.hid hW2
  replace v3 := ky.cell v3 (by simpa using hne')
  replace v4 := ky.cell v4 (by simpa using hne')
  clear v0 v1 v2 c0 c1 c2 c7 c8 f0 f1 f2 f7 f8 h0 h1 h2
  have c7 := hy.cell 7
  have c8 := hy.cell 8
  have f7 := hy.free 7
  have f8 := hy.free 8
  simp only [pC, List.getElem?_toArray, List.getElem?_cons_zero, List.getElem?_cons_succ] at c7 c8
  replace hy := Lib.hid hy
  replace ky := Lib.hid ky
  go_wp2
  go_region
  have hz : Blk ((W2.setCell ⟨g, 7, none⟩ (.int .i64 (z 7))).setCell ⟨g, 8, none⟩ (.int .i64 (z 8))).drew g 54 (pC (aZ z) z s) := ((hy.out.set 7 (.int .i64 (z 7))).set 8 (.int .i64 (z 8))).kept (Only.refl [] _).drew (by simp)
  have kz := ((((kw.out.trans ky.out).setCell (p := ⟨g, 7, none⟩) (.inl (by simp)) (.int .i64 (z 7))).setCell (p := ⟨g, 8, none⟩) (.inl (by simp)) (.int .i64 (z 8)))).drew
  obtain ⟨W3, hW3⟩ : ∃ W3, W3 = ((W2.setCell ⟨g, 7, none⟩ (.int .i64 (z 7))).setCell ⟨g, 8, none⟩ (.int .i64 (z 8))).drew := ⟨_, rfl⟩
  rw [← hW3] at hz kz
  rw [← hW3]
  replace hW3 := Lib.hid hW3
  replace hz := Lib.hid hz
  replace kz := Lib.hid kz
  go_wp2
  go_end0
  exact ⟨rfl, hz.out, kz.out⟩

end Go.Proofs.YtalkhhjfplahkaaGreat
namespace Go.Proofs.YtalkhhjfplahkaaGreat
set_option maxRecDepth 100000
open Go.RowKit

def zK (bs : List UInt8) (k : Nat) : Nat → Int := fun i => if i < k then (numAt bs i : Nat) else 0
def sK (bs : List UInt8) (j : Nat) : Nat → ByteArray := fun i => if i < j then strOf (txtAt bs i) else ⟨#[]⟩
theorem zK_succ (bs : List UInt8) (k : Nat) : upd (zK bs k) k (numAt bs k : Nat) = zK bs (k + 1) := by
  funext i
  unfold upd zK
  by_cases h : i = k
  · subst h; simp
  · rw [if_neg h]
    by_cases h2 : i < k
    · rw [if_pos h2, if_pos (by omega)]
    · rw [if_neg h2, if_neg (by omega)]
theorem sK_succ (bs : List UInt8) (k : Nat) : updS (sK bs k) k (strOf (txtAt bs k)) = sK bs (k + 1) := by
  funext i
  unfold updS sK
  by_cases h : i = k
  · subst h; simp
  · rw [if_neg h]
    by_cases h2 : i < k
    · rw [if_pos h2, if_pos (by omega)]
    · rw [if_neg h2, if_neg (by omega)]
theorem zK_u (bs : List UInt8) (k i : Nat) : U (zK bs k i) := by
  unfold zK
  split
  · exact u_nat (numAt_lt bs i)
  · exact ⟨by decide, by decide⟩
theorem pkOf_cells (bs : List UInt8) : pC (aZ (zK bs 17)) (zK bs 17) (sK bs 3) = pkA (pkOf bs) := rfl
theorem zero_cells (bs : List UInt8) : pC (fun _ => 0) (zK bs 0) (fun _ => ⟨#[]⟩) = pkA zPk := rfl
theorem locB_or (g h k : Nat) : locB g h k = g ∨ locB g h k = h := by
  unfold locB
  split <;> simp

set_option maxHeartbeats 2000000 in
theorem read_is (w : World) (s : ByteArray) (bs : List UInt8) (hs : s.size ≤ 140737488351232) (hbs : s.data.toList = bs) : Calls Tryz.prog 69 #[.string s] w fun e w' => e = .returned (.tuple #[pkV (readP bs), .int .i64 (readE bs : Nat)]) ∧ Only [] w w' := by
  have NL := Lib.hid (newReader_two (s := s) (hs := hs))
  rw [hbs] at NL
  clear hs hbs
  go_enter Tryz.func69, Tryz.ntmps69
  go_wp2_with fail
  refine (NL.out _).mono ?_
  rintro e w1 ⟨pr, gr, rfl, rd, p1, g1, k1, _⟩
  simp only [World.size_alloc] at p1 g1
  have bR := (((Blk.new w 54 (pkA zPk)).alloc (.cells (pkA zPk) 54)).alloc (.cells #[.int .u32 0, .int .u32 0, .int .u32 0, .int .u32 0, .int .u32 0] 115)).kept k1 (by simp)
  have bg := ((Blk.new (w.alloc (.cells (pkA zPk) 54)) 54 (pkA zPk)).alloc (.cells #[.int .u32 0, .int .u32 0, .int .u32 0, .int .u32 0, .int .u32 0] 115)).kept k1 (by simp)
  have bh := (Blk.new ((w.alloc (.cells (pkA zPk) 54)).alloc (.cells (pkA zPk) 54)) 115 #[.int .u32 0, .int .u32 0, .int .u32 0, .int .u32 0, .int .u32 0]).kept k1 (by simp)
  rw [show (w.alloc (.cells (pkA zPk) 54)).heap.size = w.heap.size + 1 by simp] at bg
  rw [show ((w.alloc (.cells (pkA zPk) 54)).alloc (.cells (pkA zPk) 54)).heap.size = w.heap.size + 1 + 1 by simp] at bh
  have ho : Only [] w w1 := k1.boxed.boxed.boxed
  have L : Lies w1 (w.heap.size + 1) (w.heap.size + 1 + 1) (fun _ => 0) (zK bs 0) (fun _ => ⟨#[]⟩) := ⟨bg, bh, by omega⟩
  clear bg bh k1 NL
  go_wp2_with fail
  refine (numbers_any _ _ _).mono ?_; rintro e w2 ⟨rfl, k2⟩
  replace rd := rd.kept k2 (by simp) (by simp)
  replace bR := bR.kept k2 (by simp)
  replace L := L.kept k2 (by simp) (by simp)
  replace ho := ho.trans k2
  obtain ⟨R, hR⟩ : ∃ R, w.heap.size = R := ⟨_, rfl⟩
  rw [hR] at p1 g1 bR L
  rw [hR]
  obtain ⟨g, hg⟩ : ∃ g, R + 1 = g := ⟨_, rfl⟩
  obtain ⟨h, hh⟩ : ∃ h, R + 1 + 1 = h := ⟨_, rfl⟩
  rw [hh, hg] at L
  rw [hh, hg]
  have a1 : pr ≠ g := by omega
  have a2 : pr ≠ h := by omega
  have a3 : pr ≠ R := by omega
  have a4 : gr ≠ g := by omega
  have a5 : gr ≠ h := by omega
  have a7 : g ≠ R := by omega
  have a8 : h ≠ R := by omega
  have o1 : w.heap.size ≤ pr := by omega
  have o2 : w.heap.size ≤ g := by omega
  have o3 : w.heap.size ≤ h := by omega
  have o4 : w.heap.size ≤ R := by omega
  replace hR := Lib.hid hR
  replace hg := Lib.hid hg
  replace hh := Lib.hid hh
  clear p1 g1 k2
  go_wp2_with fail
  go_loopw [8, 15] (fun _ i wr => ∃ k : Nat, k ≤ 17 ∧ i = .int .i64 k ∧ Rd wr pr gr (rds bs k).1 (rds bs k).2 ∧ Lies wr g h (fun _ => 0) (zK bs k) (fun _ => ⟨#[]⟩) ∧ Blk wr R 54 (pkA zPk) ∧ Only [] w wr) (fun _ i _ => 17 - (intOf i).toNat)
  case atStart => exact ⟨0, by omega, rfl, rd, L, bR, ho⟩
  case round =>
    obtain ⟨k, hk, rfl, hr, hl, hb, hw⟩ := hrel
    clear rd L bR ho
    by_cases hlt : k < 17
    · have hix := index_nums g h k hlt
      have hlt' : (k : Int) < 17 := by omega
      have hB := locB_or g h k
      have call : Calls Tryz.prog 65 #[.pointer (some ⟨pr, 0, none⟩)] wr (Took wr pr gr (.int .u32 (numAt bs k : Nat)) (rds bs (k + 1)).1 (rds bs (k + 1)).2) := rnum_any wr pr gr _ _ hr
      replace call := Lib.hid call
      clear hr
      go_wp2_with fail
      refine call.out.mono ?_; rintro e w4 ⟨rfl, hr4, k4⟩
      have hl4 := hl.kept k4 (by simpa using a1.symm) (by simpa using a2.symm)
      have hb4 := hb.kept k4 (by simpa using a3.symm)
      have hw4 : Only [] w w4 := hw.then k4 (by intro i hi; simp at hi; subst hi; exact .inr o1)
      have q0 := hl4.num k hlt
      have q1 := hl4.freeNum k hlt
      have hl5 := hl4.setNum k hlt (numAt bs k : Nat)
      rw [zK_succ] at hl5
      generalize locB g h k = B at *
      generalize locO k = O at *
      have k5 : Only [B] w4 (w4.setCell ⟨B, O, none⟩ (.int .u32 (numAt bs k : Nat))) := (Only.refl [B] w4).setCell (.inl (by simp)) _
      have b1 : pr ≠ B := by rcases hB with e | e <;> rw [e] <;> assumption
      have b2 : gr ≠ B := by rcases hB with e | e <;> rw [e] <;> assumption
      have b3 : R ≠ B := by rcases hB with e | e <;> rw [e] <;> exact fun e => by first | exact a7 e.symm | exact a8 e.symm
      have b4 : w.heap.size ≤ B := by rcases hB with e | e <;> rw [e] <;> assumption
      have hr5 := Lib.hid (hr4.kept k5 (by simpa using b1) (by simpa using b2))
      have hb5 := Lib.hid (hb4.kept k5 (by simpa using b3))
      have hw5 : Only [] w _ := hw4.then k5 (by intro i hi; simp at hi; subst hi; exact .inr b4)
      replace hw5 := Lib.hid hw5
      replace hl5 := Lib.hid hl5
      clear hr4 hl4 hb4 hw4 k4 k5 hB call hl hb hw
      go_wp2
      go_roundw
      case rel => exact ⟨k + 1, by omega, by go_num, hr5.out, hl5.out, hb5.out, hw5.out⟩
      case measure => simp [intOf]; omega
    · obtain rfl : k = 17 := by omega
      clear hk hlt
      go_wp2_with fail
      refine (texts_any _ g).mono ?_; rintro e w5 ⟨rfl, k5⟩
      have rd : Rd w5 pr gr (txs bs 0).1 (txs bs 0).2 := hr.kept k5 (by simp) (by simp)
      replace hl : Lies w5 g h (fun _ => 0) (zK bs 17) (sK bs 0) := hl.kept k5 (by simp) (by simp)
      replace hb := hb.kept k5 (by simp)
      replace hw := hw.trans k5
      clear hr k5
      go_wp2_with fail
      go_loopw [10, 24] (fun _ i wr => ∃ j : Nat, j ≤ 3 ∧ i = .int .i64 j ∧ Rd wr pr gr (txs bs j).1 (txs bs j).2 ∧ Lies wr g h (fun _ => 0) (zK bs 17) (sK bs j) ∧ Blk wr R 54 (pkA zPk) ∧ Only [] w wr) (fun _ i _ => 3 - (intOf i).toNat)
      case atStart => exact ⟨0, by omega, rfl, rd, hl, hb, hw⟩
      case round =>
        clear rd hl hb hw
        obtain ⟨j, hj, rfl, hr, hl, hb, hw⟩ := hrel
        by_cases hlt : j < 3
        · have hix := index_texts g j hlt
          have hlt' : (j : Int) < 3 := by omega
          go_wp2_with fail
          have t0 := (Blk.new wr 124 #[.pointer (some ⟨g, 17 + j, none⟩), .int .i64 (mostK j : Nat)]).cell 0
          have t1 := (Blk.new wr 124 #[.pointer (some ⟨g, 17 + j, none⟩), .int .i64 (mostK j : Nat)]).cell 1
          simp only [List.getElem?_toArray, List.getElem?_cons_zero, List.getElem?_cons_succ] at t0 t1
          have kX : Only [] wr (wr.alloc (.cells #[.pointer (some ⟨g, 17 + j, none⟩), .int .i64 (mostK j : Nat)] 124)) := (Only.refl [] wr).alloc _
          have d1 : wr.heap.size ≠ pr := by obtain ⟨_, _, hr'⟩ := hr; have := hr'.blk.lt; omega
          have d2 : wr.heap.size ≠ g := by have := hl.p.lt; omega
          replace hr := hr.kept kX (by simp) (by simp)
          replace hl := hl.kept kX (by simp) (by simp)
          replace hb := hb.kept kX (by simp)
          replace hw := hw.trans kX
          clear kX
          obtain ⟨X, hX⟩ : ∃ X, X = wr.alloc (.cells #[.pointer (some ⟨g, 17 + j, none⟩), .int .i64 (mostK j : Nat)] 124) := ⟨_, rfl⟩
          rw [← hX] at t0 t1 hr hl hb hw
          rw [← hX]
          replace hX := Lib.hid hX
          generalize wr.heap.size = q at *
          have K := Lib.hid (show ∀ w', Only [pr, g] X w' → w'.cell? ⟨q, 0, none⟩ = some (.pointer (some ⟨g, 17 + j, none⟩)) ∧ w'.cell? ⟨q, 1, none⟩ = some (.int .i64 (mostK j : Nat)) from
            fun w' kk => ⟨kk.cell t0 (by simp; exact ⟨d1, d2⟩), kk.cell t1 (by simp; exact ⟨d1, d2⟩)⟩)
          have hmk : ((mostK j : Nat) : Int) ≤ 9223372036854775807 := by have : mostK j ≤ 128 := by { unfold mostK; split <;> decide }; omega
          have call : ∀ w', Rd w' pr gr (txs bs j).1 (txs bs j).2 → Calls Tryz.prog 68 #[.pointer (some ⟨pr, 0, none⟩), .int .i64 (mostK j : Nat)] w' (Took w' pr gr (.string (strOf (txtAt bs j))) (txs bs (j + 1)).1 (txs bs (j + 1)).2) :=
            fun w' h' => rtext_any w' pr gr _ _ _ hmk h'
          replace call := Lib.hid call
          clear hmk
          go_region_held3 (fun w' => w'.cell? ⟨q, 0, none⟩ = some (.pointer (some ⟨g, 17 + j, none⟩)) ∧ w'.cell? ⟨q, 1, none⟩ = some (.int .i64 (mostK j : Nat)))
            (first | with_reducible exact K.out _ (Only.refl _ _) | with_reducible exact K.out _ (Only.refl _ _).drew | with_reducible exact K.out _ kk | with_reducible exact K.out _ (Only.setCell kk (.inl (by simp)) _))
            (first | (go_at_call 68; refine (call.out _ (hr.kept (Only.refl [] X).drew (by simp) (by simp))).mono ?_; rintro e wn ⟨rfl, hrn, kn⟩; have kk : Only [pr, g] X wn := kn.undrew.more (by simp); have hln := hl.kept kn.undrew (by simpa using a1.symm) (by simpa using a2.symm); have z0 := hln.text j hlt; have z1 := hln.freeText j))
          have kg : Only [g] wn (wn.setCell ⟨g, 17 + j, none⟩ (.string (strOf (txtAt bs j)))) := (Only.refl [g] wn).setCell (.inl (by simp)) _
          have l5 := hln.setText j hlt (strOf (txtAt bs j))
          rw [sK_succ] at l5
          have r5 := Lib.hid (hrn.kept kg (by simpa using a1) (by simpa using a4))
          have b5 := Lib.hid ((hb.kept kn.undrew (by simpa using a3.symm)).kept kg (by simpa using a7.symm))
          have w5' : Only [] w (wn.setCell ⟨g, 17 + j, none⟩ (.string (strOf (txtAt bs j)))) := (hw.then kn.undrew (by intro i hi; simp at hi; subst hi; exact .inr o1)).then kg (by intro i hi; simp at hi; subst hi; exact .inr o2)
          replace l5 := Lib.hid l5
          replace w5' := Lib.hid w5'
          clear kg hrn hln kk kn z0 z1 K call hr hl hb hw t0 t1
          go_wp2
          go_roundw
          case rel => exact ⟨j + 1, by omega, by go_num, r5.out, l5.out, b5.out, w5'.out⟩
          case measure => simp [intOf]; omega
        · obtain rfl : j = 3 := by omega
          clear hj hlt
          have call : Calls Tryz.prog 93 #[.pointer (some ⟨pr, 0, none⟩)] wr (Took wr pr gr (.int .i64 (endE bs : Nat)) (txs bs 3).1 (endE bs)) := rend_any wr pr gr _ _ hr
          replace call := Lib.hid call
          clear hr
          go_wp2_with fail
          refine call.out.mono ?_; rintro e w6 ⟨rfl, _, k6⟩
          replace hl := hl.kept k6 (by simpa using a1.symm) (by simpa using a2.symm)
          replace hb := hb.kept k6 (by simpa using a3.symm)
          replace hw : Only [] w w6 := hw.then k6 (by intro i hi; simp at hi; subst hi; exact .inr o1)
          clear k6 call
          by_cases he : endE bs = 0
          · rw [he]
            have e0 := hl.c.cell 0
            have e1 := hl.c.cell 1
            have e2 := hl.c.cell 2
            have e3 := hl.c.cell 3
            have e4 := hl.c.cell 4
            simp only [cC, List.getElem?_toArray, List.getElem?_cons_zero, List.getElem?_cons_succ] at e0 e1 e2 e3 e4
            have HE := Lib.hid he
            clear he
            go_wp2_with fail
            refine (put9_any _ g (zK bs 17) (sK bs 3) (zK_u _ _ _) (zK_u _ _ _) (zK_u _ _ _) (zK_u _ _ _) (zK_u _ _ _) hl.p).mono ?_; rintro e w7 ⟨rfl, hg7, k7⟩
            rw [pkOf_cells] at hg7
            have hb7 := hb.kept k7 (by simpa using a7.symm)
            have hw7 := hw.then k7 (by intro i hi; simp at hi; subst hi; exact .inr o2)
            clear e0 e1 e2 e3 e4 hl hb hw k7
            go_wp2_with (refine wpList_load_pk (pkOf bs) rfl (.tmp 4) rfl g rfl hg7 ?_)
            refine (right_pk _ (pkOf bs)).mono ?_; rintro e w8 ⟨rfl, k8⟩
            replace hg7 := hg7.kept k8 (by simp)
            replace hb7 := hb7.kept k8 (by simp)
            replace hw7 := hw7.trans k8
            clear k8
            by_cases hr : (pkOf bs).Right
            · have hP : readP bs = pkOf bs := by unfold readP; rw [if_neg (by have := HE.out; omega), if_pos hr]
              have hE : readE bs = 0 := by unfold readE; rw [if_neg (by have := HE.out; omega), if_pos hr]
              rw [decide_eq_true hr]
              replace hP := Lib.hid hP
              replace hE := Lib.hid hE
              clear hr
              go_wp2_with (first | (refine wpList_load_pk (pkOf bs) rfl (.tmp 4) rfl g rfl hg7 ?_) | (refine wpList_store_pk (pkOf bs) zPk rfl (.tmp 2) (.tmp 47) rfl R rfl rfl hb7 ?_; intro w9 h9 k9))
              refine bodyPost_ret (v := .tuple #[pkV (pkOf bs), .int .i64 0]) (results_pk (p := 2) (u := 3) rfl _ _ R rfl (pkOf bs) h9 _ rfl) rfl ?_
              exact ⟨by rw [hP.out, hE.out]; rfl, hw7.then k9 (by intro i hi; simp at hi; subst hi; exact .inr o4)⟩
            · have hP : readP bs = zPk := by unfold readP; rw [if_neg (by have := HE.out; omega), if_neg hr]
              have hE : readE bs = 3 := by unfold readE; rw [if_neg (by have := HE.out; omega), if_neg hr]
              rw [decide_eq_false hr]
              replace hP := Lib.hid hP
              replace hE := Lib.hid hE
              clear hr
              go_wp2_with (refine wpList_store_pk zPk zPk rfl (.tmp 2) (.tmp 46) rfl R rfl rfl hb7 ?_; intro w9 h9 k9)
              refine bodyPost_ret (v := .tuple #[pkV zPk, .int .i64 3]) (results_pk (p := 2) (u := 3) rfl _ _ R rfl zPk h9 _ rfl) rfl ?_
              exact ⟨by rw [hP.out, hE.out]; rfl, hw7.then k9 (by intro i hi; simp at hi; subst hi; exact .inr o4)⟩
          · have hP : readP bs = zPk := if_pos he
            have hE : readE bs = endE bs := if_pos he
            have f0 : (((endE bs : Nat) : Int) != 0) = true := by simp; omega
            replace hP := Lib.hid hP
            replace hE := Lib.hid hE
            replace he := Lib.hid he
            clear hl
            go_wp2_with (refine wpList_store_pk zPk zPk rfl (.tmp 2) (.tmp 39) rfl R rfl rfl hb ?_; intro w9 h9 k9)
            refine bodyPost_ret (v := .tuple #[pkV zPk, .int .i64 (endE bs : Nat)]) (results_pk (p := 2) (u := 3) rfl _ _ R rfl zPk h9 _ rfl) rfl ?_
            exact ⟨by rw [hP.out, hE.out], hw.then k9 (by intro i hi; simp at hi; subst hi; exact .inr o4)⟩

theorem read_any (w : World) (s : ByteArray) (hs : s.size ≤ 140737488351232) : Calls Tryz.prog 69 #[.string s] w fun e w' => e = .returned (.tuple #[pkV (readP s.data.toList), .int .i64 (readE s.data.toList : Nat)]) ∧ Only [] w w' :=
  read_is w s _ hs rfl

end Go.Proofs.YtalkhhjfplahkaaGreat
namespace Go.Proofs.YtalkhhjfplahkaaGreat
set_option maxRecDepth 100000
open Go.RowKit

theorem Wrote.after {w w1 w2 : World} {p : Nat} {F : List Nat} {bs : List UInt8} (h : Wrote w w1 p F bs) (k : Only [] w1 w2) : Wrote w w2 p F bs := by
  obtain ⟨F1, a1, a2, a3⟩ := h
  exact ⟨F1, a1.kept k (by simp) (by simp), a2.then k (by simp), a3⟩
theorem Wr.new (w : World) : Wr (w.alloc (.cells #[.slice none 0 0] 84)) w.heap.size [] [] :=
  ⟨.slice none 0 0, Blk.new w _ _, ⟨rfl, .inl ⟨rfl, rfl⟩⟩, by simp [Value.ownBlock], by simp [Value.ownBlock]⟩

theorem numZ_pos (p : Pk) (ho : p.Ok) (hr : p.Right) : ∀ z ∈ numZ p, 0 ≤ z ∧ z < 4294967296 := by
  obtain ⟨_, ⟨_, _⟩, ⟨_, _⟩, ⟨_, _⟩, hc, _, ⟨_, _⟩, _⟩ := hr
  have hc' : 0 ≤ p.code ∧ p.code ≤ 30 := by unfold knownP at hc; omega
  intro n hn
  simp only [numZ, List.mem_cons, List.not_mem_nil, or_false] at hn
  rcases hn with h | h | h | h | h | h | h | h | h | h | h | h | h | h | h | h | h
  all_goals subst h
  · omega
  · omega
  · omega
  · have := ho.life; unfold U at this; omega
  · have := ho.seq; unfold U at this; omega
  · have := ho.asked; unfold U at this; omega
  · have := ho.boot; unfold U at this; omega
  · omega
  · omega
  · have := ho.file; unfold U at this; omega
  · have := ho.epoch; unfold U at this; omega
  · have := ho.off; unfold U at this; omega
  · have := ho.len; unfold U at this; omega
  · have := ho.size; unfold U at this; omega
  · have := ho.mode; unfold U at this; omega
  · have := ho.deny; unfold U at this; omega
  · have := ho.handle; unfold U at this; omega
theorem num_at (p : Pk) (ho : p.Ok) (hr : p.Right) (k : Nat) (hk : k < (numN p).length) : ∃ n : Nat, zOf p k = n ∧ Hid (n < 4294967296) ∧ Hid ((numN p)[k] = n) := by
  have hk' : k < (numZ p).length := by simpa [numN] using hk
  obtain ⟨a, b⟩ := numZ_pos p ho hr _ (List.getElem_mem hk')
  have e : (numN p)[k] = (numZ p)[k].toNat := by simp [numN]
  exact ⟨(numZ p)[k].toNat, by rw [zOf_at p k hk']; omega, Lib.hid (by omega), Lib.hid e⟩
/-- The first j texts. -/
def encTs (s : Nat → ByteArray) : Nat → List UInt8
  | 0 => []
  | j + 1 => encTs s j ++ encT (s j).data.toList
theorem encTs_succ (s : Nat → ByteArray) (j : Nat) : encTs s (j + 1) = encTs s j ++ encT (s j).data.toList := rfl
theorem bytesP_is (p : Pk) : encNs (numN p) ++ encTs (sOf p) 3 = bytesP p := by
  simp [encTs, bytesP, sOf]
theorem text_most (p : Pk) (hr : p.Right) (j : Nat) : (sOf p j).size ≤ 128 := by
  obtain ⟨⟨⟨_, _⟩, _⟩, _⟩ := hr
  unfold sOf
  split <;> omega
theorem encTs_most (p : Pk) (hr : p.Right) (j : Nat) : (encTs (sOf p) j).length ≤ 136 * j := by
  induction j with
  | zero => simp [encTs]
  | succ j ih =>
    have := encT_most (sOf p j).data.toList 128 (by rw [size_list]; exact text_most p hr j)
    rw [encTs_succ, List.length_append]
    omega
theorem right_five (p : Pk) (hr : p.Right) : U p.kind ∧ U p.frm ∧ U p.to ∧ U p.code ∧ U p.err := by
  obtain ⟨_, ⟨_, _⟩, ⟨_, _⟩, ⟨_, _⟩, hc, _, ⟨_, _⟩, _⟩ := hr
  have hc' : 0 ≤ p.code ∧ p.code ≤ 30 := by unfold knownP at hc; omega
  unfold U
  omega

theorem write_no (w : World) (p : Pk) (hr : ¬ p.Right) : Calls Tryz.prog 41 #[pkV p] w fun e w' => e = .returned (.tuple #[.string ⟨#[]⟩, .int .i64 1]) ∧ Only [] w w' := by
  have hd : decide p.Right = false := decide_eq_false hr
  have b0 := Blk.new w 54 (pkA p)
  go_enter Tryz.func41, Tryz.ntmps41
  go_wp2_with (refine wpList_load_pk p rfl (.tmp 1) rfl w.heap.size rfl b0 ?_)
  refine (right_pk _ p).mono ?_; rintro e w1 ⟨rfl, k1⟩
  rw [hd]
  clear hd hr
  go_wp2
  go_ret2
  exact ⟨rfl, k1.boxed⟩

set_option maxHeartbeats 1000000 in
theorem write_yes (w : World) (p : Pk) (ho : p.Ok) (hr : p.Right) : Calls Tryz.prog 41 #[pkV p] w fun e w' => e = .returned (.tuple #[.string (strOf (bytesP p)), .int .i64 0]) ∧ Only [] w w' := by
  have hd : decide p.Right = true := decide_eq_true hr
  obtain ⟨u0, u1, u2, u3, u4⟩ := right_five p hr
  have NA := Lib.hid (num_at p ho hr)
  have TM := Lib.hid (text_most p hr)
  have EM := Lib.hid (encTs_most p hr)
  clear ho hr
  have b0 := Blk.new w 54 (pkA p)
  go_enter Tryz.func41, Tryz.ntmps41
  go_wp2_with (refine wpList_load_pk p rfl (.tmp 1) rfl w.heap.size rfl b0 ?_)
  refine (right_pk _ p).mono ?_; rintro e w1 ⟨rfl, k1⟩
  rw [hd]
  clear hd
  have z1 : w.heap.size + 1 ≤ w1.heap.size := by have := k1.size; simpa using this
  have b1 := b0.kept k1 (by simp)
  clear b0
  replace k1 := k1.boxed
  have b2 := b1.alloc (.cells #[.slice none 0 0] 84)
  go_wp2_with (refine wpList_load_pk p rfl (.tmp 1) rfl w.heap.size rfl b2 ?_)
  refine (counted_any _ p u0 u1 u2 u3 u4).mono ?_; rintro e w2 ⟨rfl, k2⟩
  have z2 : w1.heap.size + 1 ≤ w2.heap.size := by have := k2.size; simpa using this
  have hwr2 := (Wr.new w1).kept k2 (by simp) (by simp)
  replace b2 := b2.kept k2 (by simp)
  replace k2 := k1.trans k2.boxed
  clear b1 k1
  go_wp2_with fail
  refine (numbers_any _ w.heap.size w2.heap.size).mono ?_; rintro e w3 ⟨rfl, k3⟩
  have L : Lies w3 w.heap.size w2.heap.size (aOf p) (zOf p) (sOf p) := ⟨(b2.alloc _).kept k3 (by simp), (Blk.new w2 115 _).kept k3 (by simp), by omega⟩
  have hwr := (hwr2.kept ((Only.refl [] w2).alloc _) (by simp) (by simp)).kept k3 (by simp) (by simp)
  replace k3 := k2.trans k3.boxed
  have n1 : w.heap.size ∉ [w1.heap.size] := by simp; omega
  have n2 : w2.heap.size ∉ [w1.heap.size] := by simp; omega
  have n3 : w.heap.size ≤ w1.heap.size := by omega
  clear b2 hwr2 k2 z1 z2
  generalize w2.heap.size = h at *
  generalize w1.heap.size = pw at *
  obtain ⟨g, hg⟩ : ∃ g, w.heap.size = g := ⟨_, rfl⟩
  rw [hg] at L n1
  have n4 : g ≤ pw := by omega
  rw [hg]
  replace hg := Lib.hid hg
  clear n3
  go_wp2_with fail
  go_loopw [7, 16] (fun _ i wr => ∃ k : Nat, k ≤ 17 ∧ i = .int .i64 k ∧ Wrote w3 wr pw [] (encNs ((numN p).take k))) (fun _ i _ => 17 - (intOf i).toNat)
  case atStart => exact ⟨0, by omega, rfl, [], hwr, Only.refl _ _, by simp⟩
  case round =>
    obtain ⟨k, hk, rfl, hw⟩ := hrel
    clear hwr
    by_cases hlt : k < 17
    · obtain ⟨F1, a1, a2, a3⟩ := hw
      have hix := index_nums g h k hlt
      have q0 := (L.kept a2 n1 n2).num k hlt
      have hlt' : (k : Int) < 17 := by omega
      obtain ⟨n, e1, e2, e3⟩ := NA.out k (by rw [numN_length]; exact hlt)
      rw [e1] at q0
      replace e1 := Lib.hid e1
      have hbl : (encNs ((numN p).take k)).length + 4 ≤ 1048576 := by rw [encNs_length, List.length_take, numN_length]; omega
      replace hbl := Lib.hid hbl
      generalize locB g h k = B at *
      generalize locO k = O at *
      replace a3 := Lib.hid a3
      replace a2 := Lib.hid a2
      go_wp2_with fail
      refine (wnumber_any _ pw F1 _ _ n rfl e2.out a1 hbl.out).mono ?_
      rintro e w4 ⟨rfl, hw4⟩
      go_wp2
      go_roundw
      case rel => exact ⟨k + 1, by omega, by go_num, by
        have := Wrote.join a2.out a3.out hw4
        rw [encNs_take _ k (by rw [numN_length]; exact hlt), e3.out]
        exact this⟩
      case measure => simp [intOf]; omega
    · obtain rfl : k = 17 := by omega
      rw [show (numN p).take 17 = numN p from List.take_of_length_le (by rw [numN_length]; exact Nat.le_refl _)] at hw
      clear hk hlt
      go_wp2_with fail
      refine (texts_any _ g).mono ?_; rintro e w5 ⟨rfl, k5⟩
      have hw5 : Wrote w3 w5 pw [] (encNs (numN p) ++ encTs (sOf p) 0) := by
        have := hw.after k5
        simpa [encTs] using this
      clear hw k5
      go_wp2_with fail
      go_loopw [9, 25] (fun _ i wr => ∃ j : Nat, j ≤ 3 ∧ i = .int .i64 j ∧ Wrote w3 wr pw [] (encNs (numN p) ++ encTs (sOf p) j)) (fun _ i _ => 3 - (intOf i).toNat)
      case atStart => exact ⟨0, by omega, rfl, hw5⟩
      case round =>
        obtain ⟨j, hj, rfl, hw⟩ := hrel
        clear hw5
        by_cases hlt : j < 3
        · obtain ⟨F1, a1, a2, a3⟩ := hw
          have hix := index_texts g j hlt
          have hlt' : (j : Int) < 3 := by omega
          have q0 := ((L.kept a2 n1 n2).kept ((Only.refl [] wr).alloc (.cells #[.pointer (some ⟨g, 17 + j, none⟩), .int .i64 (mostK j : Nat)] 124)) (by simp) (by simp)).text j hlt
          have t0 := (Blk.new wr 124 #[.pointer (some ⟨g, 17 + j, none⟩), .int .i64 (mostK j : Nat)]).cell 0
          have t1 := (Blk.new wr 124 #[.pointer (some ⟨g, 17 + j, none⟩), .int .i64 (mostK j : Nat)]).cell 1
          simp only [List.getElem?_toArray, List.getElem?_cons_zero, List.getElem?_cons_succ] at t0 t1
          have hwr := a1.kept ((Only.refl [] wr).alloc (.cells #[.pointer (some ⟨g, 17 + j, none⟩), .int .i64 (mostK j : Nat)] 124)) (by simp) (by simp)
          have hbl : (encNs (numN p) ++ encTs (sOf p) j).length + (sOf p j).size + 8 ≤ 1048576 := by
            have := TM.out j
            have := EM.out j
            rw [List.length_append, encNs_length, numN_length]
            omega
          replace hbl := Lib.hid hbl
          replace a3 := Lib.hid a3
          replace a2 := Lib.hid a2
          clear a1
          go_wp2_with fail
          refine (wtext_any _ pw F1 _ (sOf p j) hwr hbl.out).mono ?_
          rintro e w6 ⟨rfl, hw6⟩
          go_wp2
          go_roundw
          case rel => exact ⟨j + 1, by omega, by go_num, by
            have := Wrote.join a2.out a3.out (hw6.from ((Only.refl [] wr).alloc _))
            rw [encTs_succ, ← List.append_assoc]
            exact this⟩
          case measure => simp [intOf]; omega
        · obtain rfl : j = 3 := by omega
          obtain ⟨F1, a1, a2, a3⟩ := hw
          rw [bytesP_is] at a1
          clear hj hlt
          go_wp2_with fail
          refine (bytes_any _ pw F1 _ a1).mono ?_; rintro e w6 ⟨rfl, rfl⟩
          go_wp2
          go_ret2
          exact ⟨rfl, k3.then a2 (by intro i hi; simp at hi; subst hi; right; have := hg.out; omega)⟩

theorem write_any (w : World) (p : Pk) (ho : p.Ok) : Calls Tryz.prog 41 #[pkV p] w fun e w' => e = .returned (.tuple #[.string (writeS p), .int .i64 (writeE p)]) ∧ Only [] w w' := by
  unfold writeS writeE
  by_cases hr : p.Right
  · rw [if_pos hr, if_pos hr]
    exact write_yes w p ho hr
  · rw [if_neg hr, if_neg hr]
    exact write_no w p hr

end Go.Proofs.YtalkhhjfplahkaaGreat
