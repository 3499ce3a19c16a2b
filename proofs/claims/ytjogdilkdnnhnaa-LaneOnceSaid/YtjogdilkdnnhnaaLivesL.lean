/- LaneLives: when a greater life was heard, no request of a lesser one is new any more. -/
import Derived.Test.YtjogdilkdnnhnaaStore8
import Derived.Deep.RegionHeld3
namespace Go.Proofs.Ytjogdilkdnnhnaa
open Go.RowKit

/-- A slice of numbers of 32 bits. -/
def U32s (w : World) (A : Option Addr) (zs : List Int) : Prop := zs = [] ∨ ∃ g o, A = some ⟨g, o, none⟩ ∧ g < w.heap.size ∧ ∀ j (hj : j < zs.length), w.cell? ⟨g, o + j, none⟩ = some (.int .u32 zs[j])
theorem U32s.get {w : World} {A : Option Addr} {zs : List Int} (h : U32s w A zs) {j : Nat} (hj : j < zs.length) : ∃ g o, A = some ⟨g, o, none⟩ ∧ g < w.heap.size ∧ w.cell? ⟨g, o + j, none⟩ = some (.int .u32 zs[j]) := by
  rcases h with rfl | ⟨g, o, h1, h2, h3⟩
  · simp at hj
  · exact ⟨g, o, h1, h2, h3 j hj⟩

theorem done_first {s : Sat} {li : Int} (r : ByteArray) (h0 : 0 ≤ s.life) (h : s.life < li) : doneL s li 1 r = ⟨li, 1, r⟩ := by
  rw [doneL, if_pos]
  rw [judgeL, if_neg (by omega), if_pos h, if_pos rfl]
theorem judge_old {li q other sq : Int} {r : ByteArray} (h : other < li) : judgeL ⟨li, q, r⟩ other sq = 3 := by
  rw [judgeL, if_pos (.inl h)]
theorem done_next {li q x : Int} (r n : ByteArray) : ∃ q' r', doneL ⟨li, q, r⟩ li x n = ⟨li, q', r'⟩ ∧ (q' = q ∨ q' = q + 1) := by
  by_cases h : judgeL ⟨li, q, r⟩ li x = 1
  · refine ⟨x, n, by rw [doneL, if_pos h], ?_⟩
    unfold judgeL at h
    simp only at h
    repeat' split at h
    all_goals omega
  · exact ⟨q, r, by rw [doneL, if_neg h], .inl rfl⟩

theorem laneLives_no (s : Sat) (li ot sq : Int) (A : Option Addr) (c : Nat) (zs : List Int) (w : World) (h : li ≤ s.life ∨ li ≤ ot) :
    Calls Try.prog 8 #[satV s, .int .u32 li, .int .u32 ot, .int .u32 sq, .slice A zs.length c] w fun e w' => e = .returned (.bool true) ∧ Only [] w w' := by
  obtain ⟨a, b, r⟩ := s
  simp only at h
  by_cases h1 : li ≤ a
  · clear h
    go_enter Try.func8, Try.ntmps8
    go_wp2_with fail
    refine (alive_any _).mono ?_; rintro e w1 ⟨rfl, k1⟩
    obtain ⟨c0, _, _⟩ := (Blk.new w 24 _).three k1 (by simp)
    go_wp2_with fail
    refine (alive_any _).mono ?_; rintro e w2 ⟨rfl, k2⟩
    go_wp2
    go_ret
    exact ⟨rfl, k1.boxed.trans k2⟩
  · have d1 : decide (li ≤ a) = false := by simp; omega
    have d2 : decide (li ≤ ot) = true := by simp; omega
    clear h
    go_enter Try.func8, Try.ntmps8
    go_wp2_with fail
    refine (alive_any _).mono ?_; rintro e w1 ⟨rfl, k1⟩
    obtain ⟨c0, _, _⟩ := (Blk.new w 24 _).three k1 (by simp)
    go_wp2_with fail
    refine (alive_any _).mono ?_; rintro e w2 ⟨rfl, k2⟩
    go_wp2
    go_ret
    exact ⟨rfl, k1.boxed.trans k2⟩

set_option maxHeartbeats 1000000 in
theorem laneLives_walk (s : Sat) (li ot sq : Int) (A : Option Addr) (c : Nat) (zs : List Int) (w : World) (hs : s.Ok) (hli : U li) (hot : U ot) (hsq : U sq) (hz : U32s w A zs) (hzs : ∀ z ∈ zs, U z) (hlen : zs.length ≤ 9223372036854775807) :
    Calls Try.prog 8 #[satV s, .int .u32 li, .int .u32 ot, .int .u32 sq, .slice A zs.length c] w fun e w' => e = .returned (.bool true) ∧ Only [] w w' := by
  by_cases h : li ≤ s.life ∨ li ≤ ot
  · exact laneLives_no s li ot sq A c zs w h
  have h1 : s.life < li := by omega
  have h2 : ot < li := by omega
  have A1 := fun w => done_any s li 1 ⟨#[102, 105, 114, 115, 116]⟩ w hs hli ⟨by omega, by omega⟩
  rw [done_first _ hs.life.1 h1] at A1
  have li0 : 0 < li := by have := hs.life.1; omega
  have A2 := fun q r (hq : U q) w => judge_any ⟨li, q, r⟩ ot sq w ⟨hli, hq⟩ hot hsq
  have A3 := fun q r (hq : U q) x (hx : U x) w => done_any ⟨li, q, r⟩ li x ⟨#[110, 101, 120, 116]⟩ w ⟨hli, hq⟩ hli hx
  have d1 : decide (li ≤ s.life) = false := by simp; omega
  have d2 : decide (li ≤ ot) = false := by simp; omega
  clear h hs hli hot hsq h1
  obtain ⟨a, b, r⟩ := s
  simp only at d1
  replace A1 := Lib.hid A1
  replace A2 := Lib.hid A2
  replace A3 := Lib.hid A3
  go_enter Try.func8, Try.ntmps8
  go_wp2_with fail
  refine (alive_any _).mono ?_; rintro e w1 ⟨rfl, k1⟩
  obtain ⟨c0, c1, c2⟩ := (Blk.new w 24 _).three k1 (by simp)
  have j1 := k1.boxed
  go_wp2_with fail
  refine (A1.out _).mono ?_; rintro e w2 ⟨rfl, k2⟩
  have j2 := j1.trans k2
  clear c0 c1 c2 k1 k2
  go_wp2_with fail
  refine (A2.out 1 _ ⟨by omega, by omega⟩ _).mono ?_; rintro e w3 ⟨rfl, k3⟩
  rw [judge_old h2]
  have b3 := (Blk.new w2 24 #[.int .u32 li, .int .u32 1, .string ⟨#[102, 105, 114, 115, 116]⟩]).kept k3 (by simp)
  have j3 := j2.trans k3.boxed
  have g3 := j2.size
  clear k3 d1 d2
  go_wp2_with fail
  go_loopw [12] (fun i wr => ∃ (k : Nat) (q : Int) (r : ByteArray), i = .int .i64 k ∧ k ≤ zs.length ∧ k ≤ 100 ∧ 1 ≤ q ∧ q ≤ k + 1 ∧ Blk wr w2.heap.size 24 #[.int .u32 li, .int .u32 q, .string r] ∧ Only [] w wr) (fun i _ => zs.length - (intOf i).toNat)
  case atStart => exact ⟨0, 1, _, rfl, by omega, by omega, by omega, by omega, b3, j3⟩
  case round =>
    obtain ⟨k, q, r, rfl, k0, k1, q0, q1, hb, ho⟩ := hrel
    clear b3 j3
    by_cases hlt : k < zs.length
    · by_cases h100 : k < 100
      · have f0 : decide ((k : Int) < (zs.length : Int)) = true := by simp; omega
        have f1 : decide ((k : Int) < 100) = true := by simp; omega
        obtain ⟨g, o, rfl, hg, hel⟩ := hz.get hlt
        have hx : U zs[k] := hzs _ (List.getElem_mem hlt)
        generalize zs[k] = x at hel hx
        obtain ⟨q', r', hd, hq'⟩ := done_next (li := li) (q := q) (x := x) r ⟨#[110, 101, 120, 116]⟩
        have D := fun w => A3.out q r ⟨by omega, by omega⟩ x hx w
        simp only [hd] at D
        replace D := Lib.hid D
        have J := fun w => A2.out q' r' ⟨by omega, by omega⟩ w
        simp only [judge_old h2] at J
        replace J := Lib.hid J
        have hw : IntKind.u32.wrap (q + 1) = q + 1 := by rw [IntKind.wrap_u32]; omega
        have e1 : decide (q' < q) = false := by simp; omega
        have e2 : decide (q + 1 < q') = false := by simp; omega
        have e3 : decide (q' ≤ q + 1) = true := by simp; omega
        have hqq := Lib.hid hq'
        have hel' := ho.cell hel (by simp)
        obtain ⟨c0, c1, c2⟩ := hb.three (Only.refl [] _) (by simp)
        have keep : ∀ w', Only [] wr w' → w'.cell? ⟨w2.heap.size, 0, none⟩ = some (.int .u32 li) ∧ w'.cell? ⟨w2.heap.size, 1, none⟩ = some (.int .u32 q) ∧ w'.cell? ⟨w2.heap.size, 2, none⟩ = some (.string r) ∧ w'.cell? ⟨g, o + k, none⟩ = some (.int .u32 x) :=
          fun w' kk => ⟨kk.cell c0 (by simp), kk.cell c1 (by simp), kk.cell c2 (by simp), kk.cell hel' (by simp)⟩
        have K := Lib.hid keep
        clear hq' hd hz hzs keep hel hx A1
        go_wp2_with fail
        go_region_held3 (fun w' => w'.cell? ⟨w2.heap.size, 0, none⟩ = some (.int .u32 li) ∧ w'.cell? ⟨w2.heap.size, 1, none⟩ = some (.int .u32 q) ∧ w'.cell? ⟨w2.heap.size, 2, none⟩ = some (.string r) ∧ w'.cell? ⟨g, o + k, none⟩ = some (.int .u32 x))
          (first | with_reducible exact K.out _ (Only.refl [] _).drew | with_reducible exact K.out _ ((Only.refl [] _).drew.alloc _) | with_reducible exact K.out _ ((Only.refl [] _).alloc _).drew | with_reducible exact K.out _ kk | with_reducible exact K.out _ (kk.alloc _) | with_reducible exact K.out _ (kk.alloc _).drew | with_reducible exact K.out _ ((kk.alloc _).store3 (.inr kk.size)) | with_reducible exact K.out _ (kk.store3 (.inr (Nat.le_refl _))))
          (first
            | (go_at_call 12; refine (D.out _).mono ?_; rintro e wn ⟨rfl, kn⟩; have kk : Only [] wr wn := by { first | exact kn.undrew | exact kn.undrew.boxed }; try (have bz := (Blk.new wr 24 #[.int .u32 0, .int .u32 0, .string ⟨#[]⟩]).kept kn.undrew (by simp); obtain ⟨z0, z1, z2⟩ := bz.three (Only.refl [] _) (by simp); obtain ⟨y0, y1, y2⟩ := bz.free3)))
        · have bu := Blk.new wn 24 #[.int .u32 li, .int .u32 q', .string r']
          have ku := kk.alloc (.cells #[.int .u32 li, .int .u32 q', .string r'] 24)
          generalize wn.alloc (.cells #[.int .u32 li, .int .u32 q', .string r'] 24) = wE at *
          have hgu : w2.heap.size < wn.heap.size := Nat.lt_of_lt_of_le hb.lt kk.size
          generalize wn.heap.size = gU at *
          have hq := hqq.out
          have hbE := hb.kept ku (by simp)
          clear c0 c1 c2 hel' kn kk
          obtain ⟨c0, c1, c2⟩ := hbE.three (Only.refl [] _) (by simp)
          obtain ⟨u0, u1, u2⟩ := bu.three (Only.refl [] _) (by simp)
          replace hq := Lib.hid hq
          go_wp2_with fail
          refine (J.out _).mono ?_; rintro e w5 ⟨rfl, k5⟩
          replace bu := bu.kept k5 (by simp)
          replace hbE := hbE.kept k5 (by simp)
          clear c0 c1 c2 u0 u1 u2
          obtain ⟨c0, c1, c2⟩ := hbE.three (Only.refl [] _) (by simp)
          obtain ⟨u0, u1, u2⟩ := bu.three (Only.refl [] _) (by simp)
          obtain ⟨v0, v1, v2⟩ := hbE.free3
          go_wp2_with fail
          go_roundw
          case rel => exact ⟨k + 1, q', r', by go_num, by omega, by omega, by have := hq.out; omega, by have := hq.out; omega, hbE.store3, ((ho.trans ku).trans k5).store3 (.inr g3)⟩
          case measure => simp [intOf]; omega
        · have bu := bz.store3 (a := .int .u32 li) (b := .int .u32 q') (c := .string r')
          have ku := kk.store3 (a := .int .u32 li) (b := .int .u32 q') (c := .string r') (.inr (Nat.le_refl wr.heap.size))
          clear z0 z1 z2 y0 y1 y2 bz
          have hgu : w2.heap.size < wr.heap.size := hb.lt
          generalize (((wn.setCell ⟨wr.heap.size, 0, none⟩ (.int .u32 li)).setCell ⟨wr.heap.size, 1, none⟩ (.int .u32 q')).setCell ⟨wr.heap.size, 2, none⟩ (.string r')) = wE at *
          have hq := hqq.out
          have hbE := hb.kept ku (by simp)
          clear c0 c1 c2 hel' kn kk
          obtain ⟨c0, c1, c2⟩ := hbE.three (Only.refl [] _) (by simp)
          obtain ⟨u0, u1, u2⟩ := bu.three (Only.refl [] _) (by simp)
          replace hq := Lib.hid hq
          go_wp2_with fail
          refine (J.out _).mono ?_; rintro e w5 ⟨rfl, k5⟩
          replace bu := bu.kept k5 (by simp)
          replace hbE := hbE.kept k5 (by simp)
          clear c0 c1 c2 u0 u1 u2
          obtain ⟨c0, c1, c2⟩ := hbE.three (Only.refl [] _) (by simp)
          obtain ⟨u0, u1, u2⟩ := bu.three (Only.refl [] _) (by simp)
          obtain ⟨v0, v1, v2⟩ := hbE.free3
          go_wp2_with fail
          go_roundw
          case rel => exact ⟨k + 1, q', r', by go_num, by omega, by omega, by have := hq.out; omega, by have := hq.out; omega, hbE.store3, ((ho.trans ku).trans k5).store3 (.inr g3)⟩
          case measure => simp [intOf]; omega
      · have f0 : decide ((k : Int) < (zs.length : Int)) = true := by simp; omega
        have f1 : decide ((k : Int) < 100) = false := by simp; omega
        go_wp2_with fail
        refine (alive_any _).mono ?_; rintro e w5 ⟨rfl, k5⟩
        go_wp2
        go_ret
        exact ⟨rfl, ho.trans k5⟩
    · have f0 : decide ((k : Int) < (zs.length : Int)) = false := by simp; omega
      go_wp2_with fail
      refine (alive_any _).mono ?_; rintro e w5 ⟨rfl, k5⟩
      go_wp2
      go_ret
      exact ⟨rfl, ho.trans k5⟩

end Go.Proofs.Ytjogdilkdnnhnaa
