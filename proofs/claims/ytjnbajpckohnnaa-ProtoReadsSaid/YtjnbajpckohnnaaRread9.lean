/- The walk of the document's Read. -/
import Derived.Test.YtjnbajpckohnnaaRead9
import Derived.Test.YtjnbajpckohnnaaRr9
import Derived.Test.YtjnbajpckohnnaaFr2
import Derived.Test.YtjnbajpckohnnaaRbytes9
namespace Go.Proofs.Ytjnbajpckohnnaa
open Go.RowKit

/-- Seventeen numbers in a block. -/
def NB (w : World) (g : Nat) (z : Nat → Int) : Prop := Blk w g 72 #[.int .u32 (z 0), .int .u32 (z 1), .int .u32 (z 2), .int .u32 (z 3), .int .u32 (z 4), .int .u32 (z 5), .int .u32 (z 6), .int .u32 (z 7), .int .u32 (z 8), .int .u32 (z 9), .int .u32 (z 10), .int .u32 (z 11), .int .u32 (z 12), .int .u32 (z 13), .int .u32 (z 14), .int .u32 (z 15), .int .u32 (z 16)]
theorem NB.kept {S : List Nat} {w w' : World} {g : Nat} {z : Nat → Int} (h : NB w g z) (k : Only S w w') (hg : g ∉ S) : NB w' g z := Blk.kept h k hg
theorem NB.set {w : World} {g : Nat} {z : Nat → Int} (h : NB w g z) (v : Int) (k : Nat) (hk : k < 17) : NB (w.setCell ⟨g, k, none⟩ (.int .u32 v)) g (upd z k v) := by
  unfold NB at *
  match k, hk with
  | 0, _ => exact Blk.set h 0 _
  | 1, _ => exact Blk.set h 1 _
  | 2, _ => exact Blk.set h 2 _
  | 3, _ => exact Blk.set h 3 _
  | 4, _ => exact Blk.set h 4 _
  | 5, _ => exact Blk.set h 5 _
  | 6, _ => exact Blk.set h 6 _
  | 7, _ => exact Blk.set h 7 _
  | 8, _ => exact Blk.set h 8 _
  | 9, _ => exact Blk.set h 9 _
  | 10, _ => exact Blk.set h 10 _
  | 11, _ => exact Blk.set h 11 _
  | 12, _ => exact Blk.set h 12 _
  | 13, _ => exact Blk.set h 13 _
  | 14, _ => exact Blk.set h 14 _
  | 15, _ => exact Blk.set h 15 _
  | 16, _ => exact Blk.set h 16 _
  | k + 17, h => exact absurd h (by omega)
theorem NB.at {w : World} {g : Nat} {z : Nat → Int} (h : NB w g z) (k : Nat) (hk : k < 17) : w.cell? ⟨g, k, none⟩ = some (.int .u32 (z k)) := by
  unfold NB at h
  match k, hk with
  | 0, _ => exact Blk.cell h 0
  | 1, _ => exact Blk.cell h 1
  | 2, _ => exact Blk.cell h 2
  | 3, _ => exact Blk.cell h 3
  | 4, _ => exact Blk.cell h 4
  | 5, _ => exact Blk.cell h 5
  | 6, _ => exact Blk.cell h 6
  | 7, _ => exact Blk.cell h 7
  | 8, _ => exact Blk.cell h 8
  | 9, _ => exact Blk.cell h 9
  | 10, _ => exact Blk.cell h 10
  | 11, _ => exact Blk.cell h 11
  | 12, _ => exact Blk.cell h 12
  | 13, _ => exact Blk.cell h 13
  | 14, _ => exact Blk.cell h 14
  | 15, _ => exact Blk.cell h 15
  | 16, _ => exact Blk.cell h 16
  | k + 17, h => exact absurd h (by omega)
theorem NB.free {w : World} {g : Nat} {z : Nat → Int} (h : NB w g z) (k : Nat) : w.frozen? ⟨g, k, none⟩ = false := Blk.free h k

theorem rds_len (bs : List UInt8) (k : Nat) : (rds bs k).1.length ≤ bs.length := by
  induction k with
  | zero => exact Nat.le_refl _
  | succ k ih => rw [rds_succ]; exact Nat.le_trans (rNumber_len _ _) ih
theorem txs_len (bs : List UInt8) (j : Nat) : (txs bs j).1.length ≤ bs.length := by
  induction j with
  | zero => exact rds_len bs 17
  | succ j ih => rw [txs_succ]; exact Nat.le_trans (rText_len _ _ _) ih

theorem zK_seventeen (bs : List UInt8) (i : Nat) : U (zK bs 17 i) := zK_u bs 17 i

/-- What the document makes of the numbers and texts. -/
theorem pkOf_is (bs : List UInt8) (Z : Nat → Int) (t0 t1 t2 : ByteArray) (hZ : zK bs 17 = Z) (h0 : strOf (txtAt bs 0) = t0) (h1 : strOf (txtAt bs 1) = t1) (h2 : strOf (txtAt bs 2) = t2) : pkOf bs = ⟨Z 0, Z 1, Z 2, Z 3, Z 4, Z 5, Z 6, Z 7, Z 8, Z 9, Z 10, Z 11, Z 12, Z 13, Z 14, Z 15, Z 16, t0, t1, t2⟩ := by
  subst hZ; subst h0; subst h1; subst h2
  rfl

theorem rr_step {w wa wb : World} {q l R : Nat} {Z : Nat → Int} (a1 : R ≠ q) (a3 : q ≠ l) (o2 : w.heap.size ≤ q) (kk : Only [q] wa wb) (x : NB wa l Z) (y : Blk wa R 27 (pkA zPk)) (z : Only [] w wa) : NB wb l Z ∧ Blk wb R 27 (pkA zPk) ∧ Only [] w wb :=
  ⟨x.kept kk (by simpa using a3.symm), y.kept kk (by simpa using a1), z.then kk (by intro i hi; simp at hi; subst hi; exact .inr o2)⟩
theorem gtext_at (w : World) (q : Nat) (bs : List UInt8) (j j' : Nat) (hj : j' = j + 1) (m : Int) (hm : ((mostK j : Nat) : Int) = m) (hl : (txs bs j).1.length ≤ 1048576) (h : Rf w q (txs bs j).1 (txs bs j).2) :
    Calls Try.prog 30 #[.pointer (some ⟨q, 0, none⟩), .int .i64 m] w (FTook w q (.string (strOf (txtAt bs j))) (txs bs j').1 (txs bs j').2) := by
  subst hm
  subst hj
  exact gtext_any w q _ _ _ hl h

set_option maxHeartbeats 1000000 in
theorem rread_is (w : World) (s : ByteArray) (bs : List UInt8) (hbs : s = strOf bs) (hs : bs.length ≤ 2000) : Calls Try.prog 13 #[.string s] w fun e w' => e = .returned (.tuple #[pkV (readP bs), .int .i64 (readE bs : Nat)]) ∧ Only [] w w' := by
  have hlen : Hid (∀ j, (txs bs j).1.length ≤ 1048576) := fun j => Nat.le_trans (txs_len bs j) (by omega)
  subst hbs
  clear hs
  have bR := ((Blk.new w 27 (pkA zPk)).alloc (.cells #[.string (strOf bs), .int .i64 0] 71)).alloc (.cells #[.int .u32 0, .int .u32 0, .int .u32 0, .int .u32 0, .int .u32 0, .int .u32 0, .int .u32 0, .int .u32 0, .int .u32 0, .int .u32 0, .int .u32 0, .int .u32 0, .int .u32 0, .int .u32 0, .int .u32 0, .int .u32 0, .int .u32 0] 72)
  have bq := (Blk.new (w.alloc (.cells (pkA zPk) 27)) 71 #[.string (strOf bs), .int .i64 0]).alloc (.cells #[.int .u32 0, .int .u32 0, .int .u32 0, .int .u32 0, .int .u32 0, .int .u32 0, .int .u32 0, .int .u32 0, .int .u32 0, .int .u32 0, .int .u32 0, .int .u32 0, .int .u32 0, .int .u32 0, .int .u32 0, .int .u32 0, .int .u32 0] 72)
  have bl := Blk.new ((w.alloc (.cells (pkA zPk) 27)).alloc (.cells #[.string (strOf bs), .int .i64 0] 71)) 72 #[.int .u32 0, .int .u32 0, .int .u32 0, .int .u32 0, .int .u32 0, .int .u32 0, .int .u32 0, .int .u32 0, .int .u32 0, .int .u32 0, .int .u32 0, .int .u32 0, .int .u32 0, .int .u32 0, .int .u32 0, .int .u32 0, .int .u32 0]
  have ho := (((Only.refl [] w).alloc (.cells (pkA zPk) 27)).alloc (.cells #[.string (strOf bs), .int .i64 0] 71)).alloc (.cells #[.int .u32 0, .int .u32 0, .int .u32 0, .int .u32 0, .int .u32 0, .int .u32 0, .int .u32 0, .int .u32 0, .int .u32 0, .int .u32 0, .int .u32 0, .int .u32 0, .int .u32 0, .int .u32 0, .int .u32 0, .int .u32 0, .int .u32 0] 72)
  rw [show (w.alloc (.cells (pkA zPk) 27)).heap.size = w.heap.size + 1 by simp] at bq
  rw [show ((w.alloc (.cells (pkA zPk) 27)).alloc (.cells #[.string (strOf bs), .int .i64 0] 71)).heap.size = w.heap.size + 1 + 1 by simp] at bl
  go_enter Try.func13, Try.ntmps13
  go_wp2_with fail
  generalize hW0 : (((w.alloc (.cells (pkA zPk) 27)).alloc (.cells #[.string (strOf bs), .int .i64 0] 71)).alloc (.cells #[.int .u32 0, .int .u32 0, .int .u32 0, .int .u32 0, .int .u32 0, .int .u32 0, .int .u32 0, .int .u32 0, .int .u32 0, .int .u32 0, .int .u32 0, .int .u32 0, .int .u32 0, .int .u32 0, .int .u32 0, .int .u32 0, .int .u32 0] 72)) = w0 at bR bq bl ho
  rw [show (((w.alloc (Obj.cells #[.int .i64 0, .int .i64 0, .int .i64 0, .int .u32 0, .int .u32 0, .int .u32 0, .int .u32 0, .int .i64 0, .int .i64 0, .int .u32 0, .int .u32 0, .int .u32 0, .int .u32 0, .int .u32 0, .int .u32 0, .int .u32 0, .int .u32 0, .string ⟨#[]⟩, .string ⟨#[]⟩, .string ⟨#[]⟩] 27)).alloc (.cells #[.string (strOf bs), .int .i64 0] 71)).alloc (.cells #[.int .u32 0, .int .u32 0, .int .u32 0, .int .u32 0, .int .u32 0, .int .u32 0, .int .u32 0, .int .u32 0, .int .u32 0, .int .u32 0, .int .u32 0, .int .u32 0, .int .u32 0, .int .u32 0, .int .u32 0, .int .u32 0, .int .u32 0] 72)) = w0 from hW0]
  clear hW0
  have o2 : w.heap.size ≤ w.heap.size + 1 := by omega
  have o3 : w.heap.size ≤ w.heap.size + 1 + 1 := by omega
  have a1 : w.heap.size ≠ w.heap.size + 1 := by omega
  have a2 : w.heap.size ≠ w.heap.size + 1 + 1 := by omega
  have a3 : w.heap.size + 1 ≠ w.heap.size + 1 + 1 := by omega
  generalize hR : w.heap.size = R at bR bq bl o2 o3 a1 a2 a3 ⊢
  generalize hq : R + 1 = q at *
  generalize hl : q + 1 = l at *
  rw [← hR] at o2 o3
  have o1 : w.heap.size ≤ R := by omega
  replace hR := Lib.hid hR
  replace hq := Lib.hid hq
  replace hl := Lib.hid hl
  have fq : Rf w0 q (rds bs 0).1 (rds bs 0).2 := bq
  have al : NB w0 l (zK bs 0) := bl
  clear bq bl
  go_loopw [6] (fun i wr => ∃ k : Nat, k ≤ 17 ∧ i = .int .i64 k ∧ Rf wr q (rds bs k).1 (rds bs k).2 ∧ NB wr l (zK bs k) ∧ Blk wr R 27 (pkA zPk) ∧ Only [] w wr) (fun i _ => 17 - (intOf i).toNat)
  case atStart => exact ⟨0, by omega, rfl, fq, al, bR, ho⟩
  case round =>
    clear fq al bR ho
    obtain ⟨k, hk, rfl, hf, ha, hb, hw⟩ := hrel
    by_cases hlt : k < 17
    · have hlt' : (k : Int) < 17 := by omega
      have call : Calls Try.prog 29 #[.pointer (some ⟨q, 0, none⟩)] wr (FTook wr q (.int .u32 (numAt bs k : Nat)) (rds bs (k + 1)).1 (rds bs (k + 1)).2) := gnum_any wr q _ _ hf
      replace call := Lib.hid call
      clear hf
      go_wp2_with fail
      refine call.out.mono ?_; rintro e w4 ⟨rfl, hf4, k4⟩
      have ha4 := ha.kept k4 (by simpa using a3.symm)
      have hb4 := hb.kept k4 (by simpa using a1)
      have hw4 : Only [] w w4 := hw.then k4 (by intro i hi; simp at hi; subst hi; exact .inr o2)
      have q0 := ha4.at k hlt
      have q1 := ha4.free k
      have ha5 := ha4.set (numAt bs k : Nat) k hlt
      rw [zK_succ] at ha5
      have k5 : Only [l] w4 (w4.setCell ⟨l, k, none⟩ (.int .u32 (numAt bs k : Nat))) := (Only.refl [l] w4).setCell (.inl (by simp)) _
      have hf5 := Lib.hid (hf4.kept k5 (by simpa using a3))
      have hb5 := Lib.hid (hb4.kept k5 (by simpa using a2))
      have hw5 : Only [] w _ := hw4.then k5 (by intro i hi; simp at hi; subst hi; exact .inr o3)
      replace hw5 := Lib.hid hw5
      replace ha5 := Lib.hid ha5
      clear hf4 ha4 hb4 hw4 k4 k5 call ha hb hw
      go_wp2
      go_roundw
      case rel => exact ⟨k + 1, by omega, by go_num, hf5.out, ha5.out, hb5.out, hw5.out⟩
      case measure => simp [intOf]; omega
    · obtain rfl : k = 17 := by omega
      clear hk hlt
      have call : ∀ w', Rf w' q (txs bs 0).1 (txs bs 0).2 → Calls Try.prog 30 #[.pointer (some ⟨q, 0, none⟩), .int .i64 64] w' (FTook w' q (.string (strOf (txtAt bs 0))) (txs bs 1).1 (txs bs 1).2) :=
        fun w' h' => gtext_at w' q bs 0 1 rfl 64 rfl (hlen.out 0) h'
      have call1 : ∀ w', Rf w' q (txs bs 1).1 (txs bs 1).2 → Calls Try.prog 30 #[.pointer (some ⟨q, 0, none⟩), .int .i64 64] w' (FTook w' q (.string (strOf (txtAt bs 1))) (txs bs 2).1 (txs bs 2).2) :=
        fun w' h' => gtext_at w' q bs 1 2 rfl 64 rfl (hlen.out 1) h'
      have call2 : ∀ w', Rf w' q (txs bs 2).1 (txs bs 2).2 → Calls Try.prog 30 #[.pointer (some ⟨q, 0, none⟩), .int .i64 128] w' (FTook w' q (.string (strOf (txtAt bs 2))) (txs bs 3).1 (txs bs 3).2) :=
        fun w' h' => gtext_at w' q bs 2 3 rfl 128 rfl (hlen.out 2) h'
      have call3 : ∀ w', Rf w' q (txs bs 3).1 (txs bs 3).2 → Calls Try.prog 31 #[.pointer (some ⟨q, 0, none⟩)] w' (FTook w' q (.int .i64 (endE bs : Nat)) (txs bs 3).1 (endE bs)) :=
        fun w' h' => gend_any w' q _ _ h'
      have hf0 : Rf wr q (txs bs 0).1 (txs bs 0).2 := hf
      obtain ⟨Z, hZ⟩ : ∃ Z, zK bs 17 = Z := ⟨_, rfl⟩
      obtain ⟨t0, h0⟩ : ∃ t, strOf (txtAt bs 0) = t := ⟨_, rfl⟩
      obtain ⟨t1, h1⟩ : ∃ t, strOf (txtAt bs 1) = t := ⟨_, rfl⟩
      obtain ⟨t2, h2⟩ : ∃ t, strOf (txtAt bs 2) = t := ⟨_, rfl⟩
      have PK := Lib.hid (pkOf_is bs Z t0 t1 t2 hZ h0 h1 h2)
      have ZU : Hid (∀ i, IntKind.i64.wrap (Z i) = Z i) := fun i => by rw [← hZ]; exact wrap_i (zK_u bs 17 i)
      rw [h0] at call
      rw [h1] at call1
      rw [h2] at call2
      rw [hZ] at ha
      replace call := Lib.hid call
      replace call1 := Lib.hid call1
      replace call2 := Lib.hid call2
      replace call3 := Lib.hid call3
      clear hf h0 h1 h2 hZ
      go_wp2_with fail
      refine (call.out _ hf0).mono ?_; rintro e w3 ⟨rfl, hf1, k3⟩
      obtain ⟨ha3, hb3, hw3⟩ := rr_step a1 a3 o2 k3 ha hb hw
      clear ha hb hw k3 hf0 call
      go_wp2_with fail
      refine (call1.out _ hf1).mono ?_; rintro e w4 ⟨rfl, hf2, k4⟩
      obtain ⟨ha4, hb4, hw4⟩ := rr_step a1 a3 o2 k4 ha3 hb3 hw3
      clear ha3 hb3 hw3 k4 hf1 call1
      go_wp2_with fail
      refine (call2.out _ hf2).mono ?_; rintro e w5 ⟨rfl, hf3, k5⟩
      obtain ⟨ha5, hb5, hw5⟩ := rr_step a1 a3 o2 k5 ha4 hb4 hw4
      clear ha4 hb4 hw4 k5 hf2 call2
      go_wp2_with fail
      refine (call3.out _ hf3).mono ?_; rintro e w6 ⟨rfl, _, k6⟩
      obtain ⟨ha, hb, hw⟩ := rr_step a1 a3 o2 k6 ha5 hb5 hw5
      clear ha5 hb5 hw5 k6 hf3 call3
      by_cases he : endE bs = 0
      · rw [he]
        have HE := Lib.hid he
        clear he
        have e0 := ZU.out 0
        have e1 := ZU.out 1
        have e2 := ZU.out 2
        have e7 := ZU.out 7
        have e8 := ZU.out 8
        have c0 := ha.at 0 (by omega)
        have c1 := ha.at 1 (by omega)
        have c2 := ha.at 2 (by omega)
        have c3 := ha.at 3 (by omega)
        have c4 := ha.at 4 (by omega)
        have c5 := ha.at 5 (by omega)
        have c6 := ha.at 6 (by omega)
        have c7 := ha.at 7 (by omega)
        have c8 := ha.at 8 (by omega)
        have c9 := ha.at 9 (by omega)
        have c10 := ha.at 10 (by omega)
        have c11 := ha.at 11 (by omega)
        have c12 := ha.at 12 (by omega)
        have c13 := ha.at 13 (by omega)
        have c14 := ha.at 14 (by omega)
        have c15 := ha.at 15 (by omega)
        have c16 := ha.at 16 (by omega)
        clear ha
        go_wp2_with (first
          | (refine wpList_store_blk rfl 25 (.tmp 11) (.tmp 61) rfl w6.heap.size #[.int .i64 0, .int .i64 0, .int .u32 0, .int .u32 0, .int .u32 0, .int .u32 0, .int .u32 0, .int .u32 0, .int .u32 0, .int .u32 0, .string ⟨#[]⟩, .string ⟨#[]⟩, .string ⟨#[]⟩] (opA ⟨Z 0, Z 1, Z 2, Z 3, Z 4, Z 5, Z 6, Z 7, Z 8, Z 9, Z 10, Z 11, Z 12, Z 13, Z 14, Z 15, Z 16, t0, t1, t2⟩) rfl rfl (Blk.new w6 _ _) size_op rfl (by simp [Value.oneCell']) ?_
             intro wS hS kS
             have kX : Only [] w6 wS := ((Only.refl [] w6).alloc _).then kS (by intro i hi; simp at hi; subst hi; exact .inr (Nat.le_refl _))
             have d0 := kX.cell c0 (by simp)
             have d1 := kX.cell c1 (by simp)
             have d2 := kX.cell c2 (by simp)
             have d3 := kX.cell c3 (by simp)
             have d4 := kX.cell c4 (by simp)
             have d5 := kX.cell c5 (by simp)
             have d6 := kX.cell c6 (by simp)
             clear c0 c1 c2 c3 c4 c5 c6 c7 c8 c9 c10 c11 c12 c13 c14 c15 c16)
          | (refine wpList_load_blk rfl 25 (.tmp 11) rfl w6.heap.size rfl (opA ⟨Z 0, Z 1, Z 2, Z 3, Z 4, Z 5, Z 6, Z 7, Z 8, Z 9, Z 10, Z 11, Z 12, Z 13, Z 14, Z 15, Z 16, t0, t1, t2⟩).toList _ hS Try.underlying25 rfl size_op ?_)
          | (refine wpList_store_pk ⟨Z 0, Z 1, Z 2, Z 3, Z 4, Z 5, Z 6, Z 7, Z 8, Z 9, Z 10, Z 11, Z 12, Z 13, Z 14, Z 15, Z 16, t0, t1, t2⟩ zPk rfl (.tmp 12) (.tmp 80) rfl wS.heap.size rfl rfl (Blk.new wS _ _) ?_
             intro wT hT kT
             have kY : Only [] wS wT := ((Only.refl [] wS).alloc _).then kT (by intro i hi; simp at hi; subst hi; exact .inr (Nat.le_refl _)))
          | (refine wpList_load_pk ⟨Z 0, Z 1, Z 2, Z 3, Z 4, Z 5, Z 6, Z 7, Z 8, Z 9, Z 10, Z 11, Z 12, Z 13, Z 14, Z 15, Z 16, t0, t1, t2⟩ rfl (.tmp 12) rfl wS.heap.size rfl hT ?_))
        refine (rright_any _ ⟨Z 0, Z 1, Z 2, Z 3, Z 4, Z 5, Z 6, Z 7, Z 8, Z 9, Z 10, Z 11, Z 12, Z 13, Z 14, Z 15, Z 16, t0, t1, t2⟩).mono ?_; rintro e w8 ⟨rfl, k8⟩
        have hT8 := hT.kept k8 (by simp)
        have hb8 := ((hb.kept kX (by simp)).kept kY (by simp)).kept k8 (by simp)
        have hw8 := ((hw.trans kX).trans kY).trans k8
        clear d0 d1 d2 d3 d4 d5 d6 hS kS kT kX kY k8 hT hb hw e0 e1 e2 e7 e8
        by_cases hr : Pk.Right ⟨Z 0, Z 1, Z 2, Z 3, Z 4, Z 5, Z 6, Z 7, Z 8, Z 9, Z 10, Z 11, Z 12, Z 13, Z 14, Z 15, Z 16, t0, t1, t2⟩
        · have hP : readP bs = ⟨Z 0, Z 1, Z 2, Z 3, Z 4, Z 5, Z 6, Z 7, Z 8, Z 9, Z 10, Z 11, Z 12, Z 13, Z 14, Z 15, Z 16, t0, t1, t2⟩ := by unfold readP; rw [PK.out, if_neg (by have := HE.out; omega), if_pos hr]
          have hE : readE bs = 0 := by unfold readE; rw [PK.out, if_neg (by have := HE.out; omega), if_pos hr]
          rw [decide_eq_true hr]
          replace hP := Lib.hid hP
          replace hE := Lib.hid hE
          clear hr
          go_wp2_with (first | (refine wpList_load_pk ⟨Z 0, Z 1, Z 2, Z 3, Z 4, Z 5, Z 6, Z 7, Z 8, Z 9, Z 10, Z 11, Z 12, Z 13, Z 14, Z 15, Z 16, t0, t1, t2⟩ rfl (.tmp 12) rfl wS.heap.size rfl hT8 ?_) | (refine wpList_store_pk ⟨Z 0, Z 1, Z 2, Z 3, Z 4, Z 5, Z 6, Z 7, Z 8, Z 9, Z 10, Z 11, Z 12, Z 13, Z 14, Z 15, Z 16, t0, t1, t2⟩ zPk rfl (.tmp 2) (.tmp 85) rfl R rfl rfl hb8 ?_; intro w9 h9 k9))
          refine bodyPost_ret (v := .tuple #[pkV ⟨Z 0, Z 1, Z 2, Z 3, Z 4, Z 5, Z 6, Z 7, Z 8, Z 9, Z 10, Z 11, Z 12, Z 13, Z 14, Z 15, Z 16, t0, t1, t2⟩, .int .i64 0]) (results_pk (p := 2) (u := 3) rfl _ _ R rfl _ h9 _ rfl) rfl ?_
          exact ⟨by rw [hP.out, hE.out]; rfl, hw8.then k9 (by intro i hi; simp at hi; subst hi; exact .inr o1)⟩
        · have hP : readP bs = zPk := by unfold readP; rw [PK.out, if_neg (by have := HE.out; omega), if_neg hr]
          have hE : readE bs = 3 := by unfold readE; rw [PK.out, if_neg (by have := HE.out; omega), if_neg hr]
          rw [decide_eq_false hr]
          replace hP := Lib.hid hP
          replace hE := Lib.hid hE
          clear hr
          go_wp2_with (refine wpList_store_pk zPk zPk rfl (.tmp 2) (.tmp 84) rfl R rfl rfl hb8 ?_; intro w9 h9 k9)
          refine bodyPost_ret (v := .tuple #[pkV zPk, .int .i64 3]) (results_pk (p := 2) (u := 3) rfl _ _ R rfl zPk h9 _ rfl) rfl ?_
          exact ⟨by rw [hP.out, hE.out]; rfl, hw8.then k9 (by intro i hi; simp at hi; subst hi; exact .inr o1)⟩
      · have hP : readP bs = zPk := if_pos he
        have hE : readE bs = endE bs := if_pos he
        have f0 : (((endE bs : Nat) : Int) != 0) = true := by simp; omega
        replace hP := Lib.hid hP
        replace hE := Lib.hid hE
        replace he := Lib.hid he
        clear ha
        go_wp2_with (refine wpList_store_pk zPk zPk rfl (.tmp 2) (.tmp 34) rfl R rfl rfl hb ?_; intro w9 h9 k9)
        refine bodyPost_ret (v := .tuple #[pkV zPk, .int .i64 (endE bs : Nat)]) (results_pk (p := 2) (u := 3) rfl _ _ R rfl zPk h9 _ rfl) rfl ?_
        exact ⟨by rw [hP.out, hE.out], hw.then k9 (by intro i hi; simp at hi; subst hi; exact .inr o1)⟩

theorem rread_any (w : World) (s : ByteArray) (hs : s.size ≤ 2000) : Calls Try.prog 13 #[.string s] w fun e w' => e = .returned (.tuple #[pkV (readP s.data.toList), .int .i64 (readE s.data.toList : Nat)]) ∧ Only [] w w' :=
  rread_is w s _ (strOf_toList s).symm (by rw [size_list]; exact hs)

end Go.Proofs.Ytjnbajpckohnnaa
