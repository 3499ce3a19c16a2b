/- ShareKeeps: what is handed in is neither changed nor kept, and answers are new memory. -/
import Derived.Test.YthclpefomhakdaaDropsL11
import Derived.Test.YthclpefomhakdaaAddsL11
import Derived.Test.YthclpefomhakdaaRoom11
namespace Go.Proofs.Ythclpefomhakdaa
open Go.RowKit

set_option linter.unusedVariables false

/-- A list that lies apart from block q. -/
def Apart (q : Nat) (W : World) (A : Option Addr) (M : List Opn) : Prop := Els opE 5 W A M ∧ ∀ a, A = some a → q < a.block
theorem Apart.kept {q : Nat} {W W' : World} {A : Option Addr} {M : List Opn} (h : Apart q W A M) (k : Only [] W W') : Apart q W' A M := ⟨h.1.kept k (by simp), h.2⟩
theorem Apart.turned {q : Nat} {W W' : World} {A : Option Addr} {M : List Opn} (h : Apart q W A M) (k : Only [q] W W') : Apart q W' A M := ⟨h.1.kept k (fun a ha => by have := h.2 a ha; simp; omega), h.2⟩
theorem RoomB.rowB {w : World} {q : Nat} {L : List Opn} (h : RoomB w q L) (hl : L.length ≤ 1000) : RowB w q L.length L :=
  ⟨_, [], h, Nat.le_refl _, by unfold maxLen; omega, by rw [List.size_toArray]; exact encs_length opE_length L, by simp⟩
set_option maxRecDepth 100000 in
set_option maxHeartbeats 8000000 in
theorem shareKeeps_walk (w : World) (A : Option Addr) (c : Nat) (l : List Opn) (o : Opn) (hb : Els opE 5 w A l) (hl : l.length ≤ 9223372036854775807) (_ : l.length ≤ c) :
    Calls Try.prog 9 #[.slice A l.length c, opV o] w fun e w' => e = .returned (.bool true) ∧ Only [] w w' := by
  have h1 := fun W B cb (h : Els opE 5 W B l) (hcb : l.length ≤ cb) => add_any W B cb l o h hl hcb
  have h2 := fun W B cb (h : Els opE 5 W B l) (hcb : l.length ≤ cb) => drop_any W B cb l o.client o.handle h hl hcb
  have h3 := fun W B cb (h : Els opE 5 W B l) (hcb : l.length ≤ cb) => clear_any W B cb l o.client h hl hcb
  have n1 := addR_length l o
  have n2 := dropR_length l ⟨o.client, o.handle, 0, 0, 0⟩
  have n3 := clearR_length l o.client
  have bo := Bx.new w o
  have k0 := (Only.refl [] w).alloc (.cells #[.int .u32 o.client, .int .u32 o.handle, .int .u32 o.file, .int .u32 o.access, .int .u32 (o.deny : Int)] 27)
  generalize addR l o = M at *
  generalize dropR l ⟨o.client, o.handle, 0, 0, 0⟩ = V at *
  generalize clearR l o.client = Z at *
  obtain ⟨M1, M2⟩ := M
  obtain ⟨V1, ⟨y0, y1, y2, y3, y4⟩, V3⟩ := V
  obtain ⟨Z1, Z2⟩ := Z
  obtain ⟨o0, o1, o2, o3, o4⟩ := o
  have hv : opV ⟨o0, o1, o2, o3, o4⟩ = .agg #[.int .u32 o0, .int .u32 o1, .int .u32 o2, .int .u32 o3, .int .u32 (o4 : Int)] := rfl
  rw [hv] at h1 ⊢
  have hyv : opV ⟨y0, y1, y2, y3, y4⟩ = .agg #[.int .u32 y0, .int .u32 y1, .int .u32 y2, .int .u32 y3, .int .u32 (y4 : Int)] := rfl
  simp only at h1 h2 h3 n1 n2 n3 bo k0
  have hb' := Lib.hid hb
  replace h1 := Lib.hid h1
  replace h2 := Lib.hid h2
  replace h3 := Lib.hid h3
  replace hyv := Lib.hid hyv
  clear hv
  obtain ⟨n, hn⟩ : ∃ n, n = l.length := ⟨_, rfl⟩
  have HN := Lib.hid hn
  go_enter Try.func9, Try.ntmps9
  go_wp2_with fail
  refine (alive_any _).mono ?_; rintro e w1 ⟨rfl, k1'⟩
  have k1 := k0.trans k1'
  have p1 := Bx.kept bo k1' (by simp)
  generalize w.heap.size = qo at *
  clear bo k1' k0
  by_cases h100 : (100 : Int) < (l.length : Int)
  · have d100 : decide ((100 : Int) < (l.length : Int)) = true := decide_eq_true h100
    go_wp2_with fail
    refine (alive_any _).mono ?_; rintro e wz ⟨rfl, kz⟩
    go_wp2
    go_ret
    exact ⟨rfl, k1.trans kz⟩
  have d100 : decide ((100 : Int) < (l.length : Int)) = false := decide_eq_false h100
  have hl100 : l.length ≤ 100 := by omega
  replace h100 := Lib.hid h100
  have hA1 := hb.kept k1 (by simp)
  rw [← hn] at d100 hl100 n1 n2 n3 ⊢
  clear hn hb
  have k2 := (Only.refl [] w1).alloc (.cells (encs opE (List.replicate (n + 4) zeroO)).toArray 27)
  have b2 := Blk.new w1 27 (encs opE (List.replicate (n + 4) zeroO)).toArray
  have hA2 := hA1.kept k2 (by simp)
  have hfit : n * 5 ≤ (encs opE (List.replicate (n + 4) zeroO)).length := by rw [encs_length opE_length, List.length_replicate]; omega
  have hrep := room_spare n
  obtain ⟨Zc, hZ⟩ : ∃ Zc, Zc = encs opE (List.replicate (n + 4) zeroO) := ⟨_, rfl⟩
  rw [← hZ] at k2 b2 hA2 hfit hrep
  replace hZ := Lib.hid hZ
  replace hrep := Lib.hid hrep
  go_wp2_with (first
    | (refine wpList_make_room rfl (.tmp 26) (.tmp 29) rfl _ _ n (n + 4) rfl rfl rfl (by omega) (by omega) (by omega) ?_
       rw [← hZ.out])
    | (refine wpList_copy_els opE_length opE_one rfl (.tmp 31) (.tmp 32) 22 22 rfl 27 Try.underlying22 (by kernel_rfl) w1.heap.size n (n + 4) c A l HN.out rfl rfl hA2 (by decide) Zc _ b2 hfit ?_
       intro w3 b3 k3
       have p3 := Bx.kept (Bx.kept p1 k2 (by simp)) k3 (by have := p1.lt; simp; omega)
       obtain ⟨c0, c1, c2, c3, c4⟩ := p3.cells
       (try simp only at c0 c1 c2 c3 c4)))
  rw [hrep.out, ← encs_append] at b3
  obtain ⟨q, hq⟩ : ∃ q, q = w1.heap.size := ⟨_, rfl⟩
  rw [← hq] at b3 k3 ⊢
  have hroom : RoomB w3 q (l ++ List.replicate 4 zeroO) := b3
  have hqlt : q < w3.heap.size := Blk.lt hroom
  have k13 : Only [] w1 w3 := k2.then k3 (by
    intro i hi
    simp at hi
    subst hi
    exact .inr (by omega))
  have kk3 := k1.trans k13
  have hqw : w.heap.size ≤ q := by have := k1.size; omega
  clear k2 b2 hA2 hfit hrep k3 k13 hA1 hZ p1 c0 c1 c2 c3 c4
  replace hq := Lib.hid hq
  have hnc : l.length ≤ n + 4 := by have := HN.out; omega
  have g1 := fun W (h : Els opE 5 W (some ⟨q, 0, none⟩) l) => h1.out W (some ⟨q, 0, none⟩) (n + 4) h hnc
  have g2 := fun W (h : Els opE 5 W (some ⟨q, 0, none⟩) l) => h2.out W (some ⟨q, 0, none⟩) (n + 4) h hnc
  have g3 := fun W (h : Els opE 5 W (some ⟨q, 0, none⟩) l) => h3.out W (some ⟨q, 0, none⟩) (n + 4) h hnc
  rw [← HN.out] at g1 g2 g3
  replace g1 := Lib.hid g1
  replace g2 := Lib.hid g2
  replace g3 := Lib.hid g3
  clear h1 h2 h3 hnc
  obtain ⟨c0, c1, c2, c3, c4⟩ := p3.cells
  simp only at c0 c1 c2 c3 c4
  go_wp2_with fail
  refine (g1.out _ hroom.els).mono ?_; rintro e w4 ⟨v, rfl, m4⟩
  have k34 := m4.only
  have x4 : q < w4.heap.size := Nat.lt_of_lt_of_le hqlt k34.size
  obtain ⟨A1, d1, rfl, e1, _, l1, _⟩ := m4.shape opE_length
  have r4 := hroom.kept k34 (by simp)
  have p4 := Bx.kept p3 k34 (by simp)
  have ap1 : Apart q w4 A1 M1 := ⟨e1, fun a ha => by have := l1 a ha; omega⟩
  clear m4 e1 l1 c0 c1 c2 c3 c4 p3
  obtain ⟨c0, c1, c2, c3, c4⟩ := p4.cells
  simp only at c0 c1 c2 c3 c4
  go_wp2_with fail
  refine (g2.out _ r4.els).mono ?_; rintro e w5 ⟨v, rfl, m5⟩
  have k45 := m5.only
  obtain ⟨A2, d2, rfl, e2, _, l2, _⟩ := m5.shape opE_length
  have ap2 : Apart q w5 A2 V1 := ⟨e2, fun a ha => by have := l2 a ha; omega⟩
  have p5 := Bx.kept p4 k45 (by simp)
  clear m5 e2 l2 c0 c1 c2 c3 c4 p4
  simp only [hyv.out]
  have k56 : Only [] w5 (w5.alloc (.cells #[.int .u32 y0, .int .u32 y1, .int .u32 y2, .int .u32 y3, .int .u32 (y4 : Int)] 27)) := (Only.refl [] w5).alloc _
  have k46 := k45.trans k56
  have r6 := r4.kept k46 (by simp)
  have p6 := Bx.kept p5 k56 (by simp)
  have ap16 := ap1.kept k46
  have ap26 := ap2.kept k56
  have s46 := k46.size
  obtain ⟨c0, c1, c2, c3, c4⟩ := p6.cells
  simp only at c0 c1 c2 c3 c4
  go_wp2_with fail
  generalize (w5.alloc (.cells #[.int .u32 y0, .int .u32 y1, .int .u32 y2, .int .u32 y3, .int .u32 (y4 : Int)] 27)) = w6 at *
  refine (g3.out _ r6.els).mono ?_; rintro e w7 ⟨v, rfl, m7⟩
  have k67 := m7.only
  have s67 := k67.size
  obtain ⟨A3, d3, rfl, e3, _, l3, _⟩ := m7.shape opE_length
  have ap3 : Apart q w7 A3 Z1 := ⟨e3, fun a ha => by have := l3 a ha; omega⟩
  have ap17 := ap16.kept k67
  have ap27 := ap26.kept k67
  have r7 := r6.kept k67 (by simp)
  have kk7 := ((kk3.trans k34).trans k46).trans k67
  have x7 : q < w7.heap.size := by omega
  clear m7 e3 l3 c0 c1 c2 c3 c4 p5 p6 r4 r6 ap1 ap2 ap16 ap26 k34 k45 k56 k46 k67 kk3 s46 s67 x4 hqlt hroom
  have o7 : Hid ((w7.alloc (.cells #[] 27)).ownsRow 0 27 5 (.slice (some ⟨w7.heap.size, 0, none⟩) 0 0) 0 (encs opE [])) := own_empty (Blk.new _ _ _)
  have e17 := Lib.hid (ap17.1.kept ((Only.refl [] w7).alloc (.cells #[] 27)) (by simp))
  replace ap17 := Lib.hid ap17
  replace ap27 := Lib.hid ap27
  replace ap3 := Lib.hid ap3
  simp only at n1 n2 n3 ⊢
  go_wp2_with (at_builtin; first
    | (refine wpList_append_any opE_length (by decide) opE_one rfl (.tmp 57) (.tmp 58) 22 rfl 27 _ 20 Try.underlying22 info_op rfl _ 0 [] rfl o7.out A1 d1 M1 rfl e17.out (by unfold maxLen; omega) (by omega) ?_
       intro vv w8 h6 g6 a6
       obtain ⟨B1, f1, rfl, z1, k78, t1⟩ := copied rfl h6 g6 a6
       have bp1 : Hid (Apart q w8 B1 M1) := Lib.hid ⟨z1, fun a ha => by have := t1 a ha; omega⟩
       have ap18 := Lib.hid (ap17.out.kept k78)
       have ap28 := Lib.hid (ap27.out.kept k78)
       have ap38 := Lib.hid (ap3.out.kept k78)
       have x8 := k78.size
       have o8 : Hid ((w8.alloc (.cells #[] 27)).ownsRow 0 27 5 (.slice (some ⟨w8.heap.size, 0, none⟩) 0 0) 0 (encs opE [])) := Lib.hid (own_empty (Blk.new _ _ _))
       have e28 := Lib.hid (ap28.out.1.kept ((Only.refl [] w8).alloc (.cells #[] 27)) (by simp))
       clear h6 g6 a6)
    | (refine wpList_append_any opE_length (by decide) opE_one rfl (.tmp 60) (.tmp 61) 22 rfl 27 _ 20 Try.underlying22 info_op rfl _ 0 [] rfl o8.out A2 d2 V1 rfl e28.out (by unfold maxLen; omega) (by omega) ?_
       intro vv w9 h6 g6 a6
       obtain ⟨B2, f2, rfl, z2, k89, t2⟩ := copied rfl h6 g6 a6
       have bp2 : Hid (Apart q w9 B2 V1) := Lib.hid ⟨z2, fun a ha => by have := t2 a ha; omega⟩
       have bp19 := Lib.hid (bp1.out.kept k89)
       have ap19 := Lib.hid (ap18.out.kept k89)
       have ap29 := Lib.hid (ap28.out.kept k89)
       have ap39 := Lib.hid (ap38.out.kept k89)
       have x9 := k89.size
       have o9 : Hid ((w9.alloc (.cells #[] 27)).ownsRow 0 27 5 (.slice (some ⟨w9.heap.size, 0, none⟩) 0 0) 0 (encs opE [])) := Lib.hid (own_empty (Blk.new _ _ _))
       have e39 := Lib.hid (ap39.out.1.kept ((Only.refl [] w9).alloc (.cells #[] 27)) (by simp))
       clear h6 g6 a6)
    | (refine wpList_append_any opE_length (by decide) opE_one rfl (.tmp 63) (.tmp 64) 22 rfl 27 _ 20 Try.underlying22 info_op rfl _ 0 [] rfl o9.out A3 d3 Z1 rfl e39.out (by unfold maxLen; omega) (by omega) ?_
       intro vv w10 h6 g6 a6
       obtain ⟨B3, f3, rfl, z3, k90, t3⟩ := copied rfl h6 g6 a6
       have bp3 : Hid (Apart q w10 B3 Z1) := Lib.hid ⟨z3, fun a ha => by have := t3 a ha; omega⟩
       have bp10 := Lib.hid (bp19.out.kept k90)
       have bp20 := Lib.hid (bp2.out.kept k90)
       have ap10 := Lib.hid (ap19.out.kept k90)
       have ap20 := Lib.hid (ap29.out.kept k90)
       have ap30 := Lib.hid (ap39.out.kept k90)
       clear h6 g6 a6))
  have k70 := (k78.trans k89).trans k90
  have r10 := r7.kept k70 (by simp)
  have kk10 := kk7.trans k70
  clear r7 kk7 k78 k89 k90 k70 o7 o8 o9 e17 e28 e39 z1 z2 z3 t1 t2 t3 ap17 ap27 ap3 ap18 ap28 ap38 ap19 ap29 ap39 bp1 bp19 bp2
  have hA10 := hb'.out.kept kk10 (by simp)
  have hSame := rsame_yes w10 (some ⟨q, 0, none⟩) A (n + 4) c l r10.els hA10 (by have := HN.out; omega)
  rw [← HN.out] at hSame
  replace hSame := Lib.hid hSame
  clear hA10
  go_loopw [17] (fun i wq => ∃ t : Nat, n ≤ t ∧ t ≤ n + 4 ∧ i = .int .i64 t ∧ w10 = wq) (fun i _ => n + 4 - (intOf i).toNat)
  case atStart => exact ⟨n, Nat.le_refl _, by omega, rfl, rfl⟩
  case round =>
    obtain ⟨t, ht1, ht2, rfl, rfl⟩ := hrel
    by_cases hlt2 : t < n + 4
    · have hti : t < (l ++ List.replicate 4 zeroO).length := by rw [List.length_append, List.length_replicate, ← HN.out]; exact hlt2
      obtain ⟨b0, b1, b2, b3, b4⟩ := ops_at r10.at hti
      rw [spare_at HN.out.symm ht1 hti] at b0 b1 b2 b3 b4
      simp only [zeroO, Nat.zero_add] at b0 b1 b2 b3 b4
      have hlt3 : (t : Int) < (n : Int) + 4 := by omega
      replace r10 := Lib.hid r10
      go_wp2_with (refine wpList_neq_op zeroO zeroO rfl _ _ _ rfl rfl rfl false (by simp) ?_)
      go_roundw
      case rel => exact ⟨t + 1, by omega, by omega, by go_num, trivial⟩
      case measure => simp [intOf]; omega
    · have hge : ¬ (t : Int) < (n : Int) + 4 := by omega
      go_wp2_with fail
      refine hSame.out.mono ?_; rintro e w13 ⟨rfl, k13⟩
      have r13 := (r10.kept k13 (by simp)).rowB (by rw [List.length_append, List.length_replicate, ← HN.out]; omega)
      have hll : (l ++ List.replicate 4 zeroO).length = n + 4 := by rw [List.length_append, List.length_replicate, ← HN.out]
      rw [hll] at r13
      have kk13 := kk10.trans k13
      have x1 := ap10.out.kept k13
      have x2 := ap20.out.kept k13
      have x3 := ap30.out.kept k13
      have x4 := bp10.out.kept k13
      have x5 := bp20.out.kept k13
      have x6 := bp3.out.kept k13
      replace x1 := Lib.hid x1
      replace x2 := Lib.hid x2
      replace x3 := Lib.hid x3
      replace x4 := Lib.hid x4
      replace x5 := Lib.hid x5
      replace x6 := Lib.hid x6
      replace hll := Lib.hid hll
      clear r10 hSame k13 ap10 ap20 ap30 bp10 bp20 bp3 kk10
      go_wp2_with fail
      go_loopw [18] (fun i wq => ∃ (j : Nat) (L : List Opn), j ≤ n ∧ i = .int .i64 j ∧ RowB wq q (n + 4) L ∧ Hid (L.length = n + 4) ∧ Only [q] w13 wq) (fun i _ => n - (intOf i).toNat)
      case atStart => exact ⟨0, _, by omega, rfl, r13, hll, Only.refl _ _⟩
      case round =>
        clear r13
        obtain ⟨j, L, hj, rfl, hB, hLl, hon⟩ := hrel
        by_cases hjn : j < n
        · have hjL : j < L.length := by have := hLl.out; omega
          have hjI : (j : Int) < (n : Int) := by omega
          have hLl' : Hid ((L.set j ⟨0, 0, 99, 0, 0⟩).length = n + 4) := by rw [List.length_set]; exact hLl
          go_wp2_with (refine wpList_store_row rfl _ _ rfl q j (n + 4) L ⟨0, 0, 99, 0, 0⟩ rfl rfl hB hjL ?_; intro w5 r5 k5)
          go_roundw
          case rel => exact ⟨j + 1, _, by omega, by go_num, r5, hLl', hon.trans k5⟩
          case measure => simp [intOf]; omega
        · have kk14 : Only [] w wr := kk13.then hon (fun i hi => by simp at hi; subst hi; exact .inr hqw)
          have a1 := x1.out.turned hon
          have a2 := x2.out.turned hon
          have a3 := x3.out.turned hon
          have a4 := x4.out.turned hon
          have a5 := x5.out.turned hon
          have a6 := x6.out.turned hon
          have s1 := fun W (k : Only [] wr W) => rsame_yes W A1 B1 d1 f1 M1 (a1.1.kept k (by simp)) (a4.1.kept k (by simp)) (by omega)
          have s2 := fun W (k : Only [] wr W) => rsame_yes W A2 B2 d2 f2 V1 (a2.1.kept k (by simp)) (a5.1.kept k (by simp)) (by omega)
          have s3 := fun W (k : Only [] wr W) => rsame_yes W A3 B3 d3 f3 Z1 (a3.1.kept k (by simp)) (a6.1.kept k (by simp)) (by omega)
          replace s1 := Lib.hid s1
          replace s2 := Lib.hid s2
          replace s3 := Lib.hid s3
          clear a1 a2 a3 a4 a5 a6 hon hB
          go_wp2_with fail
          refine (alive_any _).mono ?_; rintro e w15 ⟨rfl, k15⟩
          go_wp2_with fail
          refine (s1.out _ k15).mono ?_; rintro e w16 ⟨rfl, k16'⟩
          have k16 := k15.trans k16'
          go_wp2_with fail
          refine (s2.out _ k16).mono ?_; rintro e w17 ⟨rfl, k17'⟩
          have k17 := k16.trans k17'
          go_wp2_with fail
          refine (s3.out _ k17).mono ?_; rintro e w18 ⟨rfl, k18'⟩
          go_wp2
          go_ret
          exact ⟨rfl, kk14.trans (k17.trans k18')⟩
end Go.Proofs.Ythclpefomhakdaa
