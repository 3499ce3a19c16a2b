/- TreeKeeps: what is handed in is neither changed nor kept, and answers are new memory. -/
import Derived.Test.YteiekfccfddmjaaDoorRoom10
import Derived.Test.YteiekfccfddmjaaDoorRenamesL10
import Derived.Test.YteiekfccfddmjaaDoorMakesL10
import Derived.Test.YteiekfccfddmjaaDoorSizesL10
namespace Go.Proofs.YteiekfccfddmjaaDoor
open Go.RowKit

/-- A list's value. -/
structure Sl where
  A : Option Addr
  n : Nat
  c : Nat
def slE (x : Sl) : List Value := [.slice x.A x.n x.c]
theorem slE_length (x : Sl) : (slE x).length = 1 := rfl
theorem slE_one (x : Sl) : ∀ v ∈ slE x, v.oneCell' = true := by
  intro v hv
  simp [slE] at hv
  subst hv
  rfl
theorem info_sl : (Tryd.prog.info? 22).map (fun i => (i.zero, i.size, i.bytes)) = some (some (.slice none 0 0), 1, 24) := by kernel_rfl
/-- The first lists of Ls lie where ss says, apart from block q. -/
def Mt (W : World) (q : Nat) (ss : List Sl) (Ls : List (List Nd)) : Prop := ∀ (i : Nat) (x : Sl) (L : List Nd), ss[i]? = some x → Ls[i]? = some L → x.n = L.length ∧ Els ndE 5 W x.A L ∧ ∀ a, x.A = some a → q < a.block
theorem Mt.kept {W W' : World} {q : Nat} {ss : List Sl} {Ls : List (List Nd)} {S : List Nat} (h : Mt W q ss Ls) (k : Only S W W') (hs : ∀ (i : Nat) (x : Sl) a, ss[i]? = some x → x.A = some a → a.block ∉ S) : Mt W' q ss Ls := fun i x L h1 h2 => by
  obtain ⟨g1, g2, g3⟩ := h i x L h1 h2
  exact ⟨g1, g2.kept k (fun a ha => hs i x a h1 ha), g3⟩
theorem rsame_drew (w : World) (A B : Option Addr) (c d : Nat) (l : List Nd) (hA : Els ndE 5 w A l) (hB : Els ndE 5 w B l) (hl : l.length ≤ 1024) :
    Calls Tryd.prog 28 #[.slice A l.length c, .slice B l.length d] w fun e w' => e = .returned (.bool true) ∧ ∃ m, w' = w.drewN m := by
  obtain ⟨n, hn⟩ : ∃ n, n = l.length := ⟨_, rfl⟩
  rw [← hn] at hl ⊢
  replace hn := Lib.hid hn
  go_enter Tryd.func28, Tryd.ntmps28
  go_wp2_with fail
  go_loopw [5] (fun i wr => ∃ k m : Nat, k ≤ n ∧ i = .int .i64 k ∧ wr = w.drewN m) (fun i _ => n - (intOf i).toNat)
  case atStart => exact ⟨0, 0, by omega, rfl, rfl⟩
  case round =>
    obtain ⟨k, m, hk, rfl, rfl⟩ := hrel
    by_cases hlt : k < n
    · have hk' : k < l.length := by have := hn.out; omega
      obtain ⟨g, o, rfl, _, hat⟩ := hA.get hk'
      obtain ⟨g', o', rfl, _, hat'⟩ := hB.get hk'
      obtain ⟨c0, c1, c2, c3, c4⟩ := nds_at hat hk'
      obtain ⟨d0, d1, d2, d3, d4⟩ := nds_at hat' hk'
      generalize l[k] = f at *
      obtain ⟨f0, f1, f2, f3, f4⟩ := f
      simp only at c0 c1 c2 c3 c4 d0 d1 d2 d3 d4
      generalize strOf f2 = s2 at *
      clear hat hat' hA hB
      go_wp2_with fail
      go_quiet (fail)
      go_wp2_with fail
      go_roundw
      case rel => exact ⟨k + 1, _, by omega, by go_num, rfl⟩
      case measure => simp [intOf]; omega
    · clear hA hB
      go_wp2
      go_ret
      exact ⟨rfl, m, rfl⟩
set_option maxRecDepth 100000 in
set_option maxHeartbeats 8000000 in
theorem treeKeeps_walk (w : World) (A : Option Addr) (c : Nat) (l : List Nd) (p o : List UInt8) (id size : Int) (hb : Els ndE 5 w A l) (hl : l.length ≤ 9223372036854775807) (_ : l.length ≤ c) :
    Calls Tryd.prog 10 #[.slice A l.length c, .string (strOf p), .string (strOf o), .int .u32 id, .int .u32 size] w fun e w' => e = .returned (.bool true) ∧ Only [] w w' := by
  have hG := fun W (k : Only [] w W) => great_any W A c l p o (hb.kept k (by simp)) hl
  have h1 := fun W B cb (h : Els ndE 5 W B l) (hcb : l.length ≤ cb) (hn : l.length ≤ 100) (hp : p.length ≤ 1000) => make_any W B cb l p id true h hcb (by omega) (by omega)
  have h2 := fun W B cb (h : Els ndE 5 W B l) (hcb : l.length ≤ cb) (hn : l.length ≤ 100) (hp : p.length ≤ 1000) => remove_any W B cb l p false h hcb (by omega) (by omega)
  have h3 := fun W B cb (h : Els ndE 5 W B l) (hcb : l.length ≤ cb) (hn : l.length ≤ 100) (hp : p.length ≤ 1000) (ho : o.length ≤ 1000) => rename_any W B cb l p o h hcb (by omega) (by omega) (by omega)
  have h4 := fun W B cb (h : Els ndE 5 W B l) (hcb : l.length ≤ cb) (hn : l.length ≤ 100) => resize_any W B cb l id size h hcb (by omega)
  have n1 := makeR_length l p id true
  have n2 := removeR_length l p false
  have n3 := renameR_len l p o
  have n4 := resizeR_length l id size
  generalize makeR l p id true = M at *
  generalize removeR l p false = V at *
  generalize renameR l p o = N at *
  generalize resizeR l id size = Z at *
  obtain ⟨M1, M2⟩ := M
  obtain ⟨V1, ⟨y0, y1, y2, y3, y4⟩, V3⟩ := V
  obtain ⟨N1, N2⟩ := N
  obtain ⟨Z1, Z2⟩ := Z
  have hyv : ndV ⟨y0, y1, y2, y3, y4⟩ = .agg #[.int .u32 y0, .int .u32 y1, .string (strOf y2), .bool y3, .int .u32 y4] := rfl
  simp only at h1 h2 h3 h4 n1 n2 n3 n4
  have hb' := Lib.hid hb
  replace hG := Lib.hid hG
  replace h1 := Lib.hid h1
  replace h2 := Lib.hid h2
  replace h3 := Lib.hid h3
  replace h4 := Lib.hid h4
  obtain ⟨n, hn⟩ : ∃ n, n = l.length := ⟨_, rfl⟩
  have HN := Lib.hid hn
  go_enter Tryd.func10, Tryd.ntmps10
  go_wp2_with fail
  refine (alive_any _).mono ?_; rintro e w1 ⟨rfl, k1⟩
  go_wp2_with fail
  refine (hG.out _ k1).mono ?_; rintro e w2 ⟨⟨r, rfl, hr⟩, rfl⟩
  cases r with
  | true =>
    go_wp2_with fail
    refine (alive_any _).mono ?_; rintro e w3 ⟨rfl, k3⟩
    go_wp2
    go_ret
    exact ⟨rfl, k1.trans k3⟩
  | false =>
  obtain ⟨h100, hp1, ho1⟩ := hr rfl
  clear hr
  have hA1 := hb.kept k1 (by simp)
  rw [← hn] at h100 n1 n2 n3 n4 ⊢
  clear hn hb
  have k2 := (Only.refl [] w2).alloc (.cells (encs ndE (List.replicate (n + 4) zeroN)).toArray 28)
  have b2 := Blk.new w2 28 (encs ndE (List.replicate (n + 4) zeroN)).toArray
  have hA2 := hA1.kept k2 (by simp)
  have hfit : n * 5 ≤ (encs ndE (List.replicate (n + 4) zeroN)).length := by rw [encs_length ndE_length, List.length_replicate]; omega
  have hrep := room_spare n
  obtain ⟨Zc, hZ⟩ : ∃ Zc, Zc = encs ndE (List.replicate (n + 4) zeroN) := ⟨_, rfl⟩
  rw [← hZ] at k2 b2 hA2 hfit hrep
  replace hZ := Lib.hid hZ
  replace hrep := Lib.hid hrep
  go_wp2_with (first
    | (refine wpList_make_room rfl (.tmp 36) (.tmp 39) rfl _ _ n (n + 4) rfl rfl rfl (by omega) (by omega) (by omega) ?_
       rw [← hZ.out])
    | (refine wpList_copy_els ndE_length ndE_one rfl (.tmp 41) (.tmp 42) 22 22 rfl 28 Tryd.underlying22 (by kernel_rfl) w2.heap.size n (n + 4) c A l HN.out rfl rfl hA2 (by decide) Zc _ b2 hfit ?_
       intro w3 b3 k3))
  rw [hrep.out, ← encs_append] at b3
  obtain ⟨q, hq⟩ : ∃ q, q = w2.heap.size := ⟨_, rfl⟩
  rw [← hq] at b3 k3 ⊢
  have hroom : RoomB w3 q (l ++ List.replicate 4 zeroN) := b3
  have hqlt : q < w3.heap.size := Blk.lt hroom
  have k13 : Only [] w2 w3 := k2.then k3 (by
    intro i hi
    simp at hi
    subst hi
    exact .inr (by omega))
  have kk3 := k1.trans k13
  have hqw : w.heap.size ≤ q := by have := k1.size; omega
  clear k2 b2 hA2 hfit hrep k3 k13 hA1 hZ
  replace hq := Lib.hid hq
  have hnc : l.length ≤ n + 4 := by have := HN.out; omega
  have hn100 : l.length ≤ 100 := by have := HN.out; omega
  have g1 := fun W (h : Els ndE 5 W (some ⟨q, 0, none⟩) l) => h1.out W (some ⟨q, 0, none⟩) (n + 4) h hnc hn100 hp1
  have g2 := fun W (h : Els ndE 5 W (some ⟨q, 0, none⟩) l) => h2.out W (some ⟨q, 0, none⟩) (n + 4) h hnc hn100 hp1
  have g3 := fun W (h : Els ndE 5 W (some ⟨q, 0, none⟩) l) => h3.out W (some ⟨q, 0, none⟩) (n + 4) h hnc hn100 hp1 ho1
  have g4 := fun W (h : Els ndE 5 W (some ⟨q, 0, none⟩) l) => h4.out W (some ⟨q, 0, none⟩) (n + 4) h hnc hn100
  rw [← HN.out] at g1 g2 g3 g4
  replace g1 := Lib.hid g1
  replace g2 := Lib.hid g2
  replace g3 := Lib.hid g3
  replace g4 := Lib.hid g4
  clear h1 h2 h3 h4 hnc hn100
  go_wp2_with fail
  refine (g1.out _ hroom.els).mono ?_; rintro e w4 ⟨v, rfl, m4⟩
  have k34 := m4.only
  have x4 : q < w4.heap.size := Nat.lt_of_lt_of_le hqlt k34.size
  obtain ⟨A1, c1, rfl, e1, _, l1, _⟩ := m4.shape ndE_length
  have r4 := hroom.kept k34 (by simp)
  clear m4
  go_wp2_with fail
  refine (g2.out _ r4.els).mono ?_; rintro e w5 ⟨v, rfl, m5⟩
  have k45 := m5.only
  obtain ⟨A2, c2, rfl, e2, _, l2, _⟩ := m5.shape ndE_length
  clear m5
  rw [hyv]
  have k56 := (Only.refl [] w5).alloc (.cells #[.int .u32 y0, .int .u32 y1, .string (strOf y2), .bool y3, .int .u32 y4] 28)
  have k46 := k45.trans k56
  have e26 := e2.kept k56 (by simp)
  have r6 := r4.kept k46 (by simp)
  have s45 := k45.size
  have s46 := k46.size
  go_wp2_with fail
  generalize (w5.alloc (.cells #[.int .u32 y0, .int .u32 y1, .string (strOf y2), .bool y3, .int .u32 y4] 28)) = w6 at *
  refine (g3.out _ r6.els).mono ?_; rintro e w7 ⟨v, rfl, m7⟩
  have k67 := m7.only
  obtain ⟨A3, c3, rfl, e3, _, l3, _⟩ := m7.shape ndE_length
  have r7 := r6.kept k67 (by simp)
  have s67 := k67.size
  clear m7
  go_wp2_with fail
  refine (g4.out _ r7.els).mono ?_; rintro e w8 ⟨v, rfl, m8⟩
  have k78 := m8.only
  obtain ⟨A4, c4, rfl, e4, _, l4, _⟩ := m8.shape ndE_length
  have r8 := r7.kept k78 (by simp)
  have s78 := k78.size
  clear m8
  have k68 := k67.trans k78
  have hMt : Mt w8 q [⟨A1, M1.length, c1⟩, ⟨A2, V1.length, c2⟩, ⟨A3, N1.length, c3⟩, ⟨A4, Z1.length, c4⟩] [M1, V1, N1, Z1] := by
    intro i x L h1 h2
    match i, h1, h2 with
    | 0, h1, h2 =>
      simp at h1 h2
      subst h1; subst h2
      exact ⟨rfl, e1.kept (k46.trans k68) (by simp), fun a ha => by have := l1 a ha; omega⟩
    | 1, h1, h2 =>
      simp at h1 h2
      subst h1; subst h2
      exact ⟨rfl, e26.kept k68 (by simp), fun a ha => by have := l2 a ha; omega⟩
    | 2, h1, h2 =>
      simp at h1 h2
      subst h1; subst h2
      exact ⟨rfl, e3.kept k78 (by simp), fun a ha => by have := l3 a ha; omega⟩
    | 3, h1, h2 =>
      simp at h1 h2
      subst h1; subst h2
      exact ⟨rfl, e4, fun a ha => by have := l4 a ha; omega⟩
    | i + 4, h1, h2 => simp at h1
  have kk8 := ((kk3.trans k34).trans k46).trans k68
  have hq8 : q < w8.heap.size := by omega
  clear e1 e2 e26 e3 e4 l1 l2 l3 l4 r4 r6 r7 k34 k45 k56 k46 k67 k78 k68 kk3 hroom hqlt x4 s45 s46 s67 s78
  have k89 := (Only.refl [] w8).alloc (.cells #[.slice A1 M1.length c1, .slice A2 V1.length c2, .slice A3 N1.length c3, .slice A4 Z1.length c4] 22)
  have b9 := Blk.new w8 22 #[.slice A1 M1.length c1, .slice A2 V1.length c2, .slice A3 N1.length c3, .slice A4 Z1.length c4]
  obtain ⟨ss, hss⟩ : ∃ ss : List Sl, ss = [⟨A1, M1.length, c1⟩, ⟨A2, V1.length, c2⟩, ⟨A3, N1.length, c3⟩, ⟨A4, Z1.length, c4⟩] := ⟨_, rfl⟩
  obtain ⟨Ls, hLs⟩ : ∃ Ls : List (List Nd), Ls = [M1, V1, N1, Z1] := ⟨_, rfl⟩
  have hcells : ∀ (i : Nat) (x : Sl), ss[i]? = some x → (w8.alloc (.cells #[.slice A1 M1.length c1, .slice A2 V1.length c2, .slice A3 N1.length c3, .slice A4 Z1.length c4] 22)).cell? ⟨w8.heap.size, i, none⟩ = some (.slice x.A x.n x.c) := fun i x h => by
    rw [b9.cell]
    rw [hss] at h
    match i, h with
    | 0, h => simp at h; subst h; rfl
    | 1, h => simp at h; subst h; rfl
    | 2, h => simp at h; subst h; rfl
    | 3, h => simp at h; subst h; rfl
    | i + 4, h => simp at h
  have hlen4 : ∀ L ∈ Ls, L.length ≤ 1000 := by
    rw [hLs]
    intro L hL
    simp at hL
    rcases hL with rfl | rfl | rfl | rfl <;> omega
  have hs4 : ss.length = 4 := by rw [hss]; rfl
  have hL4 : Ls.length = 4 := by rw [hLs]; rfl
  rw [← hss, ← hLs] at hMt
  have hss' := Lib.hid hss
  have hLs' := Lib.hid hLs
  replace hcells := Lib.hid hcells
  replace hlen4 := Lib.hid hlen4
  replace hs4 := Lib.hid hs4
  replace hL4 := Lib.hid hL4
  replace hMt := Lib.hid hMt
  clear hss hLs b9
  have hMt9 := Lib.hid (hMt.out.kept k89 (by simp))
  have r9 := r8.kept k89 (by simp)
  have kk9 := kk8.trans k89
  have hq9 : q < (w8.alloc (.cells #[.slice A1 M1.length c1, .slice A2 V1.length c2, .slice A3 N1.length c3, .slice A4 Z1.length c4] 22)).heap.size := Nat.lt_of_lt_of_le hq8 k89.size
  clear hMt r8 kk8 k89
  go_wp2_with fail
  generalize (w8.alloc (.cells #[.slice A1 M1.length c1, .slice A2 V1.length c2, .slice A3 N1.length c3, .slice A4 Z1.length c4] 22)) = w9 at *
  generalize w8.heap.size = g9 at *
  go_loopw [22, 23] (fun v a wr => ∃ (k : Nat) (cps : List Sl), k ≤ 4 ∧ a = .int .i64 k ∧ cps.length = k ∧ Mine slE 1 22 w9 wr v cps ∧ Mt wr q cps Ls ∧ (∀ (i : Nat) (x : Sl) b, cps[i]? = some x → x.A = some b → v.ownBlock ≠ some b.block ∧ w9.heap.size ≤ b.block ∧ b.block < wr.heap.size)) (fun _ a _ => 4 - (intOf a).toNat)
  case atStart => exact ⟨0, [], by omega, rfl, rfl, Mine.start _ _ _ (Only.refl [] w9), fun i x L h => by simp at h, fun i x b h => by simp at h⟩
  case round =>
    obtain ⟨k, cps, hk, rfl, hcl, hm, hM, hap⟩ := hrel
    by_cases hlt : k < 4
    · obtain ⟨x, hx⟩ : ∃ x, ss[k]? = some x := ⟨_, List.getElem?_eq_getElem (by have := hs4.out; omega)⟩
      obtain ⟨L, hL⟩ : ∃ L, Ls[k]? = some L := ⟨_, List.getElem?_eq_getElem (by have := hL4.out; omega)⟩
      obtain ⟨x1, x2, x3⟩ := hMt9.out k x L hx hL
      have hcx := hm.only.cell (hcells.out k x hx) (by simp)
      have hLl := hlen4.out L (List.mem_of_getElem? hL)
      obtain ⟨xA, xn, xc⟩ := x
      simp only at x1 x2 x3 hcx
      subst x1
      have own6 : (wr.alloc (.cells #[] 28)).ownsRow 0 28 5 (.slice (some ⟨wr.heap.size, 0, none⟩) 0 0) 0 (encs ndE []) := own_empty (Blk.new _ _ _)
      have els6 := x2.kept ((hm.only).alloc (.cells #[] 28)) (by simp)
      have hcx6 := ((Only.refl [] wr).alloc (.cells #[] 28)).cell hcx (by simp)
      have hkI : (k : Int) < 4 := by omega
      have hkz : (0 : Int) ≤ (k : Int) := by omega
      have hg9 : g9 < wr.heap.size := World.block_lt_of_cell? wr _ hcx
      have hgn : ¬ g9 = wr.heap.size := by omega
      replace own6 := Lib.hid own6
      replace els6 := Lib.hid els6
      replace hx := Lib.hid hx
      replace hL := Lib.hid hL
      replace hm := Lib.hid hm
      replace hM := Lib.hid hM
      replace hap := Lib.hid hap
      replace hcl := Lib.hid hcl
      go_wp2_with (first
        | (refine wpList_append_any ndE_length (by decide) ndE_one rfl (.tmp 84) (.tmp 88) 22 rfl 28 _ 32 Tryd.underlying22 info_nd rfl _ 0 [] rfl own6.out xA xc L rfl els6.out (by unfold maxLen; omega) (by omega) ?_
           intro vv w10 h6 g6 a6
           obtain ⟨A', c', rfl, n7, k7, q7⟩ := copied rfl h6 g6 a6
           have lt7 : Hid (∀ b, A' = some b → b.block < w10.heap.size) := Lib.hid (fun b hb => (h6.lt b.block (by rw [hb]; rfl)).2)
           have hm7 : Hid (Mine slE 1 22 w9 (w10.alloc (.cells #[.slice A' L.length c'] 22)) u22 cps) := Lib.hid ((hm.out.keep k7).keep ((Only.refl [] w10).alloc _))
           have B5 : Hid (Blk (w10.alloc (.cells #[.slice A' L.length c'] 22)) w10.heap.size 22 (slE ⟨A', L.length, c'⟩).toArray) := Lib.hid (Blk.new _ _ _)
           clear h6 g6 a6)
        | (refine wpList_push rfl (.tmp 83) (.tmp 90) 64 rfl 22 _ 24 slE_length (by decide) slE_one Tryd.underlying64 info_sl rfl _ cps.length cps rfl hm7.out.own _ ⟨A', L.length, c'⟩ _ rfl B5.out (by have := hcl.out; unfold maxLen; omega) (by have := hcl.out; omega) ?_
           intro v8 w11 h8 g8 a8))
      have hm8 := Mine.pushed hm7.out h8 g8 a8
      replace g8 : (w10.alloc (.cells #[.slice A' L.length c'] 22)).grownBy w11 u22.ownBlock := g8
      replace a8 : v8.ownBlock = u22.ownBlock ∨ v8.ownBlock = some (w10.alloc (.cells #[.slice A' L.length c'] 22)).heap.size := a8
      have kA : Only [] wr (w10.alloc (.cells #[.slice A' L.length c'] 22)) := k7.alloc _
      have kS : Only (u22.ownBlock).toList (w10.alloc (.cells #[.slice A' L.length c'] 22)) w11 := (Only.refl _ _).grown g8 (fun j hj => .inl (by simp [hj]))
      have hown := fun j (hj : u22.ownBlock = some j) => (hm.out.own.lt j hj).2
      have s1 := kA.size
      have s2 := kS.size
      have s3 := k7.size
      have s4 := hm.out.only.size
      have s5 : (w10.alloc (.cells #[.slice A' L.length c'] 22)).heap.size = w10.heap.size + 1 := by simp
      have hold : ∀ (i : Nat) (x : Sl), (cps ++ [⟨A', L.length, c'⟩])[i]? = some x → cps[i]? = some x ∨ (i = k ∧ x = ⟨A', L.length, c'⟩) := fun i x h => by
        by_cases hi : i < cps.length
        · rw [List.getElem?_append_left hi] at h; exact .inl h
        · rw [List.getElem?_append_right (by omega)] at h
          have : i - cps.length = 0 := by
            cases hz : i - cps.length with
            | zero => rfl
            | succ z => rw [hz] at h; simp at h
          rw [this] at h
          simp at h
          exact .inr ⟨by have := hcl.out; omega, h.symm⟩
      have hMn : Mt w11 q (cps ++ [⟨A', L.length, c'⟩]) Ls := fun i x L' h1 h2 => by
        rcases hold i x h1 with h1 | ⟨rfl, rfl⟩
        · obtain ⟨p1, p2, p3⟩ := hM.out i x L' h1 h2
          exact ⟨p1, (p2.kept kA (by simp)).kept kS (fun a ha => by have := (hap.out i x a h1 ha).1; simpa using this), p3⟩
        · have : L' = L := by rw [hL.out] at h2; injection h2 with h2; exact h2.symm
          subst this
          refine ⟨rfl, (n7.kept ((Only.refl [] w10).alloc _) (by simp)).kept kS (fun a ha => ?_), fun a ha => ?_⟩
          · have g1 := q7 a ha
            have g2 := hown a.block
            simp only [Option.mem_toList]
            intro e
            have := g2 e
            omega
          · have g1 := q7 a ha
            omega
      have hapn : ∀ (i : Nat) (x : Sl) b, (cps ++ [⟨A', L.length, c'⟩])[i]? = some x → x.A = some b → v8.ownBlock ≠ some b.block ∧ w9.heap.size ≤ b.block ∧ b.block < w11.heap.size := fun i x b h1 hb => by
        rcases hold i x h1 with h1 | ⟨rfl, rfl⟩
        · obtain ⟨p1, p2, p3⟩ := hap.out i x b h1 hb
          refine ⟨fun e => ?_, p2, by omega⟩
          rcases a8 with a8 | a8
          · exact p1 (by rw [← a8]; exact e)
          · rw [a8] at e; injection e with e; omega
        · have g1 := q7 b hb
          have g2 := lt7.out b hb
          refine ⟨fun e => ?_, by omega, by omega⟩
          rcases a8 with a8 | a8
          · have := hown b.block (by rw [← a8]; exact e)
            omega
          · rw [a8] at e; injection e with e; omega
      go_roundw
      case rel => exact ⟨k + 1, _, by omega, by go_num, by have := hcl.out; simp; omega, hm8, hMn, hapn⟩
      case measure => simp [intOf]; omega
    · have hk4 : k = 4 := by omega
      have hkI4 : ¬ (k : Int) < 4 := by omega
      replace hk4 := Lib.hid hk4
      have rr := r9.kept hm.only (by simp)
      have kk10 := kk9.trans hm.only
      have hA10 := hb'.out.kept kk10 (by simp)
      have hSame := rsame_yes wr (some ⟨q, 0, none⟩) A (n + 4) c l rr.els hA10 (by have := HN.out; omega)
      rw [← HN.out] at hSame
      have hc10 : ∀ i x, ss[i]? = some x → wr.cell? ⟨g9, i, none⟩ = some (.slice x.A x.n x.c) := fun i x h => hm.only.cell (hcells.out i x h) (by simp)
      have hM10 := hMt9.out.kept hm.only (by simp)
      obtain ⟨A22, c22, rfl, e22, _, l22, _⟩ := hm.shape slE_length
      have hc4 : ((n + 4 : Nat) : Int) = (n : Int) + 4 := by omega
      rw [hcl]
      replace hSame := Lib.hid hSame
      replace hc10 := Lib.hid hc10
      replace hM10 := Lib.hid hM10
      replace hcl := Lib.hid hcl
      replace hM := Lib.hid hM
      replace hap := Lib.hid hap
      clear hA10 hm hk hlt
      obtain ⟨w12, hw12⟩ : ∃ w12, w12 = wr := ⟨_, rfl⟩
      subst hw12
      go_wp2_with fail
      go_loopw [25] (fun i wq => ∃ t : Nat, n ≤ t ∧ t ≤ n + 4 ∧ i = .int .i64 t ∧ w12 = wq) (fun i _ => n + 4 - (intOf i).toNat)
      case atStart => exact ⟨n, Nat.le_refl _, by omega, rfl, rfl⟩
      case round =>
        obtain ⟨t, ht1, ht2, rfl, rfl⟩ := hrel
        by_cases hlt2 : t < n + 4
        · have hti : t < (l ++ List.replicate 4 zeroN).length := by rw [List.length_append, List.length_replicate, ← HN.out]; exact hlt2
          obtain ⟨b0, b1, b2, b3, b4⟩ := nds_at rr.at hti
          rw [spare_at HN.out.symm ht1 hti] at b0 b1 b2 b3 b4
          simp only [zeroN, strOf_nil, Nat.zero_add] at b0 b1 b2 b3 b4
          have hlt3 : (t : Int) < (n : Int) + 4 := by omega
          replace rr := Lib.hid rr
          go_wp2_with (refine wpList_neq_nd zeroN zeroN rfl _ _ _ rfl rfl rfl false (by simp) ?_)
          go_roundw
          case rel => exact ⟨t + 1, by omega, by omega, by go_num, trivial⟩
          case measure => simp [intOf]; omega
        · have hge : ¬ (t : Int) < (n : Int) + 4 := by omega
          go_wp2_with fail
          refine hSame.out.mono ?_; rintro e w13 ⟨rfl, k13⟩
          have rr13 := rr.kept k13 (by simp)
          have kk13 := kk10.trans k13
          clear rr hSame
          go_wp2_with fail
          go_loopw [26] (fun i wq => ∃ (j : Nat) (cur : List Value), j ≤ n ∧ i = .int .i64 j ∧ Blk wq q 28 cur.toArray ∧ cur.length = (n + 4) * 5 ∧ Only [q] w13 wq) (fun i _ => n - (intOf i).toNat)
          case atStart => exact ⟨0, _, by omega, rfl, rr13, by rw [encs_len, List.length_append, List.length_replicate, ← HN.out], Only.refl _ _⟩
          case round =>
            obtain ⟨j, cur, hj, rfl, hB, hcu, hon⟩ := hrel
            by_cases hjn : j < n
            · have hjI : (j : Int) < (n : Int) := by omega
              have cc : ∀ z, z < 5 → ∃ u, _root_.Go.World.cell? wr ⟨q, j * 5 + z, none⟩ = some u := fun z hz => ⟨_, by rw [hB.cell, List.getElem?_toArray]; exact List.getElem?_eq_getElem (by omega)⟩
              obtain ⟨u0, d0⟩ := cc 0 (by omega)
              obtain ⟨u1, d1⟩ := cc 1 (by omega)
              obtain ⟨u2, d2⟩ := cc 2 (by omega)
              obtain ⟨u3, d3⟩ := cc 3 (by omega)
              obtain ⟨u4, d4⟩ := cc 4 (by omega)
              rw [Nat.add_zero] at d0
              have f0 := hB.free (j * 5)
              have f1 := hB.free (j * 5 + 1)
              have f2 := hB.free (j * 5 + 2)
              have f3 := hB.free (j * 5 + 3)
              have f4 := hB.free (j * 5 + 4)
              have hset := Blk.set (Blk.set (Blk.set (Blk.set (Blk.set hB (j * 5) (.int .u32 77)) (j * 5 + 1) (.int .u32 0)) (j * 5 + 2) (.string ⟨#[103, 111, 110, 101]⟩)) (j * 5 + 3) (.bool false)) (j * 5 + 4) (.int .u32 0)
              simp only [List.setIfInBounds_toArray] at hset
              have ho2 := ((((hon.setCell (p := ⟨q, j * 5, none⟩) (.inl (by simp)) (.int .u32 77)).setCell (p := ⟨q, j * 5 + 1, none⟩) (.inl (by simp)) (.int .u32 0)).setCell (p := ⟨q, j * 5 + 2, none⟩) (.inl (by simp)) (.string ⟨#[103, 111, 110, 101]⟩)).setCell (p := ⟨q, j * 5 + 3, none⟩) (.inl (by simp)) (.bool false)).setCell (p := ⟨q, j * 5 + 4, none⟩) (.inl (by simp)) (.int .u32 0)
              replace hset := Lib.hid hset
              replace ho2 := Lib.hid ho2
              replace hcu := Lib.hid hcu
              clear cc hB hon
              go_wp2_with fail
              go_roundw
              case rel => exact ⟨j + 1, _, by omega, by go_num, hset.out, by simp only [List.length_set]; exact hcu.out, ho2.out⟩
              case measure => simp [intOf]; omega
            · have kk14 : Only [] w wr := kk13.then hon (fun i hi => by simp at hi; subst hi; exact .inr hqw)
              have kB : Only [q] w12 wr := (k13.more (by simp)).trans hon
              have hall : ∀ z, z < 4 → ∃ (xA yA : Option Addr) (xc yc : Nat) (L : List Nd) (g22 o22 : Nat), wr.cell? ⟨g9, z, none⟩ = some (.slice xA L.length xc) ∧ A22 = some ⟨g22, o22, none⟩ ∧ wr.cell? ⟨g22, o22 + z, none⟩ = some (.slice yA L.length yc) ∧ Els ndE 5 wr xA L ∧ Els ndE 5 wr yA L ∧ L.length ≤ 1000 := fun z hz => by
                obtain ⟨x, hx⟩ : ∃ x, ss[z]? = some x := ⟨_, List.getElem?_eq_getElem (by have := hs4.out; omega)⟩
                obtain ⟨L, hL⟩ : ∃ L, Ls[z]? = some L := ⟨_, List.getElem?_eq_getElem (by have := hL4.out; omega)⟩
                have hzc : z < cps.length := by have := hcl.out; have := hk4.out; omega
                have hy : cps[z]? = some cps[z] := List.getElem?_eq_getElem hzc
                obtain ⟨p1, p2, p3⟩ := hM10.out z x L hx hL
                obtain ⟨r1, r2, r3⟩ := hM.out z _ L hy hL
                have hcx := kB.cell (hc10.out z x hx) (by simp; omega)
                obtain ⟨g22, o22, hA22, _, hat⟩ := e22.get hzc
                have hgq : g22 ∉ [q] := by have := l22 _ hA22; simp only at this; simp; omega
                have hcy := kB.cell (hat z hzc 0 _ rfl) hgq
                rw [p1] at hcx
                refine ⟨x.A, cps[z].A, x.c, cps[z].c, L, g22, o22, hcx, hA22, ?_, p2.kept kB (fun a ha => by have := p3 a ha; simp; omega), r2.kept kB (fun a ha => by have := r3 a ha; simp; omega), hlen4.out L (List.mem_of_getElem? hL)⟩
                rw [← r1]
                simpa using hcy
              replace hall := Lib.hid hall
              replace kk14 := Lib.hid kk14
              have hk4' := hk4.out
              have hkk : (k : Int) = 4 := by omega
              replace hk4' := Lib.hid hk4'
              replace hkk := Lib.hid hkk
              clear hon kB hB kk13 k13
              obtain ⟨w14, hw14⟩ : ∃ w14, w14 = wr := ⟨_, rfl⟩
              subst hw14
              go_wp2_with fail
              go_loopw [27] (fun i wq => ∃ z m : Nat, z ≤ 4 ∧ i = .int .i64 z ∧ wq = w14.drewN m) (fun i _ => 4 - (intOf i).toNat)
              case atStart => exact ⟨0, 0, by omega, rfl, rfl⟩
              case round =>
                obtain ⟨z, m, hz, rfl, rfl⟩ := hrel
                by_cases hz4 : z < 4
                · obtain ⟨xA, yA, xc, yc, L, g22, o22, d0, rfl, d1, ex, ey, hLl⟩ := hall.out z hz4
                  have hzI : (z : Int) < 4 := by omega
                  have hzk : (z : Int) < (k : Int) := by have := hkk.out; omega
                  have hzz : (0 : Int) ≤ (z : Int) := by omega
                  have hsm : ∀ n', Calls Tryd.prog 28 #[.slice xA L.length xc, .slice yA L.length yc] (w14.drewN (m + n')) (fun e w'' => e = .returned (.bool true) ∧ ∃ n, w'' = w14.drewN (m + n)) := fun n' => by
                    refine (rsame_drew (w14.drewN (m + n')) xA yA xc yc L (ex.kept ((Only.refl [] w14).drewN (m + n')) (by simp)) (ey.kept ((Only.refl [] w14).drewN (m + n')) (by simp)) (by omega)).mono ?_
                    rintro e w'' ⟨h1, m', h2⟩
                    exact ⟨h1, n' + m', by rw [h2, World.drewN_drewN, Nat.add_assoc]⟩
                  replace hsm := Lib.hid hsm
                  clear ex ey
                  go_wp2_with fail
                  go_quiet (exact hsm.out _)
                  go_wp2_with fail
                  go_roundw
                  case rel => exact ⟨z + 1, _, by omega, by go_num, rfl⟩
                  case measure => simp [intOf]; omega
                · have hzI : ¬ (z : Int) < 4 := by omega
                  go_wp2_with fail
                  refine (alive_any _).mono ?_; rintro e w15 ⟨rfl, k15⟩
                  go_wp2
                  go_ret
                  exact ⟨rfl, (kk14.out.drewN m).trans k15⟩
end Go.Proofs.YteiekfccfddmjaaDoor
