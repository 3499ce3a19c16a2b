/- HoldKeeps: what is handed in is neither changed nor kept, and answers are new memory. -/
import Derived.Test.YtnmmdnecojgccaaAlive12
import Derived.Test.YtnmmdnecojgccaaRoom12
namespace Go.Proofs.Ytnmmdnecojgccaa
open Go.RowKit
set_option linter.unusedVariables false

theorem keep_turn (L : Lk) : (turnL L).hs.length ≤ L.hs.length := by unfold turnL; split; exact Nat.le_refl _; exact Nat.zero_le _
theorem keep_join (L : Lk) (c m : Int) : (joinL L c m).1.hs.length ≤ L.hs.length + 1 := by
  unfold joinL
  split
  · exact Nat.le_succ _
  split
  · exact Nat.le_succ_of_le (keep_turn L)
  split
  · exact Nat.le_succ _
  · exact Nat.le_of_eq (ins_length _ _)
theorem keep_ask (L : Lk) (c m : Int) : (askL L c m).1.hs.length ≤ L.hs.length + 1 := by
  unfold askL
  split
  · exact Nat.zero_le _
  split
  · exact Nat.le_succ _
  split
  · exact Nat.le_succ _
  split
  · exact Nat.le_succ _
  · have h1 := keep_join (withL L (withoutH L.hs c)) c m
    have h2 := (without_sub L.hs c).length_le
    simp only [withL] at h1 ⊢
    omega
theorem keep_return (L : Lk) (c e : Int) : (returnL L c e).1.hs.length ≤ L.hs.length + 1 := by
  unfold returnL
  split
  · exact Nat.zero_le _
  · have h2 := (without_sub L.hs c).length_le
    simp only
    split
    · simp only [withL]; omega
    · omega
theorem keep_settle (L : Lk) (e s : Int) : (settleL L e s).1.hs.length ≤ L.hs.length + 1 := by
  unfold settleL
  split
  · exact Nat.zero_le _
  · simp only
    split
    · exact Nat.le_succ _
    · exact Nat.le_succ _
theorem keep_shrink (L : Lk) (s : Int) : (shrinkL L s).1.hs.length ≤ L.hs.length + 1 := by
  unfold shrinkL
  split
  · exact Nat.zero_le _
  · exact Nat.le_succ _

/-- A lock, and where its holders lie. -/
structure Lv where
  L : Lk
  A : Option Addr
  c : Nat
def lvE (x : Lv) : List Value := [.int .u32 x.L.file, .int .u32 x.L.epoch, .int .u32 x.L.used, .int .u32 x.L.cut, .bool x.L.fenced, .bool x.L.gone, .slice x.A x.L.hs.length x.c]
theorem lvE_length (x : Lv) : (lvE x).length = 7 := rfl
theorem lvE_one (x : Lv) : ∀ v ∈ lvE x, v.oneCell' = true := by
  intro v hv
  simp [lvE] at hv
  rcases hv with rfl | rfl | rfl | rfl | rfl | rfl | rfl <;> rfl
theorem info_lk : (Try.prog.info? 25).map (fun i => (i.zero, i.size, i.bytes)) = some (some (.agg #[.int .u32 0, .int .u32 0, .int .u32 0, .int .u32 0, .bool false, .bool false, .slice none 0 0]), 7, 48) := by kernel_rfl
theorem lvs_at {w : World} {g o : Nat} {l : List Lv} (h : ElsAt lvE 7 w g o l) {i : Nat} (hi : i < l.length) :
    w.cell? ⟨g, o + i * 7, none⟩ = some (.int .u32 l[i].L.file) ∧ w.cell? ⟨g, o + i * 7 + 1, none⟩ = some (.int .u32 l[i].L.epoch) ∧ w.cell? ⟨g, o + i * 7 + 2, none⟩ = some (.int .u32 l[i].L.used) ∧ w.cell? ⟨g, o + i * 7 + 3, none⟩ = some (.int .u32 l[i].L.cut) ∧ w.cell? ⟨g, o + i * 7 + 4, none⟩ = some (.bool l[i].L.fenced) ∧ w.cell? ⟨g, o + i * 7 + 5, none⟩ = some (.bool l[i].L.gone) ∧ w.cell? ⟨g, o + i * 7 + 6, none⟩ = some (.slice l[i].A l[i].L.hs.length l[i].c) :=
  ⟨by simpa using h i hi 0 _ rfl, h i hi 1 _ rfl, h i hi 2 _ rfl, h i hi 3 _ rfl, h i hi 4 _ rfl, h i hi 5 _ rfl, h i hi 6 _ rfl⟩
theorem els_of_blk {α : Type} {enc : α → List Value} {k : Nat} {w : World} {g : Nat} {t : TypeId} {l : List α} (hk : ∀ x, (enc x).length = k) (h : Blk w g t (encs enc l).toArray) : Els enc k w (some ⟨g, 0, none⟩) l := by
  refine .inr ⟨g, 0, rfl, h.lt, fun i hi j v hv => ?_⟩
  have h0 := encs_at hk l i hi j v hv
  have hc : w.cell? ⟨g, i * k + j, none⟩ = (encs enc l).toArray[i * k + j]? := Blk.cell h _
  rw [Nat.zero_add, hc, List.getElem?_toArray]
  exact h0
/-- A lock that lies apart from block q. -/
structure Good (q : Nat) (W : World) (x : Lv) : Prop where
  els : Els holE 2 W x.A x.L.hs
  far : ∀ a, x.A = some a → q < a.block
  few : x.L.hs.length ≤ 101
theorem Good.kept {q : Nat} {W W' : World} {x : Lv} (h : Good q W x) (k : Only [] W W') : Good q W' x := ⟨h.els.kept k (by simp), h.far, h.few⟩
theorem Good.turned {q : Nat} {W W' : World} {x : Lv} (h : Good q W x) (k : Only [q] W W') : Good q W' x := ⟨h.els.kept k (fun a ha => by have := h.far a ha; simp; omega), h.far, h.few⟩
theorem Good.beside {q p : Nat} {W W' : World} {x : Lv} (h : Good q W x) (k : Only [p] W W') (hp : W.heap.size ≤ p) : Good q W' x := by
  refine ⟨?_, h.far, h.few⟩
  rcases h.els with h0 | ⟨g, o, h1, h2, h3⟩
  · exact .inl h0
  · exact .inr ⟨g, o, h1, Nat.lt_of_lt_of_le h2 k.size, h3.kept k (by simp; omega)⟩
theorem Mine.beside {w w1 w2 : World} {v : Value} {l : List Lv} {p : Nat} (h : Mine lvE 7 25 w w1 v l) (k : Only [p] w1 w2) (hp : w.heap.size ≤ p) (hv : ∀ g, v.ownBlock = some g → g ≠ p) : Mine lvE 7 25 w w2 v l :=
  ⟨ownsRow_kept' h.own k (fun g e => by simpa using hv g e), h.new, h.only.far k hp⟩

theorem elsAt_of_blk {α : Type} {enc : α → List Value} {k : Nat} {w : World} {g : Nat} {t : TypeId} {l : List α} (hk : ∀ x, (enc x).length = k) (h : Blk w g t (encs enc l).toArray) : ElsAt enc k w g 0 l := fun i hi j v hv => by
  have h0 := encs_at hk l i hi j v hv
  have hc : w.cell? ⟨g, i * k + j, none⟩ = (encs enc l).toArray[i * k + j]? := Blk.cell h _
  rw [Nat.zero_add, hc, List.getElem?_toArray]
  exact h0
theorem copied2 {w w' : World} {v : Value} {n r : Nat} {l : List Hol} (hr : w.heap.size = r) (hn : n = l.length) (h : w'.ownsRow 0 47 2 v (0 + n) (encs holE ([] ++ l))) (hg : (w.alloc (.cells #[] 47)).grownBy w' (some r)) (ha : v.ownBlock = some r ∨ v.ownBlock = some (w.alloc (.cells #[] 47)).heap.size) :
    ∃ A c, v = .slice A n c ∧ Els holE 2 w' A l ∧ Only [] w w' ∧ ∀ a, A = some a → r ≤ a.block := by
  subst hr
  exact copied hn h hg ha
theorem alloc_size2 (w : World) (o : Obj) : (w.alloc o).heap.size = w.heap.size + 1 := by simp
theorem set_size (w : World) (p : Addr) (v : Value) : (w.setCell p v).heap.size = w.heap.size := by simp [World.setCell]
theorem RoomB.rowB' {w : World} {q : Nat} {L : List Hol} (h : RoomB w q L) (hl : L.length ≤ 1000) : RowB w q L.length L :=
  ⟨_, [], h, Nat.le_refl _, by unfold maxLen; omega, by rw [List.size_toArray]; exact encs_length holE_length L, by simp⟩
/-- Apart from a growing list, too. -/
def Far (v : Value) (x : Lv) : Prop := x.L.hs = [] ∨ ∀ a, x.A = some a → v.ownBlock ≠ some a.block
theorem Good.push {q : Nat} {W W' : World} {v v' : Value} {x : Lv} (h : Good q W x) (h2 : Far v x) (g : W.grownBy W' v.ownBlock) (h3 : v'.ownBlock = v.ownBlock ∨ v'.ownBlock = some W.heap.size) : Good q W' x ∧ Far v' x := by
  have k := only_own g
  rcases h.els with h0 | ⟨b, o, h1, hb, hat⟩
  · exact ⟨⟨.inl h0, h.far, h.few⟩, .inl h0⟩
  · rcases h2 with h0 | h2
    · exact ⟨⟨.inl h0, h.far, h.few⟩, .inl h0⟩
    · have hn := h2 _ h1
      refine ⟨⟨.inr ⟨b, o, h1, Nat.lt_of_lt_of_le hb k.size, hat.kept k (fun hm => hn (by simpa using hm))⟩, h.far, h.few⟩, .inr fun a ha => ?_⟩
      rw [h1] at ha
      injection ha with ha
      subst ha
      rcases h3 with h3 | h3
      · rw [h3]; exact hn
      · rw [h3]
        intro he
        injection he with he
        simp only at he
        omega

set_option maxRecDepth 100000 in
set_option maxHeartbeats 8000000 in
theorem holdKeeps_walk (w : World) (L : Lk) (A : Option Addr) (c : Nat) (cl m s : Int) (hb : Els holE 2 w A L.hs) (hl : L.hs.length ≤ 9223372036854775807) (he : 0 ≤ L.epoch ∧ L.epoch ≤ 4294967295) :
    Calls Try.prog 7 #[lkV L (.slice A L.hs.length c), .int .u32 cl, .int .u32 m, .int .u32 s] w fun e w' => e = .returned (.bool true) ∧ Only [] w w' := by
  have h1 := fun W B cb (h : Els holE 2 W B L.hs) => ask_any W L B cb cl m h hl he
  have h2 := fun W B cb (h : Els holE 2 W B L.hs) => return_any W L B cb cl L.epoch h hl he
  have h3 := fun W B cb (h : Els holE 2 W B L.hs) => settle_any W L B cb L.epoch s h hl he
  have h4 := fun W B cb (h : Els holE 2 W B L.hs) => shrink_any W L B cb s h hl he
  have n1 := keep_ask L cl m
  have n2 := keep_return L cl L.epoch
  have n3 := keep_settle L L.epoch s
  have n4 := keep_shrink L s
  generalize askL L cl m = R1 at *
  generalize returnL L cl L.epoch = R2 at *
  generalize settleL L L.epoch s = R3 at *
  generalize shrinkL L s = R4 at *
  obtain ⟨J1, r1a, r1b⟩ := R1
  obtain ⟨J2, r2⟩ := R2
  obtain ⟨J3, r3⟩ := R3
  obtain ⟨J4, r4⟩ := R4
  simp only at n1 n2 n3 n4
  have hS := fun W B d (hB : Els holE 2 W B L.hs) (hA : Els holE 2 W A L.hs) (hf : L.hs.length ≤ 1024) => rsame_yes W L B A d c hB hA hf
  obtain ⟨f, ep, u, ct, fe, go, l⟩ := L
  have k0 := (Only.refl [] w).alloc (.cells #[.int .u32 f, .int .u32 ep, .int .u32 u, .int .u32 ct, .bool fe, .bool go, .slice A l.length c] 25)
  have b0 := Lx.new w f ep u ct fe go l (.slice A l.length c)
  simp only at hb hl he n1 n2 n3 n4 hS
  simp only [lkV] at h1 h2 h3 h4 hS ⊢
  have hb' := Lib.hid hb
  obtain ⟨n, hn⟩ : ∃ n, n = l.length := ⟨_, rfl⟩
  have HN := Lib.hid hn
  rw [← hn] at h1 h2 h3 h4 hS n1 n2 n3 n4 hl b0 k0 ⊢
  clear hn
  replace h1 := Lib.hid h1
  replace h2 := Lib.hid h2
  replace h3 := Lib.hid h3
  replace h4 := Lib.hid h4
  replace hS := Lib.hid hS
  go_enter Try.func7, Try.ntmps7
  go_wp2_with fail
  refine (alive_any _).mono ?_; rintro e w1 ⟨rfl, k1'⟩
  have k1 := k0.trans k1'
  have b1 := b0.kept k1' (by simp)
  obtain ⟨c0, c1, c2, c3, c4, c5, c6⟩ := b1.at (Only.refl [] _) (by simp)
  clear b0 k0 k1'
  by_cases h100 : (100 : Int) < (n : Int)
  · have d100 : decide ((100 : Int) < (n : Int)) = true := decide_eq_true h100
    go_wp2_with fail
    refine (alive_any _).mono ?_; rintro e wz ⟨rfl, kz⟩
    go_wp2
    go_ret
    exact ⟨rfl, k1.trans kz⟩
  have d100 : decide ((100 : Int) < (n : Int)) = false := decide_eq_false h100
  have hl100 : n ≤ 100 := by omega
  replace h100 := Lib.hid h100
  have hA1 := hb.kept k1 (by simp)
  clear hb
  -- room: its box and its row
  have k2 := ((Only.refl [] w1).alloc (.cells #[.int .u32 f, .int .u32 ep, .int .u32 u, .int .u32 ct, .bool fe, .bool go, .slice (some ⟨w1.heap.size + 1, 0, none⟩) n (n + 3)] 25)).alloc (.cells (encs holE (List.replicate (n + 3) zeroH)).toArray 47)
  have p2 := (Lx.new w1 f ep u ct fe go l (.slice (some ⟨w1.heap.size + 1, 0, none⟩) n (n + 3))).alloc (.cells (encs holE (List.replicate (n + 3) zeroH)).toArray 47)
  have b2 := Blk.new (w1.alloc (.cells #[.int .u32 f, .int .u32 ep, .int .u32 u, .int .u32 ct, .bool fe, .bool go, .slice (some ⟨w1.heap.size + 1, 0, none⟩) n (n + 3)] 25)) 47 (encs holE (List.replicate (n + 3) zeroH)).toArray
  rw [show (w1.alloc (.cells #[.int .u32 f, .int .u32 ep, .int .u32 u, .int .u32 ct, .bool fe, .bool go, .slice (some ⟨w1.heap.size + 1, 0, none⟩) n (n + 3)] 25)).heap.size = w1.heap.size + 1 by simp] at b2
  have hA2 := hA1.kept k2 (by simp)
  have hfit : n * 2 ≤ (encs holE (List.replicate (n + 3) zeroH)).length := by rw [encs_length holE_length, List.length_replicate]; omega
  have hrep := room_spare n
  obtain ⟨Zc, hZ⟩ : ∃ Zc, Zc = encs holE (List.replicate (n + 3) zeroH) := ⟨_, rfl⟩
  rw [← hZ] at k2 b2 hA2 hfit hrep p2
  replace hZ := Lib.hid hZ
  replace hrep := Lib.hid hrep
  have b12 := b1.kept k2 (by simp)
  have hq1 : w.heap.size < w1.heap.size := b1.lt
  have hw3 : IntKind.i64.wrap ((n : Int) + 3) = (n : Int) + 3 := by simp only [IntKind.wrap, IntKind.bits, IntKind.signed]; simp; omega
  go_wp2_with (first
    | (refine wpList_make_room rfl (.tmp 37) (.tmp 41) rfl _ _ n (n + 3) rfl rfl rfl (by omega) (by omega) (by omega) ?_
       rw [← hZ.out])
    | (refine wpList_copy_els holE_length holE_one rfl (.tmp 45) (.tmp 47) 23 23 rfl 47 Try.underlying23 (by kernel_rfl) (w1.heap.size + 1) n (n + 3) c A l HN.out rfl rfl hA2 (by decide) Zc _ b2 hfit ?_
       intro w3 b3 k3
       have b13 := Lx.kept b12 k3 (by simp; omega)
       have p3 := Lx.kept p2 k3 (by simp)
       obtain ⟨m0, m1, m2, m3, m4, m5, m6⟩ := Lx.at p3 (Only.refl [] _) (by simp)))
  rw [hrep.out, ← encs_append] at b3
  obtain ⟨p, hp⟩ : ∃ p, p = w1.heap.size := ⟨_, rfl⟩
  have k13 : Only [] w1 w3 := k2.then k3 (by
    intro i hi
    simp at hi
    subst hi
    exact .inr (by omega))
  rw [← hp] at b3 k3 p3 m0 m1 m2 m3 m4 m5 m6 hq1 ⊢
  have r3 : RoomB w3 (p + 1) (l ++ List.replicate 3 zeroH) := b3
  have kk3 := k1.trans k13
  have hpw : w.heap.size ≤ p := by omega
  have hq3 : p + 1 < w3.heap.size := Blk.lt r3
  replace hp := Lib.hid hp
  clear k2 b2 hA2 hfit hrep k3 k13 hA1 hZ b12 p2 b3 b1 c0 c1 c2 c3 c4 c5 c6 hw3
  refine (h1.out _ _ _ r3.els).mono ?_; rintro e u1 ⟨vv, rfl, m⟩
  simp only at m
  obtain ⟨B1, d1, rfl, el, _, far, _⟩ := m.shape
  have gu : Good (p + 1) u1 ⟨J1, B1, d1⟩ := ⟨el, fun a ha => by have := (far a ha).resolve_left (by simp); omega, by simp only; omega⟩
  have p3u := Lx.kept p3 m.only (by simp)
  have b13u := Lx.kept b13 m.only (by simp)
  have r3u := r3.kept m.only (by simp)
  have kku := kk3.trans m.only
  have hqu : p + 1 < u1.heap.size := Nat.lt_of_lt_of_le hq3 m.only.size
  clear p3 b13 r3 kk3 hq3 el far m0 m1 m2 m3 m4 m5 m6
  clear m
  go_wp2_with (refine wpList_store_lk J1 noL (.slice B1 J1.hs.length d1) _ rfl rfl _ _ rfl u1.heap.size rfl rfl (Lx.zero u1) ?_; intro v1 x1 kv'; have kv := laid kv'; have g1 := Good.kept gu kv; have p3 := Lx.kept p3u kv (by simp); have b13 := Lx.kept b13u kv (by simp); have r3 := RoomB.kept r3u kv (by simp); have kk3 := kku.trans kv; have hq3 : p + 1 < v1.heap.size := Nat.lt_of_lt_of_le hqu kv.size; clear kv' kv; obtain ⟨m0, m1, m2, m3, m4, m5, m6⟩ := Lx.at p3 (Only.refl [] _) (by simp); have o1 := (Lx.at b13 (Only.refl [] _) (by simp)).2.1)
  clear gu p3u b13u r3u kku hqu
  refine (h2.out _ _ _ r3.els).mono ?_; rintro e u2 ⟨vv, rfl, m⟩
  simp only at m
  obtain ⟨B2, d2, rfl, el, _, far, _⟩ := m.shape
  have gu : Good (p + 1) u2 ⟨J2, B2, d2⟩ := ⟨el, fun a ha => by have := (far a ha).resolve_left (by simp); omega, by simp only; omega⟩
  have g1u := g1.kept m.only
  have x1u := Lx.kept x1 m.only (by simp)
  have p3u := Lx.kept p3 m.only (by simp)
  have b13u := Lx.kept b13 m.only (by simp)
  have r3u := r3.kept m.only (by simp)
  have kku := kk3.trans m.only
  have hqu : p + 1 < u2.heap.size := Nat.lt_of_lt_of_le hq3 m.only.size
  clear p3 b13 r3 kk3 hq3 el far g1 x1 m0 m1 m2 m3 m4 m5 m6 o1
  clear m
  go_wp2_with (refine wpList_store_lk J2 noL (.slice B2 J2.hs.length d2) _ rfl rfl _ _ rfl u2.heap.size rfl rfl (Lx.zero u2) ?_; intro v2 x2 kv'; have kv := laid kv'; have g2 := Good.kept gu kv; have g1 := Good.kept g1u kv; have x1 := Lx.kept x1u kv (by simp); have p3 := Lx.kept p3u kv (by simp); have b13 := Lx.kept b13u kv (by simp); have r3 := RoomB.kept r3u kv (by simp); have kk3 := kku.trans kv; have hq3 : p + 1 < v2.heap.size := Nat.lt_of_lt_of_le hqu kv.size; clear kv' kv; obtain ⟨m0, m1, m2, m3, m4, m5, m6⟩ := Lx.at p3 (Only.refl [] _) (by simp); have o1 := (Lx.at b13 (Only.refl [] _) (by simp)).2.1)
  clear gu p3u b13u r3u kku hqu g1u x1u
  refine (h3.out _ _ _ r3.els).mono ?_; rintro e u3 ⟨vv, rfl, m⟩
  simp only at m
  obtain ⟨B3, d3, rfl, el, _, far, _⟩ := m.shape
  have gu : Good (p + 1) u3 ⟨J3, B3, d3⟩ := ⟨el, fun a ha => by have := (far a ha).resolve_left (by simp); omega, by simp only; omega⟩
  have g1u := g1.kept m.only
  have x1u := Lx.kept x1 m.only (by simp)
  have g2u := g2.kept m.only
  have x2u := Lx.kept x2 m.only (by simp)
  have p3u := Lx.kept p3 m.only (by simp)
  have b13u := Lx.kept b13 m.only (by simp)
  have r3u := r3.kept m.only (by simp)
  have kku := kk3.trans m.only
  have hqu : p + 1 < u3.heap.size := Nat.lt_of_lt_of_le hq3 m.only.size
  clear p3 b13 r3 kk3 hq3 el far g1 x1 g2 x2 m0 m1 m2 m3 m4 m5 m6 o1
  clear m
  go_wp2_with (refine wpList_store_lk J3 noL (.slice B3 J3.hs.length d3) _ rfl rfl _ _ rfl u3.heap.size rfl rfl (Lx.zero u3) ?_; intro v3 x3 kv'; have kv := laid kv'; have g3 := Good.kept gu kv; have g1 := Good.kept g1u kv; have x1 := Lx.kept x1u kv (by simp); have g2 := Good.kept g2u kv; have x2 := Lx.kept x2u kv (by simp); have p3 := Lx.kept p3u kv (by simp); have b13 := Lx.kept b13u kv (by simp); have r3 := RoomB.kept r3u kv (by simp); have kk3 := kku.trans kv; have hq3 : p + 1 < v3.heap.size := Nat.lt_of_lt_of_le hqu kv.size; clear kv' kv; obtain ⟨m0, m1, m2, m3, m4, m5, m6⟩ := Lx.at p3 (Only.refl [] _) (by simp); have o1 := (Lx.at b13 (Only.refl [] _) (by simp)).2.1)
  clear gu p3u b13u r3u kku hqu g1u x1u g2u x2u
  refine (h4.out _ _ _ r3.els).mono ?_; rintro e u4 ⟨vv, rfl, m⟩
  simp only at m
  obtain ⟨B4, d4, rfl, el, _, far, _⟩ := m.shape
  have gu : Good (p + 1) u4 ⟨J4, B4, d4⟩ := ⟨el, fun a ha => by have := (far a ha).resolve_left (by simp); omega, by simp only; omega⟩
  have g1u := g1.kept m.only
  have x1u := Lx.kept x1 m.only (by simp)
  have g2u := g2.kept m.only
  have x2u := Lx.kept x2 m.only (by simp)
  have g3u := g3.kept m.only
  have x3u := Lx.kept x3 m.only (by simp)
  have p3u := Lx.kept p3 m.only (by simp)
  have b13u := Lx.kept b13 m.only (by simp)
  have r3u := r3.kept m.only (by simp)
  have kku := kk3.trans m.only
  have hqu : p + 1 < u4.heap.size := Nat.lt_of_lt_of_le hq3 m.only.size
  clear p3 b13 r3 kk3 hq3 el far g1 x1 g2 x2 g3 x3 m0 m1 m2 m3 m4 m5 m6 o1
  clear m
  go_wp2_with (refine wpList_store_lk J4 noL (.slice B4 J4.hs.length d4) _ rfl rfl _ _ rfl u4.heap.size rfl rfl (Lx.zero u4) ?_; intro v4 x4 kv'; have kv := laid kv'; have g4 := Good.kept gu kv; have g1 := Good.kept g1u kv; have x1 := Lx.kept x1u kv (by simp); have g2 := Good.kept g2u kv; have x2 := Lx.kept x2u kv (by simp); have g3 := Good.kept g3u kv; have x3 := Lx.kept x3u kv (by simp); have p3 := Lx.kept p3u kv (by simp); have b13 := Lx.kept b13u kv (by simp); have r3 := RoomB.kept r3u kv (by simp); have kk3 := kku.trans kv; have hq3 : p + 1 < v4.heap.size := Nat.lt_of_lt_of_le hqu kv.size; clear kv' kv; obtain ⟨m0, m1, m2, m3, m4, m5, m6⟩ := Lx.at p3 (Only.refl [] _) (by simp); have o1 := (Lx.at b13 (Only.refl [] _) (by simp)).2.1; obtain ⟨ca0, ca1, ca2, ca3, ca4, ca5, ca6⟩ := Lx.cells x1; obtain ⟨cb0, cb1, cb2, cb3, cb4, cb5, cb6⟩ := Lx.cells x2; obtain ⟨cc0, cc1, cc2, cc3, cc4, cc5, cc6⟩ := Lx.cells x3; obtain ⟨cd0, cd1, cd2, cd3, cd4, cd5, cd6⟩ := Lx.cells x4)
  clear gu p3u b13u r3u kku hqu g1u x1u g2u x2u g3u x3u
  clear ca0 ca1 ca2 ca3 ca4 ca5 ca6 cb0 cb1 cb2 cb3 cb4 cb5 cb6 cc0 cc1 cc2 cc3 cc4 cc5 cc6 cd0 cd1 cd2 cd3 cd4 cd5 cd6 m0 m1 m2 m3 m4 m5 m6 o1
  obtain ⟨AL, hALd⟩ : ∃ AL : List Lv, AL = [⟨J1, B1, d1⟩, ⟨J2, B2, d2⟩, ⟨J3, B3, d3⟩, ⟨J4, B4, d4⟩] := ⟨_, rfl⟩
  have bq : Blk (v4.alloc (.cells (encs lvE AL).toArray 25)) v4.heap.size 25 (encs lvE AL).toArray := Blk.new _ _ _
  have hce : (encs lvE AL).toArray = #[.int .u32 J1.file, .int .u32 J1.epoch, .int .u32 J1.used, .int .u32 J1.cut, .bool J1.fenced, .bool J1.gone, .slice B1 J1.hs.length d1, .int .u32 J2.file, .int .u32 J2.epoch, .int .u32 J2.used, .int .u32 J2.cut, .bool J2.fenced, .bool J2.gone, .slice B2 J2.hs.length d2, .int .u32 J3.file, .int .u32 J3.epoch, .int .u32 J3.used, .int .u32 J3.cut, .bool J3.fenced, .bool J3.gone, .slice B3 J3.hs.length d3, .int .u32 J4.file, .int .u32 J4.epoch, .int .u32 J4.used, .int .u32 J4.cut, .bool J4.fenced, .bool J4.gone, .slice B4 J4.hs.length d4] := by rw [hALd]; rfl
  have kq : Only [] v4 (v4.alloc (.cells (encs lvE AL).toArray 25)) := (Only.refl [] v4).alloc _
  have hAl4 : AL.length = 4 := by rw [hALd]; rfl
  have gAL : ∀ y ∈ AL, Good (p + 1) v4 y := fun y hy => by
    rw [hALd] at hy
    simp only [List.mem_cons, List.not_mem_nil, or_false] at hy
    rcases hy with rfl | rfl | rfl | rfl
    · exact g1
    · exact g2
    · exact g3
    · exact g4
  rw [← hce]
  generalize hw5 : v4.alloc (.cells (encs lvE AL).toArray 25) = w5 at bq kq ⊢
  have hAt := elsAt_of_blk lvE_length bq
  have g5 : Hid (∀ y ∈ AL, Good (p + 1) w5 y) := fun y hy => (gAL y hy).kept kq
  have p5 := Lx.kept p3 kq (by simp)
  have b15 := Lx.kept b13 kq (by simp)
  have r5 := RoomB.kept r3 kq (by simp)
  have kk5 := kk3.trans kq
  have hq5 : p + 1 < w5.heap.size := Nat.lt_of_lt_of_le hq3 kq.size
  have hz5 : v4.heap.size < w5.heap.size := bq.lt
  generalize v4.heap.size = z at *
  replace hw5 := Lib.hid hw5
  replace hce := Lib.hid hce
  replace hALd := Lib.hid hALd
  replace hAt := Lib.hid hAt
  have hzq : p + 1 < z := hq3
  replace hzq := Lib.hid hzq
  clear g1 g2 g3 g4 x1 x2 x3 x4 p3 b13 r3 kk3 hq3 gAL kq bq h1 h2 h3 h4
  go_loopw [20, 21] (fun v a wr => ∃ (t : Nat) (WL : List Lv), t ≤ 4 ∧ a = .int .i64 t ∧ WL.length = t ∧ Mine lvE 7 25 w5 wr v WL ∧ Hid (∀ (j : Nat) (x y : Lv), WL[j]? = some x → AL[j]? = some y → x.L = y.L ∧ Good (p + 1) wr x ∧ Far v x)) (fun _ a _ => 4 - (intOf a).toNat)
  case atStart => exact ⟨0, [], by omega, rfl, rfl, Mine.start _ _ _ (Only.refl _ _), fun j x y hx => by simp at hx⟩
  case round =>
    obtain ⟨t, WL, ht, rfl, hWl, hm, hgood⟩ := hrel
    have k5 := hm.only
    have p6 := Lx.kept p5 k5 (by simp)
    have b6 := Lx.kept b15 k5 (by simp)
    by_cases htl : t < 4
    · have hti : t < AL.length := by omega
      obtain ⟨e0, e1, e2, e3, e4, e5, e6⟩ := lvs_at (hAt.out.kept k5 (by simp)) hti
      have hy : AL[t]? = some AL[t] := List.getElem?_eq_getElem hti
      have hgy := (g5.out _ (List.getElem_mem hti)).kept k5
      generalize AL[t] = y at *
      obtain ⟨⟨yf, ye, yu, yc, yfe, ygo, yl⟩, yA, yd⟩ := y
      simp only [Nat.zero_add] at e0 e1 e2 e3 e4 e5 e6
      have hyl : yl.length ≤ 101 := hgy.few
      have hye : Els holE 2 wr yA yl := hgy.els
      have hzr : z < wr.heap.size := Nat.lt_of_lt_of_le hz5 k5.size
      have hz1 : ¬ z = wr.heap.size := by omega
      have hz2 : ¬ z = wr.heap.size + 1 := by omega
      have hz3 : z < wr.heap.size + 1 := by omega
      replace hy := Lib.hid hy
      have kA := (Only.refl [] wr).alloc (.cells #[.int .u32 yf, .int .u32 ye, .int .u32 yu, .int .u32 yc, .bool yfe, .bool ygo, .slice yA yl.length yd] 25)
      have xA := Lx.new wr yf ye yu yc yfe ygo yl (.slice yA yl.length yd)
      have sA := alloc_size2 wr (.cells #[.int .u32 yf, .int .u32 ye, .int .u32 yu, .int .u32 yc, .bool yfe, .bool ygo, .slice yA yl.length yd] 25)
      have own0 : ((wr.alloc (.cells #[.int .u32 yf, .int .u32 ye, .int .u32 yu, .int .u32 yc, .bool yfe, .bool ygo, .slice yA yl.length yd] 25)).alloc (.cells #[] 47)).ownsRow 0 47 2 (.slice (some ⟨wr.heap.size + 1, 0, none⟩) 0 0) 0 (encs holE []) := by
        have h := own_empty (k := 2) (Blk.new (wr.alloc (.cells #[.int .u32 yf, .int .u32 ye, .int .u32 yu, .int .u32 yc, .bool yfe, .bool ygo, .slice yA yl.length yd] 25)) 47 #[])
        rw [sA] at h
        exact h
      have src0 := hye.kept (kA.alloc (.cells #[] 47)) (by simp)
      have hvlt : ∀ g, Value.ownBlock u20 = some g → g < wr.heap.size := fun g hg => (hm.own.lt g hg).2
      replace own0 := Lib.hid own0
      replace src0 := Lib.hid src0
      replace hye := Lib.hid hye
      have mA := Lib.hid (hm.keep kA)
      have xA' := Lib.hid xA
      have sA' := Lib.hid sA
      have kA' := Lib.hid kA
      clear kA xA sA hgy
      go_wp2_with (at_builtin; first
        | (refine wpList_append_any holE_length (by decide) holE_one rfl (.tmp 94) (.tmp 99) 23 rfl 47 _ 8 Try.underlying23 info_hol rfl _ 0 [] rfl own0.out yA yd yl rfl src0.out (by unfold maxLen; omega) (by omega) ?_
           intro vv w6 h6 q6 a6
           obtain ⟨Bx, fx, rfl, zx, k6, tx⟩ := copied2 sA'.out rfl h6 q6 a6
           have x6 := Lx.kept xA'.out k6 (by simp)
           obtain ⟨m0, m1, m2, m3, m4, m5, m6⟩ := Lx.at x6 (Only.refl [] _) (by simp)
           have f6 := Blk.free x6 6
           have zx' := Lib.hid zx
           have tx' := Lib.hid tx
           have k6' := Lib.hid k6
           have mB := Lib.hid (mA.out.keep k6)
           have kS : Only [wr.heap.size] w6 (w6.setCell ⟨wr.heap.size, 6, none⟩ (.slice Bx yl.length fx)) := (Only.refl _ _).setCell (.inl (by simp)) _
           have mC := Lib.hid (Mine.beside mB.out kS (by have := k5.size; omega) (fun g hg => by have := hvlt g hg; omega))
           have kS' := Lib.hid kS
           have mD := Lib.hid (mC.out.keep ((Only.refl [] _).alloc (.cells #[.int .u32 yf, .int .u32 ye, .int .u32 yu, .int .u32 yc, .bool yfe, .bool ygo, .slice Bx yl.length fx] 25)))
           have bD := Lib.hid (show Blk ((w6.setCell ⟨wr.heap.size, 6, none⟩ (.slice Bx yl.length fx)).alloc (.cells #[.int .u32 yf, .int .u32 ye, .int .u32 yu, .int .u32 yc, .bool yfe, .bool ygo, .slice Bx yl.length fx] 25)) w6.heap.size 25 (lvE ⟨⟨yf, ye, yu, yc, yfe, ygo, yl⟩, Bx, fx⟩).toArray from by
             have h := Blk.new (w6.setCell ⟨wr.heap.size, 6, none⟩ (.slice Bx yl.length fx)) 25 #[.int .u32 yf, .int .u32 ye, .int .u32 yu, .int .u32 yc, .bool yfe, .bool ygo, .slice Bx yl.length fx]
             rw [set_size] at h
             exact h)
           clear h6 q6 a6 x6 zx tx k6 kS)
        | (go_must (refine wpList_push rfl (.tmp 102) (.tmp 104) 50 rfl 25 _ 48 lvE_length (by decide) lvE_one Try.underlying50 info_lk rfl _ WL.length WL rfl mD.out.own w6.heap.size ⟨⟨yf, ye, yu, yc, yfe, ygo, yl⟩, Bx, fx⟩ _ rfl bD.out (by unfold maxLen; omega) (by omega) ?_)
           intro v8 w8 h8 q8 a8
           have hm8 := Lib.hid (mD.out.pushed h8 q8 a8)
           have q8' := Lib.hid q8
           have a8' := Lib.hid a8
           clear h8 q8 a8))
      have hgn : Hid (∀ (j : Nat) (x y : Lv), (WL ++ [⟨⟨yf, ye, yu, yc, yfe, ygo, yl⟩, Bx, fx⟩])[j]? = some x → AL[j]? = some y → x.L = y.L ∧ Good (p + 1) w8 x ∧ Far v8 x) := fun j x y' hx hy' => by
        have kD : Only [] wr ((w6.setCell ⟨wr.heap.size, 6, none⟩ (.slice Bx yl.length fx)).alloc (.cells #[.int .u32 yf, .int .u32 ye, .int .u32 yu, .int .u32 yc, .bool yfe, .bool ygo, .slice Bx yl.length fx] 25)) := ((kA'.out.trans k6'.out).far kS'.out (Nat.le_refl _)).alloc _
        by_cases hj : j < WL.length
        · rw [List.getElem?_append_left hj] at hx
          obtain ⟨h1, h2, h3⟩ := hgood.out j x y' hx hy'
          exact ⟨h1, Good.push (h2.kept kD) h3 q8'.out a8'.out⟩
        · have hjt : j = t := by
            have := (List.getElem?_eq_some_iff.1 hx).1
            simp at this
            omega
          subst hjt
          rw [List.getElem?_append_right (by omega), show j - WL.length = 0 by omega] at hx
          simp only [List.getElem?_cons_zero, Option.some.injEq] at hx
          subst hx
          rw [hy.out] at hy'
          injection hy' with hy'
          subst hy'
          have hgx : Good (p + 1) w6 ⟨⟨yf, ye, yu, yc, yfe, ygo, yl⟩, Bx, fx⟩ := ⟨zx'.out, fun a ha => by have := tx'.out a ha; have := k5.size; omega, hyl⟩
          have hgx2 : Good (p + 1) (w6.setCell ⟨wr.heap.size, 6, none⟩ (.slice Bx yl.length fx)) ⟨⟨yf, ye, yu, yc, yfe, ygo, yl⟩, Bx, fx⟩ := ⟨zx'.out.kept kS'.out (fun a ha => by have := tx'.out a ha; simp only [List.mem_singleton]; omega), hgx.far, hyl⟩
          exact ⟨rfl, Good.push (hgx2.kept ((Only.refl [] _).alloc _)) (.inr fun a ha he => by have := hvlt _ he; have := tx'.out a ha; omega) q8'.out a8'.out⟩
      replace hgn := Lib.hid hgn.out
      clear mA mB mC mD bD own0 src0 hgood
      go_roundw
      case rel => exact ⟨t + 1, WL ++ [⟨⟨yf, ye, yu, yc, yfe, ygo, yl⟩, Bx, fx⟩], by omega, by go_num, by simp; omega, hm8.out, hgn⟩
      case measure => simp [intOf]; omega
    · obtain rfl : t = 4 := by omega
      have hW4 : WL.length = 4 := hWl
      obtain ⟨Aw, cw, rfl, elw, _, hwn, _⟩ := hm.shape lvE_length
      have r6 := r5.kept k5 (by simp)
      have kk6 := kk5.trans k5
      have hbA := hb'.out.kept kk6 (by simp)
      have hSm := hS.out wr (some ⟨p + 1, 0, none⟩) (n + 3) r6.els hbA (by have := HN.out; omega)
      obtain ⟨m0, m1, m2, m3, m4, m5, m6⟩ := Lx.at p6 (Only.refl [] _) (by simp)
      obtain ⟨c0, c1, c2, c3, c4, c5, c6⟩ := Lx.at b6 (Only.refl [] _) (by simp)
      have hAt6 := Lib.hid (hAt.out.kept k5 (by simp))
      have g6 := Lib.hid (show ∀ y ∈ AL, Good (p + 1) wr y from fun y hy => (g5.out y hy).kept k5)
      have hzw := Lib.hid (show ∀ a, Aw = some a → p + 1 < a.block from fun a ha => by have := hwn a ha; omega)
      have elw' := Lib.hid elw
      have hq6 : p + 1 < wr.heap.size := Nat.lt_of_lt_of_le hq5 k5.size
      have hzp := Lib.hid (show z ≠ p + 1 by have := hzq.out; omega)
      rw [hW4]
      replace hSm := Lib.hid hSm
      replace hAl4 := Lib.hid hAl4
      replace hW4 := Lib.hid hW4
      clear hm elw hwn p5 b15 r5 kk5 hAt g5 hbA htl hWl ht
      go_wp2_with fail
      refine hSm.out.mono ?_; rintro e w9 ⟨rfl, k9⟩
      have r9 := r6.kept k9 (by simp)
      have p9 := Lx.kept p6 k9 (by simp)
      have kk9 := kk6.trans k9
      have hAt9 := Lib.hid (hAt6.out.kept k9 (by simp))
      have g9 := Lib.hid (show ∀ y ∈ AL, Good (p + 1) w9 y from fun y hy => (g6.out y hy).kept k9)
      have el9 := Lib.hid (elw'.out.kept k9 (by simp))
      have hgood9 : Hid (∀ (j : Nat) (x y : Lv), WL[j]? = some x → AL[j]? = some y → x.L = y.L ∧ Good (p + 1) w9 x) := fun j x y hx hy => by
        obtain ⟨h1, h2, _⟩ := hgood.out j x y hx hy
        exact ⟨h1, h2.kept k9⟩
      have hq9 : p + 1 < w9.heap.size := Nat.lt_of_lt_of_le hq6 k9.size
      clear m0 m1 m2 m3 m4 m5 m6 c0 c1 c2 c3 c4 c5 c6 r6 p6 b6 kk6 hAt6 g6 elw' hgood hSm hq6 k9
      obtain ⟨m0, m1, m2, m3, m4, m5, m6⟩ := Lx.at p9 (Only.refl [] _) (by simp)
      go_wp2_with fail
      go_loopw [24] (fun i wq => ∃ t : Nat, n ≤ t ∧ t ≤ n + 3 ∧ i = .int .i64 t ∧ w9 = wq) (fun i _ => n + 3 - (intOf i).toNat)
      case atStart => exact ⟨n, Nat.le_refl _, by omega, rfl, rfl⟩
      case round =>
        obtain ⟨t, ht1, ht2, rfl, rfl⟩ := hrel
        by_cases hlt2 : t < n + 3
        · have hti : t < (l ++ List.replicate 3 zeroH).length := by rw [List.length_append, List.length_replicate, ← HN.out]; exact hlt2
          obtain ⟨b0, b1⟩ := hols_at r9.at hti
          rw [spare_at HN.out.symm ht1 hti] at b0 b1
          simp only [zeroH, Nat.zero_add] at b0 b1
          have hlt3 : (t : Int) < (n : Int) + 3 := by omega
          replace r9 := Lib.hid r9
          go_wp2_with fail
          go_roundw
          case rel => exact ⟨t + 1, by omega, by omega, by go_num, by trivial⟩
          case measure => simp [intOf]; omega
        · have hge : ¬ (t : Int) < (n : Int) + 3 := by omega
          have hll : (l ++ List.replicate 3 zeroH).length = n + 3 := by rw [List.length_append, List.length_replicate, ← HN.out]
          have rB := r9.rowB' (by rw [hll]; omega)
          rw [hll] at rB
          replace hll := Lib.hid hll
          clear r9
          go_wp2_with fail
          go_loopw [25] (fun i wq => ∃ (j : Nat) (M : List Hol), j ≤ n ∧ i = .int .i64 j ∧ RowB wq (p + 1) (n + 3) M ∧ Hid (M.length = n + 3) ∧ Only [p + 1] w9 wq) (fun i _ => n - (intOf i).toNat)
          case atStart => exact ⟨0, _, by omega, rfl, rB, hll, Only.refl _ _⟩
          case round =>
            clear rB m0 m1 m2 m3 m4 m5 m6
            obtain ⟨j, M, hj, rfl, hB, hMl, hon⟩ := hrel
            obtain ⟨m0, m1, m2, m3, m4, m5, m6⟩ := Lx.at p9 hon (by simp)
            by_cases hjn : j < n
            · have hjM : j < M.length := by have := hMl.out; omega
              have hjI : (j : Int) < (n : Int) := by omega
              have hMl' : Hid ((M.set j ⟨99, 9⟩).length = n + 3) := by rw [List.length_set]; exact hMl
              go_wp2_with (refine wpList_store_row rfl _ _ rfl (p + 1) j (n + 3) M ⟨99, 9⟩ rfl rfl hB hjM ?_; intro w10 r10 k10)
              go_roundw
              case rel => exact ⟨j + 1, _, by omega, by go_num, r10, hMl', hon.trans k10⟩
              case measure => simp [intOf]; omega
            · have kk10 : Only [] w wr := kk9.then hon (fun i hi => by simp at hi; subst hi; exact .inr (by omega))
              have hAt10 := Lib.hid (hAt9.out.kept hon (by simp only [List.mem_singleton]; exact hzp.out))
              have g10 := Lib.hid (show ∀ y ∈ AL, Good (p + 1) wr y from fun y hy => (g9.out y hy).turned hon)
              have el10 := Lib.hid (el9.out.kept hon (fun a ha => by have := hzw.out a ha; simp only [List.mem_singleton]; omega))
              have hgood10 : Hid (∀ (j : Nat) (x y : Lv), WL[j]? = some x → AL[j]? = some y → x.L = y.L ∧ Good (p + 1) wr x) := fun j x y hx hy => by
                obtain ⟨h1, h2⟩ := hgood9.out j x y hx hy
                exact ⟨h1, h2.turned hon⟩
              clear hAt9 g9 el9 hgood9 hB hon
              obtain ⟨wo, hwo⟩ : ∃ wo, wo = wr := ⟨_, rfl⟩
              rw [← hwo] at kk10 hAt10 g10 el10 hgood10 m0 m1 m2 m3 m4 m5 m6 ⊢
              clear hwo
              go_wp2_with fail
              go_loopw [26] (fun i wq => ∃ t : Nat, t ≤ 4 ∧ i = .int .i64 t ∧ Only [] wo wq) (fun i _ => 4 - (intOf i).toNat)
              case atStart => exact ⟨0, by omega, rfl, Only.refl _ _⟩
              case round =>
                clear m0 m1 m2 m3 m4 m5 m6
                obtain ⟨t, ht, rfl, hk⟩ := hrel
                by_cases htl : t < 4
                · have hta : t < AL.length := by have := hAl4.out; omega
                  have htw : t < WL.length := by have := hW4.out; omega
                  obtain ⟨gw, ow, hAw, _, hatw⟩ := el10.out.get htw
                  obtain ⟨hLL, hgx⟩ := hgood10.out t WL[t] AL[t] (List.getElem?_eq_getElem htw) (List.getElem?_eq_getElem hta)
                  have hgy := g10.out AL[t] (List.getElem_mem hta)
                  have ca := fun W (k : Only [] wr W) => lvs_at (hAt10.out.kept (hk.trans k) (by simp)) hta
                  have cw' := fun W (k : Only [] wr W) => lvs_at (hatw.kept (hk.trans k) (by simp)) htw
                  generalize AL[t] = y at *
                  generalize WL[t] = x at *
                  obtain ⟨yL, yA, yd⟩ := y
                  obtain ⟨xL, xA, xd⟩ := x
                  simp only at hLL ca cw'
                  subst hLL
                  have hSx := fun W (k : Only [] wr W) => rsame_yes W xL yA xA yd xd ((hgy.kept (hk.trans k)).els) ((hgx.kept (hk.trans k)).els) (by have := hgy.few; simp only at this; omega)
                  obtain ⟨lf, le, lu, lc, lfe, lgo, ll⟩ := xL
                  simp only [lkV] at hSx
                  simp only [Nat.zero_add] at ca cw'
                  subst hAw
                  replace hSx := Lib.hid hSx
                  have KP : Hid (∀ w', Only [] wr w' → (w'.cell? ⟨z, t * 7, none⟩ = some (.int .u32 lf) ∧ w'.cell? ⟨z, t * 7 + 1, none⟩ = some (.int .u32 le) ∧ w'.cell? ⟨z, t * 7 + 2, none⟩ = some (.int .u32 lu) ∧ w'.cell? ⟨z, t * 7 + 3, none⟩ = some (.int .u32 lc) ∧ w'.cell? ⟨z, t * 7 + 4, none⟩ = some (.bool lfe) ∧ w'.cell? ⟨z, t * 7 + 5, none⟩ = some (.bool lgo) ∧ w'.cell? ⟨z, t * 7 + 6, none⟩ = some (.slice yA ll.length yd)) ∧ (w'.cell? ⟨gw, ow + t * 7, none⟩ = some (.int .u32 lf) ∧ w'.cell? ⟨gw, ow + t * 7 + 1, none⟩ = some (.int .u32 le) ∧ w'.cell? ⟨gw, ow + t * 7 + 2, none⟩ = some (.int .u32 lu) ∧ w'.cell? ⟨gw, ow + t * 7 + 3, none⟩ = some (.int .u32 lc) ∧ w'.cell? ⟨gw, ow + t * 7 + 4, none⟩ = some (.bool lfe) ∧ w'.cell? ⟨gw, ow + t * 7 + 5, none⟩ = some (.bool lgo) ∧ w'.cell? ⟨gw, ow + t * 7 + 6, none⟩ = some (.slice xA ll.length xd))) := fun w' kk => ⟨ca w' kk, cw' w' kk⟩
                  clear ca cw' hgx hgy hatw
                  go_wp2_with fail
                  refine wp_region_held_drew (S := fun w' => (w'.cell? ⟨z, t * 7, none⟩ = some (.int .u32 lf) ∧ w'.cell? ⟨z, t * 7 + 1, none⟩ = some (.int .u32 le) ∧ w'.cell? ⟨z, t * 7 + 2, none⟩ = some (.int .u32 lu) ∧ w'.cell? ⟨z, t * 7 + 3, none⟩ = some (.int .u32 lc) ∧ w'.cell? ⟨z, t * 7 + 4, none⟩ = some (.bool lfe) ∧ w'.cell? ⟨z, t * 7 + 5, none⟩ = some (.bool lgo) ∧ w'.cell? ⟨z, t * 7 + 6, none⟩ = some (.slice yA ll.length yd)) ∧ (w'.cell? ⟨gw, ow + t * 7, none⟩ = some (.int .u32 lf) ∧ w'.cell? ⟨gw, ow + t * 7 + 1, none⟩ = some (.int .u32 le) ∧ w'.cell? ⟨gw, ow + t * 7 + 2, none⟩ = some (.int .u32 lu) ∧ w'.cell? ⟨gw, ow + t * 7 + 3, none⟩ = some (.int .u32 lc) ∧ w'.cell? ⟨gw, ow + t * 7 + 4, none⟩ = some (.bool lfe) ∧ w'.cell? ⟨gw, ow + t * 7 + 5, none⟩ = some (.bool lgo) ∧ w'.cell? ⟨gw, ow + t * 7 + 6, none⟩ = some (.slice xA ll.length xd))) (by kernel_rfl) (KP.out _ (Only.refl _ _).drew) (fun hHeld => ?_)
                  refine held_take 0 (.slice (some ⟨z, 0, none⟩) 4 4) rfl (by kernel_rfl) (by kernel_rfl) (by kernel_rfl) (fun _ _ _ h => h) hHeld (Or.inl ⟨by rfl, fun w' hSw => by (try dsimp only at hSw); (try subst hSw); go_simp⟩) ?_
                  simp only [Act.put, List.setIfInBounds_toArray, List.set_cons_zero, List.set_cons_succ]
                  refine held_take 1 (.int .i64 t) rfl (by kernel_rfl) (by kernel_rfl) (by kernel_rfl) (fun _ _ _ h => h) hHeld (Or.inl ⟨by rfl, fun w' hSw => by (try dsimp only at hSw); (try subst hSw); go_simp⟩) ?_
                  simp only [Act.put, List.setIfInBounds_toArray, List.set_cons_zero, List.set_cons_succ]
                  refine held_take 2 (.pointer (some ⟨z, t * 7, none⟩)) rfl (by kernel_rfl) (by kernel_rfl) (by kernel_rfl) (fun _ _ _ h => h) hHeld (Or.inl ⟨by rfl, fun w' hSw => by (try dsimp only at hSw); (try subst hSw); go_simp⟩) ?_
                  simp only [Act.put, List.setIfInBounds_toArray, List.set_cons_zero, List.set_cons_succ]
                  refine held_take 3 (.agg #[.int .u32 lf, .int .u32 le, .int .u32 lu, .int .u32 lc, .bool lfe, .bool lgo, .slice yA ll.length yd]) rfl (by kernel_rfl) (by kernel_rfl) (by kernel_rfl) (fun _ _ _ h => h) hHeld (Or.inl ⟨by rfl, fun w' hSw => by (try dsimp only at hSw); (try subst hSw); go_simp⟩) ?_
                  simp only [Act.put, List.setIfInBounds_toArray, List.set_cons_zero, List.set_cons_succ]
                  refine held_take 4 (.slice (some ⟨gw, ow, none⟩) 4 cw) rfl (by kernel_rfl) (by kernel_rfl) (by kernel_rfl) (fun _ _ _ h => h) hHeld (Or.inl ⟨by rfl, fun w' hSw => by (try dsimp only at hSw); (try subst hSw); go_simp⟩) ?_
                  simp only [Act.put, List.setIfInBounds_toArray, List.set_cons_zero, List.set_cons_succ]
                  refine held_take 5 (.int .i64 t) rfl (by kernel_rfl) (by kernel_rfl) (by kernel_rfl) (fun _ _ _ h => h) hHeld (Or.inl ⟨by rfl, fun w' hSw => by (try dsimp only at hSw); (try subst hSw); go_simp⟩) ?_
                  simp only [Act.put, List.setIfInBounds_toArray, List.set_cons_zero, List.set_cons_succ]
                  refine held_take 6 (.pointer (some ⟨gw, ow + t * 7, none⟩)) rfl (by kernel_rfl) (by kernel_rfl) (by kernel_rfl) (fun _ _ _ h => h) hHeld (Or.inl ⟨by rfl, fun w' hSw => by (try dsimp only at hSw); (try subst hSw); go_simp⟩) ?_
                  simp only [Act.put, List.setIfInBounds_toArray, List.set_cons_zero, List.set_cons_succ]
                  refine held_take 7 (.agg #[.int .u32 lf, .int .u32 le, .int .u32 lu, .int .u32 lc, .bool lfe, .bool lgo, .slice xA ll.length xd]) rfl (by kernel_rfl) (by kernel_rfl) (by kernel_rfl) (fun _ _ _ h => h) hHeld (Or.inl ⟨by rfl, fun w' hSw => by (try dsimp only at hSw); (try subst hSw); go_simp⟩) ?_
                  simp only [Act.put, List.setIfInBounds_toArray, List.set_cons_zero, List.set_cons_succ]
                  refine held_step 8 rfl (by kernel_rfl) (fun K hK => ?_)
                  go_simp
                  refine (hSx.out _ (Only.refl _ _).drew).mono ?_; rintro e w11 ⟨rfl, k11⟩; replace k11 := k11.undrew
                  go_wp2_with fail
                  refine hK.out _ _ (KP.out _ k11) (fun hHeld => ?_)
                  clear hK K
                  refine held_take 9 (.bool false) rfl (by kernel_rfl) (by kernel_rfl) (by kernel_rfl) (fun _ _ _ h => h) hHeld (Or.inl ⟨by rfl, fun w' hSw => by (try dsimp only at hSw); (try subst hSw); go_simp⟩) ?_
                  simp only [Act.put, List.setIfInBounds_toArray, List.set_cons_zero, List.set_cons_succ]
                  refine wpAnyH_done (by kernel_rfl) ?_ _
                  clear hHeld
                  clear KP
                  go_wp2_with fail
                  go_roundw
                  case rel => exact ⟨t + 1, by omega, by go_num, hk.trans k11⟩
                  case measure => simp [intOf]; omega
                · go_wp2_with fail
                  refine (alive_any _).mono ?_; rintro e wz ⟨rfl, kz⟩
                  go_wp2
                  go_ret
                  exact ⟨rfl, (kk10.trans hk).trans kz⟩
end Go.Proofs.Ytnmmdnecojgccaa
