/- Whether a lock, a work, a seat may be. -/
import Derived.Test.YtalkhhjfplahkaaGreatKM
import Derived.Test.YtalkhhjfplahkaaGreatKF
namespace Go.Proofs.YtalkhhjfplahkaaGreat
open Go.RowKit

theorem lockR_iff {l : Lk} : LockR l ↔ 1 < l.file ∧ RightK l ∧ l.hs.any (fun h => !(h.client == 0) && !cliB h.client) = false := by
  rw [List.any_eq_false]
  constructor
  · intro r
    refine ⟨r.above, r.right, fun h hh => ?_⟩
    rcases r.each h hh with e | e <;> simp [e]
  · rintro ⟨a, b, c⟩
    refine ⟨a, b, fun h hh => ?_⟩
    have := c h hh
    simp only [Bool.and_eq_true, Bool.not_eq_true', beq_eq_false_iff_ne, ne_eq, not_and, Bool.not_eq_false] at this
    by_cases e : h.client = 0
    · exact .inl e
    · exact .inr (this e)

set_option maxRecDepth 100000 in
set_option maxHeartbeats 4000000 in
theorem lockRight_any (w : World) (L : Lk) (A : Option Addr) (c : Nat) (hb : Els holE 2 w A L.hs) (hl : L.hs.length ≤ 1048576) (hf : L.Fit) : Calls Tryz.prog 56 #[lkV L (.slice A L.hs.length c)] w fun e w' => Says (LockR L) e ∧ Only [] w w' := by
  have k0 := (Only.refl [] w).alloc (.cells #[.int .u32 L.file, .int .u32 L.epoch, .int .u32 L.used, .int .u32 L.cut, .bool L.fenced, .bool L.gone, .slice A L.hs.length c] 45)
  have bx := Lx.new w L.file L.epoch L.used L.cut L.fenced L.gone L.hs (.slice A L.hs.length c)
  have KB := fun W kW => bx.at (S := []) (w' := W) kW (by simp)
  have hR := fun W (kW : Only [] w W) => right_hold W L A c (hb.kept kW (by simp)) (by omega)
  have hC := fun W (kW : Only [] w W) => contains_hol W A c L.hs (fun h => !(h.client == 0) && !cliB h.client) (hb.kept kW (by simp)) (by omega) (fun V _ x hx => strangeH_w V x (hf.hs x hx))
  have hiff := lockR_iff (l := L)
  generalize L.hs.any (fun h => !(h.client == 0) && !cliB h.client) = b2 at *
  obtain ⟨b1, hb1⟩ : ∃ b, decide (RightK L) = b := ⟨_, rfl⟩
  rw [hb1] at hR
  have hi2 : Hid (LockR L ↔ (1 < L.file ∧ b1 = true ∧ b2 = false)) := by
    unfold Hid
    rw [hiff, ← hb1, decide_eq_true_iff]
  clear hiff hb1 hf hb bx
  generalize LockR L = R at *
  obtain ⟨f, e, u, k, fe, go, l⟩ := L
  simp only [lkV] at k0 KB hR hC hi2 ⊢
  replace hR := Lib.hid hR
  replace hC := Lib.hid hC
  have KP := Lib.hid KB
  obtain ⟨c0, c1, c2, c3, c4, c5, c6⟩ := KB _ (Only.refl _ _)
  clear KB hl
  by_cases hf : 1 < f
  · have d1 : decide (1 < f) = true := decide_eq_true hf
    go_enter Tryz.func56, Tryz.ntmps56
    go_wp2_with fail
    refine (hR.out _ k0).mono ?_; rintro e w2 ⟨rfl, k2⟩
    clear c0 c1 c2 c3 c4 c5 c6
    obtain ⟨c0, c1, c2, c3, c4, c5, c6⟩ := KP.out _ k2
    cases b1 with
    | false =>
      go_wp2
      go_ret
      exact ⟨Says.no (by rw [hi2.out]; simp), k0.trans k2⟩
    | true =>
      go_wp2_with fail
      refine (hC.out _ (k0.trans k2)).mono ?_; rintro e w3 ⟨rfl, k3⟩
      go_wp2
      go_ret
      exact ⟨⟨_, rfl, by rw [hi2.out]; cases b2 <;> simp [hf]⟩, (k0.trans k2).trans k3⟩
  · have d1 : decide (1 < f) = false := decide_eq_false hf
    go_enter Tryz.func56, Tryz.ntmps56
    go_wp2
    go_ret
    exact ⟨Says.no (by rw [hi2.out]; rintro ⟨h, _⟩; omega), k0⟩

set_option maxRecDepth 100000 in
set_option maxHeartbeats 4000000 in
theorem workRight_any (w : World) (x : Wk) (hf : x.Fit) (hl : x.data.length ≤ 1048576) : Calls Tryz.prog 57 #[wkV x] w fun e w' => Says (WorkR x) e ∧ Only [] w w' := by
  have k0 := (Only.refl [] w).alloc (.cells #[.int .u32 x.file, .int .u32 x.client, .int .u32 x.life, .int .u32 x.seq, .int .i64 x.code, .int .u32 x.off, .int .u32 x.len, .string (strOf x.data)] 50)
  have hC := fun W => isClient_any W x.client hf.client.1
  have n1 : cliB x.client = false → ¬ WorkR x := fun e r => by rw [r.client] at e; cases e
  have n2 : ¬ 1 ≤ x.len → ¬ WorkR x := fun e r => e r.low
  have n3 : ¬ x.len ≤ 64 → ¬ WorkR x := fun e r => e r.high
  have n4 : ¬ x.off + x.len ≤ 1024 → ¬ WorkR x := fun e r => e r.sum
  have n5 : x.code = 23 → ¬ x.data = [] → ¬ WorkR x := fun e k r => by rcases r.data with ⟨_, h⟩ | ⟨h, _⟩; exact k h; omega
  have n6 : x.code = 24 → ¬ (x.data.length : Int) = x.len → ¬ WorkR x := fun e k r => by rcases r.data with ⟨h, _⟩ | ⟨_, h⟩; omega; exact k h
  have n7 : ¬ x.code = 23 → ¬ x.code = 24 → ¬ WorkR x := fun e k r => by rcases r.data with ⟨h, _⟩ | ⟨h, _⟩; exact e h; exact k h
  have yes : cliB x.client = true → 1 ≤ x.len → x.len ≤ 64 → x.off + x.len ≤ 1024 → ((x.code = 23 ∧ x.data = []) ∨ (x.code = 24 ∧ (x.data.length : Int) = x.len)) → WorkR x := fun a b c d e => ⟨a, b, c, d, e⟩
  have u1 := hf.off
  have u2 := hf.len
  unfold U at u1 u2
  generalize cliB x.client = b1 at *
  generalize WorkR x = R at *
  clear hf
  obtain ⟨f, cl, li, sq, co, off, len, data⟩ := x
  have hsz : (strOf data).size = data.length := strOf_size data
  simp only [wkV] at k0 hC n1 n2 n3 n4 n5 n6 n7 yes u1 u2 hl ⊢
  replace hC := Lib.hid hC
  replace n1 := Lib.hid n1
  replace n2 := Lib.hid n2
  replace n3 := Lib.hid n3
  replace n4 := Lib.hid n4
  replace n5 := Lib.hid n5
  replace n6 := Lib.hid n6
  replace n7 := Lib.hid n7
  replace yes := Lib.hid yes
  have a1 : 0 ≤ len := u2.1
  have a2 : len ≤ 4294967295 := u2.2
  have a3 : 0 ≤ off := u1.1
  have a4 : off ≤ 4294967295 := u1.2
  clear u1 u2
  cases b1 with
  | false =>
    have hn := Lib.hid (n1.out rfl)
    clear yes
    go_enter Tryz.func57, Tryz.ntmps57
    go_wp2_with fail
    refine (hC.out _).mono ?_; rintro e w1 ⟨rfl, rfl⟩
    go_wp2
    go_ret
    exact ⟨Says.no hn.out, k0⟩
  | true =>
  by_cases h1 : len < 1
  · have hn := Lib.hid (n2.out (by omega))
    have d1 : decide (len < 1) = true := decide_eq_true h1
    clear yes
    go_enter Tryz.func57, Tryz.ntmps57
    go_wp2_with fail
    refine (hC.out _).mono ?_; rintro e w1 ⟨rfl, rfl⟩
    go_wp2
    go_ret
    exact ⟨Says.no hn.out, k0⟩
  have d1 : decide (len < 1) = false := decide_eq_false h1
  by_cases h2 : 64 < len
  · have hn := Lib.hid (n3.out (by omega))
    have d2 : decide (64 < len) = true := decide_eq_true h2
    clear yes
    go_enter Tryz.func57, Tryz.ntmps57
    go_wp2_with fail
    refine (hC.out _).mono ?_; rintro e w1 ⟨rfl, rfl⟩
    go_wp2
    go_ret
    exact ⟨Says.no hn.out, k0⟩
  have d2 : decide (64 < len) = false := decide_eq_false h2
  have hwr : IntKind.u64.wrap (off + len) = off + len := by simp only [IntKind.wrap, IntKind.bits, IntKind.signed]; simp; omega
  have hwo : IntKind.u64.wrap off = off := by simp only [IntKind.wrap, IntKind.bits, IntKind.signed]; simp; omega
  have hwl : IntKind.u64.wrap len = len := by simp only [IntKind.wrap, IntKind.bits, IntKind.signed]; simp; omega
  by_cases h3 : 1024 < off + len
  · have hn := Lib.hid (n4.out (by omega))
    have d3 : decide (1024 < off + len) = true := decide_eq_true h3
    clear yes
    go_enter Tryz.func57, Tryz.ntmps57
    go_wp2_with fail
    refine (hC.out _).mono ?_; rintro e w1 ⟨rfl, rfl⟩
    go_wp2
    go_ret
    exact ⟨Says.no hn.out, k0⟩
  have d3 : decide (1024 < off + len) = false := decide_eq_false h3
  have hli : IntKind.i64.wrap len = len := by simp only [IntKind.wrap, IntKind.bits, IntKind.signed]; simp; omega
  by_cases h4 : co = 23
  · subst h4
    by_cases h5 : data = []
    · subst h5
      have hy := Lib.hid (yes.out rfl (by omega) (by omega) (by omega) (.inl ⟨rfl, rfl⟩))
      go_enter Tryz.func57, Tryz.ntmps57
      go_wp2_with fail
      refine (hC.out _).mono ?_; rintro e w1 ⟨rfl, rfl⟩
      go_wp2
      go_ret
      exact ⟨⟨_, rfl, by simp [hy.out, strOf]⟩, k0⟩
    · have hn := Lib.hid (n5.out rfl h5)
      have hb := beq_toList data []
      have hb2 : (data == ([] : List UInt8)) = false := by simpa using h5
      rw [hb2, strOf_nil] at hb
      clear yes hb2
      replace h5 := Lib.hid h5
      go_enter Tryz.func57, Tryz.ntmps57
      go_wp2_with fail
      refine (hC.out _).mono ?_; rintro e w1 ⟨rfl, rfl⟩
      go_wp2
      go_ret
      exact ⟨⟨_, rfl, by simp [hn.out]; rw [show (strOf data).toList = data from ByteArray.toList_mk _]; exact h5.out⟩, k0⟩
  have d4 : (co == 23) = false := by simpa using h4
  by_cases h5 : co = 24
  · subst h5
    by_cases h6 : (data.length : Int) = len
    · have hy := Lib.hid (yes.out rfl (by omega) (by omega) (by omega) (.inr ⟨rfl, h6⟩))
      have d6 : (((strOf data).size : Int) == len) = true := by rw [hsz]; simpa using h6
      go_enter Tryz.func57, Tryz.ntmps57
      go_wp2_with fail
      refine (hC.out _).mono ?_; rintro e w1 ⟨rfl, rfl⟩
      go_wp2
      go_ret
      exact ⟨⟨_, rfl, by simp [hy.out]⟩, k0⟩
    · have hn := Lib.hid (n6.out rfl h6)
      have d6 : (((strOf data).size : Int) == len) = false := by rw [hsz]; simpa using h6
      clear yes
      go_enter Tryz.func57, Tryz.ntmps57
      go_wp2_with fail
      refine (hC.out _).mono ?_; rintro e w1 ⟨rfl, rfl⟩
      go_wp2
      go_ret
      exact ⟨⟨_, rfl, by simp [hn.out, h6]⟩, k0⟩
  have d5 : (co == 24) = false := by simpa using h5
  have hn := Lib.hid (n7.out h4 h5)
  clear yes
  go_enter Tryz.func57, Tryz.ntmps57
  go_wp2_with fail
  refine (hC.out _).mono ?_; rintro e w1 ⟨rfl, rfl⟩
  go_wp2
  go_ret
  exact ⟨Says.no hn.out, k0⟩

theorem sea_range {w : World} {g : Nat} {t : TypeId} {x : Sea} (h : Blk w g t (seaA x)) : w.rangeAt g 1 (pkA x.pk).toList := fun j v hj => by
  rw [Nat.add_comm 1 j, h.cell]
  match j, hj with
  | 0, hj | 1, hj | 2, hj | 3, hj | 4, hj | 5, hj | 6, hj | 7, hj | 8, hj | 9, hj | 10, hj | 11, hj | 12, hj | 13, hj | 14, hj | 15, hj | 16, hj | 17, hj | 18, hj | 19, hj => exact hj
theorem Only.beyond {w w1 w2 : World} {p : Nat} (h : Only [] w w1) (k : Only [p] w1 w2) (hp : w.heap.size ≤ p) : Only [] w w2 := h.then k (by intro i hi; simp at hi; subst hi; exact .inr hp)
theorem str_empty (s : ByteArray) : (s.toList == (⟨#[]⟩ : ByteArray).toList) = decide (s = ⟨#[]⟩) := by
  rw [Bool.eq_iff_iff, beq_iff_eq, decide_eq_true_iff, list_same]

set_option maxRecDepth 100000 in
set_option maxHeartbeats 8000000 in
theorem seatRight_any (w : World) (x : Sea) (hf : x.Fit) : Calls Tryz.prog 58 #[seaV x] w fun e w' => Says (SeatR x) e ∧ Only [] w w' := by
  have k0 := (Only.refl [] w).alloc (.cells (seaA x) 56)
  have hC := fun W => isClient_any W x.client hf.client.1
  have hR := fun W => right_pk W x.pk
  have bx : Blk (w.alloc (.cells (seaA x) 56)) w.heap.size 56 (seaA x) := Blk.new _ _ _
  have hu := hf.client
  unfold U at hu
  have n1 : cliB x.client = false → ¬ SeatR x := fun e r => by rw [r.client] at e; cases e
  have n2 : decide x.pk.Right = false → ¬ SeatR x := fun e r => by rw [decide_eq_true r.right] at e; cases e
  have n3 : ¬ x.pk.kind = 2 → ¬ SeatR x := fun e r => e r.kind
  have n4 : ¬ x.pk.to = x.client → ¬ SeatR x := fun e r => e r.dst
  have n5 : ¬ x.pk.path = ⟨#[]⟩ → ¬ SeatR x := fun e r => e r.path
  have n6 : ¬ x.pk.other = ⟨#[]⟩ → ¬ SeatR x := fun e r => e r.other
  have n7 : ¬ x.pk.data.size ≤ 108 → ¬ SeatR x := fun e r => e r.data
  have yes : cliB x.client = true → decide x.pk.Right = true → x.pk.kind = 2 → x.pk.to = x.client → x.pk.path = ⟨#[]⟩ → x.pk.other = ⟨#[]⟩ → x.pk.data.size ≤ 108 → SeatR x := fun a b c d e f g => ⟨a, of_decide_eq_true b, c, d, e, f, g⟩
  generalize cliB x.client = b1 at *
  generalize decide x.pk.Right = b2 at *
  generalize SeatR x = R at *
  replace hC := Lib.hid hC
  replace hR := Lib.hid hR
  replace n1 := Lib.hid n1
  replace n2 := Lib.hid n2
  replace n3 := Lib.hid n3
  replace n4 := Lib.hid n4
  replace n5 := Lib.hid n5
  replace n6 := Lib.hid n6
  replace n7 := Lib.hid n7
  replace yes := Lib.hid yes
  have hli : IntKind.i64.wrap x.client = x.client := by simp only [IntKind.wrap, IntKind.bits, IntKind.signed]; simp; omega
  clear hf
  have b2x : Blk ((w.alloc (.cells (seaA x) 56)).alloc (.cells (pkA zPk) 54)) (w.heap.size + 1) 54 (pkA zPk) := by
    have := Blk.new (w.alloc (.cells (seaA x) 56)) 54 (pkA zPk)
    simpa using this
  have k2 := k0.alloc (.cells (pkA zPk) 54)
  have b1x := bx.alloc (.cells (pkA zPk) 54)
  have KP : Hid (∀ V W, Blk V (w.heap.size + 1) 54 (pkA x.pk) → Only [w.heap.size + 1] ((w.alloc (.cells (seaA x) 56)).alloc (.cells (pkA zPk) 54)) V → Only [] V W → W.cell? ⟨w.heap.size, 0, none⟩ = some (.int .u32 x.client) ∧ W.cell? ⟨w.heap.size + 1, 0, none⟩ = some (.int .i64 x.pk.kind) ∧ W.cell? ⟨w.heap.size + 1, 2, none⟩ = some (.int .i64 x.pk.to) ∧ W.cell? ⟨w.heap.size + 1, 17, none⟩ = some (.string x.pk.path) ∧ W.cell? ⟨w.heap.size + 1, 18, none⟩ = some (.string x.pk.other) ∧ W.cell? ⟨w.heap.size + 1, 19, none⟩ = some (.string x.pk.data)) := fun V W hb h1 h2 => by
    obtain ⟨p0, p1, p2, p3, p4, p5, p6, p7, p8, p9, p10, p11, p12, p13, p14, p15, p16, p17, p18, p19⟩ := pk_cells (hb.kept h2 (by simp))
    have c0 := (Blk.kept (Blk.kept b1x h1 (by simp)) h2 (by simp)).cell 0
    exact ⟨c0, p0, p2, p17, p18, p19⟩
  have KO : Hid (∀ V W, Only [w.heap.size + 1] ((w.alloc (.cells (seaA x) 56)).alloc (.cells (pkA zPk) 54)) V → Only [] V W → Only [] w W) := fun V W h1 h2 => (k2.beyond h1 (by omega)).trans h2
  obtain ⟨cl, pk⟩ := x
  have hbx := sea_range bx
  replace hbx := Lib.hid hbx
  replace b2x := Lib.hid b2x
  simp only at hC hR n3 n4 n5 n6 n7 yes hli
  clear hu bx b1x k0 k2
  go_enter Tryz.func58, Tryz.ntmps58
  go_wp2_with (first | refine wpList_load_at (by rfl) 54 _ rfl w.heap.size 1 rfl (pkA pk).toList _ hbx.out Tryz.underlying54 rfl size_pk ?_ | (refine wpList_store_pk pk zPk rfl _ _ rfl (w.heap.size + 1) rfl rfl b2x.out ?_; intro w5 h5 k5; obtain ⟨c0, p0, p2, p17, p18, p19⟩ := KP.out w5 w5 h5 k5 (Only.refl _ _)))
  cases b1 with
  | false =>
    have hn := Lib.hid (n1.out rfl)
    clear n1 n2 n3 n4 n5 n6 n7 yes
    refine (hC.out _).mono ?_; rintro e w1 ⟨rfl, rfl⟩
    go_wp2
    go_ret
    exact ⟨Says.no hn.out, KO.out _ _ k5 (Only.refl _ _)⟩
  | true =>
  refine (hC.out _).mono ?_; rintro e w1 ⟨rfl, rfl⟩
  go_wp2_with (refine wpList_load_pk pk rfl _ rfl (w.heap.size + 1) rfl h5 ?_)
  refine (hR.out _).mono ?_; rintro e w6 ⟨rfl, k6⟩
  clear c0 p0 p2 p17 p18 p19
  obtain ⟨c0, p0, p2, p17, p18, p19⟩ := KP.out w1 w6 h5 k5 k6
  have kend := KO.out _ _ k5 k6
  clear KP KO
  cases b2 with
  | false =>
    have hn := Lib.hid (n2.out rfl)
    clear n1 n2 n3 n4 n5 n6 n7 yes
    go_wp2
    go_ret
    exact ⟨Says.no hn.out, kend⟩
  | true =>
  have s1 := str_empty pk.path
  have s2 := str_empty pk.other
  generalize pk.path = pa at *
  generalize pk.other = po at *
  generalize pk.kind = kd at *
  generalize pk.to = tt at *
  generalize pk.data = da at *
  by_cases h3 : kd = 2
  rotate_left
  · have hn := Lib.hid (n3.out h3)
    have d3 : (kd == 2) = false := by simpa using h3
    clear n1 n2 n3 n4 n5 n6 n7 yes
    go_wp2
    go_ret
    exact ⟨Says.no hn.out, kend⟩
  have d3 : (kd == 2) = true := by simpa using h3
  by_cases h4 : tt = cl
  rotate_left
  · have hn := Lib.hid (n4.out h4)
    have d4 : (tt == cl) = false := by simpa using h4
    clear n1 n2 n3 n4 n5 n6 n7 yes
    go_wp2
    go_ret
    exact ⟨Says.no hn.out, kend⟩
  have d4 : (tt == cl) = true := by simpa using h4
  by_cases h5 : pa = ⟨#[]⟩
  rotate_left
  · have hn := Lib.hid (n5.out h5)
    rw [decide_eq_false h5] at s1
    have e5 : ¬ pa.toList = [] := fun e => h5 (by rw [← list_same, e]; exact (show (strOf []).toList = [] from ByteArray.toList_mk _).symm)
    clear n1 n2 n3 n4 n5 n6 n7 yes
    go_wp2
    go_ret
    exact ⟨Says.no hn.out, kend⟩
  rw [decide_eq_true h5] at s1
  by_cases h6 : po = ⟨#[]⟩
  rotate_left
  · have hn := Lib.hid (n6.out h6)
    rw [decide_eq_false h6] at s2
    have e6 : ¬ po.toList = [] := fun e => h6 (by rw [← list_same, e]; exact (show (strOf []).toList = [] from ByteArray.toList_mk _).symm)
    clear n1 n2 n3 n4 n5 n6 n7 yes
    go_wp2
    go_ret
    exact ⟨Says.no hn.out, kend⟩
  rw [decide_eq_true h6] at s2
  by_cases h7 : da.size ≤ 108
  rotate_left
  · have hn := Lib.hid (n7.out h7)
    have d7 : decide ((da.size : Int) ≤ 108) = false := decide_eq_false (by omega)
    clear n1 n2 n3 n4 n5 n6 n7 yes
    go_wp2
    go_ret
    exact ⟨Says.no hn.out, kend⟩
  have hy := Lib.hid (yes.out (by trivial) (by trivial) h3 h4 h5 h6 h7)
  have d7 : decide ((da.size : Int) ≤ 108) = true := decide_eq_true (by omega)
  clear n1 n2 n3 n4 n5 n6 n7 yes
  go_wp2
  go_ret
  exact ⟨⟨_, rfl, by simp [hy.out]⟩, kend⟩

end Go.Proofs.YtalkhhjfplahkaaGreat
