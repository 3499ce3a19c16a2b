/- Joined: Ref, Ref2, Ref3, Ref4, Like, Num, Forth, Xdr, Xdr2. -/
import Derived.Test.YthpjkhmkjhgbkaaGreatDoorGa
import Derived.Scope
import Derived.WalkMore
import Derived.LoopTactic
import Derived.Deep.QuietTactic
import Derived.BigQuiet

/-! === Ref === -/
/- The document's device in memory, and the walks of its functions. -/
namespace Go.Proofs.YthpjkhmkjhgbkaaGreatDoor
open Go.RowKit

theorem info_text : (Tryz.prog.info? 9).map (fun i => (i.zero, i.size, i.bytes)) = some (some (.string ⟨#[]⟩), 1, 16) := by kernel_rfl

def refLate (l : List (Nat × List UInt8)) : List Value := (l.map fun x => [Value.int .i64 (x.1 : Int), .string (strOf x.2)]).flatten
theorem refLate_snoc (l : List (Nat × List UInt8)) (k : Nat) (b : List UInt8) : refLate (l ++ [(k, b)]) = refLate l ++ [.int .i64 (k : Int), .string (strOf b)] := by simp [refLate]
theorem refLate_at (l : List (Nat × List UInt8)) (i : Nat) (x : Nat × List UInt8) (h : l[i]? = some x) : (refLate l)[i * 2]? = some (.int .i64 (x.1 : Int)) ∧ (refLate l)[i * 2 + 1]? = some (.string (strOf x.2)) := by
  have hl : ∀ b ∈ l.map fun x => [Value.int .i64 (x.1 : Int), .string (strOf x.2)], b.length = 2 := by
    intro b hb
    simp only [List.mem_map] at hb
    obtain ⟨y, _, rfl⟩ := hb
    rfl
  have hg : (l.map fun x => [Value.int .i64 (x.1 : Int), .string (strOf x.2)])[i]? = some [Value.int .i64 (x.1 : Int), .string (strOf x.2)] := by simp [h]
  exact ⟨flat_at 2 _ i 0 _ _ hl hg rfl, flat_at 2 _ i 1 _ _ hl hg rfl⟩

/-- The document's device behind the pointer to block p has the state s; it lies in blocks of G. -/
def Ref (w : World) (p : Nat) (G : List Nat) (s : St) : Prop :=
  ∃ vf vl, Blk w p 48 #[vf, vl, .int .i64 s.fuse, .bool s.dead] ∧ w.ownsRow 0 9 1 vf s.firm.length (strCells s.firm) ∧ w.ownsRow 0 127 2 vl s.late.length (refLate s.late) ∧
    (vf.ownBlock ≠ some p ∧ vl.ownBlock ≠ some p ∧ ∀ g, vf.ownBlock = some g → vl.ownBlock ≠ some g) ∧ (p ∈ G ∧ (∀ g, vf.ownBlock = some g → g ∈ G) ∧ ∀ g, vl.ownBlock = some g → g ∈ G) ∧ Fine s
def RefDid (w w' : World) (p : Nat) (G : List Nat) (s : St) : Prop := ∃ G', Ref w' p G' s ∧ Only G w w' ∧ ∀ i ∈ G', (i ∈ G ∨ w.heap.size ≤ i) ∧ i < w'.heap.size
/-- Where no block is new. -/
def RefSame (w w' : World) (p : Nat) (G : List Nat) (s : St) : Prop := Ref w' p G s ∧ Only G w w'

section
variable {w w' : World} {p : Nat} {G S : List Nat} {s : St}
theorem Ref.kept (h : Ref w p G s) (k : Only S w w') (hG : ∀ i ∈ G, i ∉ S) : Ref w' p G s := by
  obtain ⟨vf, vl, h1, h2, h3, h4, ⟨g1, g2, g3⟩, h6⟩ := h
  exact ⟨vf, vl, h1.kept k (hG _ g1), ownsRow_kept' h2 k (fun g hg => hG g (g2 g hg)), ownsRow_kept' h3 k (fun g hg => hG g (g3 g hg)), h4, ⟨g1, g2, g3⟩, h6⟩
theorem Ref.keepQ (h : Ref w p G s) (k : KeepQ G w w') : Ref w' p G s := by
  obtain ⟨vf, vl, h1, h2, h3, h4, ⟨g1, g2, g3⟩, h6⟩ := h
  have own : ∀ {e z v n xs}, w.ownsRow 0 e z v n xs → (∀ g, v.ownBlock = some g → g ∈ G) → w'.ownsRow 0 e z v n xs := by
    intro e z v n xs h hv
    refine ⟨h.1, ?_⟩
    rcases h.2 with h0 | ⟨g, cap, cur, rfl, hb, hg, r⟩
    · exact .inl h0
    · exact .inr ⟨g, cap, cur, rfl, hb, by rw [k g (hv g rfl)]; exact hg, r⟩
  exact ⟨vf, vl, k.blk h1 g1, own h2 g2, own h3 g3, h4, ⟨g1, g2, g3⟩, h6⟩
theorem Ref.mem (h : Ref w p G s) : p ∈ G := by
  obtain ⟨vf, vl, _, _, _, _, ⟨g1, _⟩, _⟩ := h
  exact g1
theorem Ref.fine (h : Ref w p G s) : Fine s := by
  obtain ⟨vf, vl, _, _, _, _, _, h6⟩ := h
  exact h6
theorem Ref.trim (h : Ref w p G s) : ∃ G', Ref w p G' s ∧ (∀ i ∈ G', i ∈ G) ∧ ∀ i ∈ G', i < w.heap.size := by
  obtain ⟨vf, vl, h1, h2, h3, h4, ⟨g1, g2, g3⟩, h6⟩ := h
  refine ⟨p :: (vf.ownBlock.toList ++ vl.ownBlock.toList), ⟨vf, vl, h1, h2, h3, h4, ⟨by simp, fun g hg => by simp [hg], fun g hg => by simp [hg]⟩, h6⟩, fun i hi => ?_, fun i hi => ?_⟩
  · simp at hi
    rcases hi with rfl | hi | hi
    · exact g1
    · exact g2 i hi
    · exact g3 i hi
  · simp at hi
    rcases hi with rfl | hi | hi
    · exact h1.lt
    · exact (h2.lt i hi).2
    · exact (h3.lt i hi).2
theorem RefSame.did (h : RefSame w w' p G s) : RefDid w w' p G s := by
  obtain ⟨G', k1, k2, k3⟩ := h.1.trim
  exact ⟨G', k1, h.2, fun i hi => ⟨.inl (k2 i hi), k3 i hi⟩⟩
theorem Ref.setFuse (h : Ref w p G s) (n : Int) (h0 : -9223372036854775808 ≤ n) (h1 : n ≤ 9223372036854775807) : RefSame w (w.setCell ⟨p, 2, none⟩ (.int .i64 n)) p G { s with fuse := n } := by
  have hm := h.mem
  obtain ⟨vf, vl, b, o1, o2, ⟨n1, n2, n3⟩, hG, fine⟩ := h
  have k : Only [p] w (w.setCell ⟨p, 2, none⟩ (.int .i64 n)) := Only.set w [p] (by simp) _
  exact ⟨⟨vf, vl, by simpa using b.set 2 (.int .i64 n), ownsRow_kept' o1 k (fun g hg => by simp; rintro rfl; exact n1 hg), ownsRow_kept' o2 k (fun g hg => by simp; rintro rfl; exact n2 hg), ⟨n1, n2, n3⟩, hG, ⟨fine.pos, fine.few, fine.firm, fine.late, h0, h1⟩⟩, Only.set w G hm _⟩
theorem Ref.setDead (h : Ref w p G s) (d : Bool) : RefSame w (w.setCell ⟨p, 3, none⟩ (.bool d)) p G { s with dead := d } := by
  have hm := h.mem
  obtain ⟨vf, vl, b, o1, o2, ⟨n1, n2, n3⟩, hG, fine⟩ := h
  have k : Only [p] w (w.setCell ⟨p, 3, none⟩ (.bool d)) := Only.set w [p] (by simp) _
  exact ⟨⟨vf, vl, by simpa using b.set 3 (.bool d), ownsRow_kept' o1 k (fun g hg => by simp; rintro rfl; exact n1 hg), ownsRow_kept' o2 k (fun g hg => by simp; rintro rfl; exact n2 hg), ⟨n1, n2, n3⟩, hG, ⟨fine.pos, fine.few, fine.firm, fine.late, fine.lo, fine.hi⟩⟩, Only.set w G hm _⟩
end

theorem noughts_any (w : World) : Calls Tryz.prog 26 #[] w fun e w' => e = .returned (.string (strOf (rep 256 0))) ∧ Only [] w w' := by
  have hsrc : SrcV (w.alloc (.cells (List.replicate 256 (Value.int .u8 0)).toArray 5)) (.slice (some ⟨w.heap.size, 0, none⟩) 256 256) 256 (byteVs (rep 256 0)) := by
    refine ⟨_, _, rfl, by rw [byteVs_length, rep_length], .inr ⟨_, rfl, fun j u hu => ?_⟩⟩
    have e : byteVs (rep 256 0) = List.replicate 256 (Value.int .u8 0) := List.map_replicate
    rw [e] at hu
    rw [addr_add, Nat.zero_add, (Blk.new w _ _).cell j]
    simpa only [List.getElem?_toArray] using hu
  have hc := run_to_string (P := Tryz.prog) _ 91 9 5 Tryz.underlying91 Tryz.underlying5 Tryz.underlying9 _ _ _ _ hsrc
  have hk : Only [] w (w.alloc (.cells (List.replicate 256 (Value.int .u8 0)).toArray 5)) := (Only.refl [] w).alloc _
  clear hsrc
  obtain ⟨C, hC⟩ : ∃ C, C = List.replicate 256 (Value.int .u8 0) := ⟨_, rfl⟩
  rw [← hC] at hc hk
  replace hC := Lib.hid hC
  go_enter Tryz.func26, Tryz.ntmps26
  go_wp2_with (refine wpList_make_cells _ rfl (.const (.int .i64 256)) (.const (.int .i64 256)) 91 rfl 5 (.int .u8 0) 1 Tryz.underlying91 (by kernel_rfl) rfl .i64 .i64 256 256 256 rfl rfl rfl rfl (by decide) (by decide) ?_; rw [← hC.out])
  go_ret
  exact ⟨rfl, hk⟩

theorem burn_any (w : World) (p : Nat) (G : List Nat) (s : St) (hd : Ref w p G s) :
    Calls Tryz.prog 65 #[.pointer (some ⟨p, 0, none⟩)] w fun e w' => e = .returned (.bool (burns s)) ∧ RefSame w w' p G (burnt s) := by
  have fine := hd.fine
  have flo := fine.lo
  have fhi := fine.hi
  obtain ⟨firm, late, fuse, dead⟩ := s
  obtain ⟨vf, vl, hb, _⟩ := id hd
  have c3 := hb.cell 2
  have c4 := hb.cell 3
  have f3 := hb.free 2
  have f4 := hb.free 3
  simp only [List.getElem?_toArray, List.getElem?_cons_zero, List.getElem?_cons_succ] at c3 c4
  simp only at flo fhi
  have hdone : ∀ n, -9223372036854775808 ≤ n → n ≤ 9223372036854775807 → RefSame w (w.setCell ⟨p, 2, none⟩ (.int .i64 n)) p G ⟨firm, late, n, dead⟩ := fun n h0 h1 => hd.setFuse n h0 h1
  have hdead : RefSame w (w.setCell ⟨p, 3, none⟩ (.bool true)) p G ⟨firm, late, fuse, true⟩ := hd.setDead true
  have hrest : RefSame w w p G ⟨firm, late, fuse, dead⟩ := ⟨hd, Only.refl G w⟩
  replace hdone := Lib.hid hdone
  replace hdead := Lib.hid hdead
  replace hrest := Lib.hid hrest
  clear hb hd fine
  cases hdd : dead with
  | true =>
    rw [hdd] at c4
    go_enter Tryz.func65, Tryz.ntmps65
    go_wp2
    go_ret
    refine ⟨by simp [burns], ?_⟩
    simpa [burnt, burns] using hdead.out
  | false =>
    rw [hdd] at c4 hdone hrest
    by_cases h0 : fuse = 0
    · subst h0
      go_enter Tryz.func65, Tryz.ntmps65
      go_wp2
      go_ret
      refine ⟨by simp [burns], ?_⟩
      simpa [burnt, burns] using hdead.out
    · by_cases h1 : 0 < fuse
      · have hw : wrap64 (fuse - 1) = fuse - 1 := by simp only [wrap64]; omega
        go_enter Tryz.func65, Tryz.ntmps65
        go_wp2
        go_ret
        refine ⟨by simp [burns, h0], ?_⟩
        simpa [burnt, burns, h0, h1] using hdone.out (fuse - 1) (by omega) (by omega)
      · go_enter Tryz.func65, Tryz.ntmps65
        go_wp2
        go_ret
        refine ⟨by simp [burns, h0], ?_⟩
        have e1 : (if 0 < fuse then fuse - 1 else fuse) = fuse := if_neg (by omega)
        simpa [burnt, burns, h0, e1] using hrest.out

theorem light_any (w : World) (p : Nat) (G : List Nat) (s : St) (n : Int) (h0 : -9223372036854775808 ≤ n) (h1 : n ≤ 9223372036854775807) (hd : Ref w p G s) :
    Calls Tryz.prog 31 #[.pointer (some ⟨p, 0, none⟩), .int .i64 n] w fun e w' => e = .returned (.tuple #[]) ∧ RefSame w w' p G (lit s (if n < 0 then -1 else n)) := by
  obtain ⟨vf, vl, hb, _⟩ := id hd
  have c3 := hb.cell 2
  have f3 := hb.free 2
  simp only [List.getElem?_toArray, List.getElem?_cons_zero, List.getElem?_cons_succ] at c3
  have hone := hd.setFuse n h0 h1
  have htwo := hone.1.setFuse (-1) (by decide) (by decide)
  have hall : RefSame w ((w.setCell ⟨p, 2, none⟩ (.int .i64 n)).setCell ⟨p, 2, none⟩ (.int .i64 (-1))) p G (lit s (-1)) := ⟨htwo.1, hone.2.trans htwo.2⟩
  have hone' : RefSame w (w.setCell ⟨p, 2, none⟩ (.int .i64 n)) p G (lit s n) := hone
  replace hone' := Lib.hid hone'
  replace hall := Lib.hid hall
  clear hb hd hone htwo
  by_cases hn : n < 0
  · rw [if_pos hn]
    go_enter Tryz.func31, Tryz.ntmps31
    go_wp2
    go_end0
    exact ⟨rfl, hall.out⟩
  · rw [if_neg hn]
    go_enter Tryz.func31, Tryz.ntmps31
    go_wp2
    go_end0
    exact ⟨rfl, hone'.out⟩

end Go.Proofs.YthpjkhmkjhgbkaaGreatDoor

/-! === Ref2 === -/
/- The document's device: Now, Read, Write. -/
namespace Go.Proofs.YthpjkhmkjhgbkaaGreatDoor
open Go.RowKit

theorem nowOf_take (d : List UInt8) (l : List (Nat × List UInt8)) (k n : Nat) (x : Nat × List UInt8) (hx : l[n]? = some x) : nowOf d (l.take (n + 1)) k = if x.1 = k then x.2 else nowOf d (l.take n) k := by
  have ht : l.take (n + 1) = l.take n ++ [x] := by
    rw [List.take_add_one, hx]
    rfl
  rw [ht, nowOf_snoc]

set_option maxRecDepth 100000 in
set_option maxHeartbeats 1000000 in
theorem now_any (w : World) (p : Nat) (G : List Nat) (s : St) (k : Nat) (hk : k < s.firm.length) (hlate : s.late.length < 1048576) (hd : Ref w p G s) :
    Calls Tryz.prog 54 #[.pointer (some ⟨p, 0, none⟩), .int .i64 (k : Int)] w fun e w' => e = .returned (.string (strOf (nowOf (s.firm.getD k []) s.late k))) ∧ w' = w := by
  obtain ⟨vf, vl, hb, o1, o2, _, _, fine⟩ := id hd
  obtain ⟨gf, cf, rfl, _, _⟩ := o1.form (by omega)
  obtain ⟨A, cl, rfl⟩ : ∃ A c, vl = .slice A s.late.length c := by
    rcases o2.2 with ⟨rfl, h0⟩ | ⟨g, cap, cur, rfl, _⟩
    · exact ⟨_, _, by rw [h0]⟩
    · exact ⟨_, _, rfl⟩
  have c0 := hb.cell 0
  have c1 := hb.cell 1
  simp only [List.getElem?_toArray, List.getElem?_cons_zero, List.getElem?_cons_succ] at c0 c1
  have cf1 := o1.cells rfl k (.string (strOf (s.firm.getD k []))) (by simp [strCells, hk])
  rw [addr_add, Nat.zero_add] at cf1
  obtain ⟨d, hdd⟩ : ∃ d, d = s.firm.getD k [] := ⟨_, rfl⟩
  rw [← hdd] at cf1 ⊢
  replace hdd := Lib.hid hdd
  go_enter Tryz.func54, Tryz.ntmps54
  go_wp2_with fail
  go_loopw [5, 6] (fun t i wr => ∃ n : Nat, n ≤ s.late.length ∧ i = .int .i64 n ∧ t = .string (strOf (nowOf d (s.late.take n) k)) ∧ wr = w) (fun _ i _ => s.late.length - (intOf i).toNat)
  case atStart => exact ⟨0, Nat.zero_le _, rfl, rfl, rfl⟩
  case round =>
    obtain ⟨n, hn, rfl, rfl, hwr⟩ := hrel
    subst hwr
    by_cases hlt : n < s.late.length
    · have hx : s.late[n]? = some s.late[n] := List.getElem?_eq_getElem hlt
      obtain ⟨r1, r2⟩ := refLate_at s.late n _ hx
      obtain ⟨g, c, hv, _, _⟩ := o2.form (by omega)
      rw [hv] at o2 c1
      have q0 := o2.cells rfl _ _ r1
      have q1 := o2.cells rfl _ _ r2
      rw [addr_add, Nat.zero_add] at q0 q1
      have hnow := Lib.hid (nowOf_take d s.late k n _ hx)
      generalize s.late[n] = x at *
      clear r1 r2 hv
      by_cases hxk : x.1 = k
      · have e := hnow.out
        rw [if_pos hxk] at e
        have hxk' : (x.1 : Int) = (k : Int) := by rw [hxk]
        rw [hxk'] at q0
        replace e := Lib.hid e
        clear hnow hxk hxk'
        go_wp2
        go_roundw
        case rel => exact ⟨n + 1, by omega, by go_num, by rw [e.out], by trivial⟩
        case measure => simp [intOf]; omega
      · have e := hnow.out
        rw [if_neg hxk] at e
        have hxk' : ¬ (x.1 : Int) = (k : Int) := by omega
        replace e := Lib.hid e
        clear hnow
        go_wp2
        go_roundw
        case rel => exact ⟨n + 1, by omega, by go_num, by rw [e.out], by trivial⟩
        case measure => simp [intOf]; omega
    · have hnl : n = s.late.length := by omega
      have hend : nowOf d (s.late.take n) k = nowOf d s.late k := by rw [hnl, List.take_of_length_le (Nat.le_refl _)]
      rw [hend]
      clear hend
      have hge : (s.late.length : Int) ≤ n := by omega
      go_wp2
      go_ret
      exact ⟨rfl, by trivial⟩

theorem zero_rwrite : (Tryz.prog.info? 127).map (fun i => (i.zero, i.size, i.bytes)) = some (some (.agg #[.int .i64 0, .string ⟨#[]⟩]), 2, 24) := by kernel_rfl

set_option maxRecDepth 100000 in
set_option maxHeartbeats 1000000 in
theorem rwrite_any (w : World) (p : Nat) (G : List Nat) (s : St) (k : Int) (b : List UInt8) (hk0 : -9223372036854775808 ≤ k) (hk1 : k ≤ 9223372036854775807) (hlen : s.late.length < 1048576) (hd : Ref w p G s) :
    Calls Tryz.prog 37 #[.pointer (some ⟨p, 0, none⟩), .int .i64 k, .string (strOf b)] w fun e w' => e = .returned (.int .i64 (writeErr s k b)) ∧ RefDid w w' p G (written s k b) := by
  have hsz : (strOf b).size = b.length := strOf_size b
  obtain ⟨bs, hbs⟩ : ∃ bs, bs = strOf b := ⟨_, rfl⟩
  obtain ⟨vf, vl, hb0, o1, o2, _, _, fine⟩ := id hd
  have hpos := fine.pos
  obtain ⟨gf, cf, rfl, _, _⟩ := o1.form (by omega)
  have c0 := hb0.cell 0
  simp only [List.getElem?_toArray, List.getElem?_cons_zero] at c0
  have hsame : RefDid w w p G s := RefSame.did ⟨hd, Only.refl G w⟩
  cases hh : (hasBlock s.firm.length k && decide (b.length = 256)) with
  | false =>
    have e1 : writeErr s k b = 1 := by rw [writeErr, if_pos hh]
    have e2 : written s k b = s := by rw [written, if_pos hh]
    rw [e1, e2, ← hbs]
    rw [← hbs] at hsz
    replace hbs := Lib.hid hbs
    replace hsame := Lib.hid hsame
    have hcase : k < 0 ∨ (0 ≤ k ∧ (s.firm.length : Int) ≤ k) ∨ (0 ≤ k ∧ k < (s.firm.length : Int) ∧ ¬ (b.length : Int) = 256) := by
      simp only [hasBlock, Bool.and_eq_false_iff, decide_eq_false_iff_not] at hh
      omega
    clear e1 e2 hh
    generalize b.length = bn at *
    rcases hcase with h | ⟨h, h'⟩ | ⟨h, h', h''⟩
    all_goals
      try (have hq : ((bn : Int) != 256) = true := by simpa using h'')
      go_enter Tryz.func37, Tryz.ntmps37
      go_wp2
      go_ret
      exact ⟨rfl, hsame.out⟩
  | true =>
    have hh' : (0 ≤ k ∧ k < (s.firm.length : Int)) ∧ b.length = 256 := by simpa [hasBlock] using hh
    obtain ⟨⟨h1, h2⟩, h3⟩ := hh'
    rw [h3] at hsz
    cases hburn : burns s with
    | false =>
      have e1 : writeErr s k b = 5 := by rw [writeErr, if_neg (by rw [hh]; decide), if_pos hburn]
      have e2 : written s k b = burnt s := by rw [written, if_neg (by rw [hh]; decide), if_pos hburn]
      rw [e1, e2, ← hbs]
      rw [← hbs] at hsz
      replace hbs := Lib.hid hbs
      clear e1 e2
      go_enter Tryz.func37, Tryz.ntmps37
      go_wp2_with fail
      refine (burn_any w p G s hd).mono ?_
      rintro e w2 ⟨rfl, hs2⟩
      rw [hburn]
      have hs3 := Lib.hid hs2.did
      clear hs2
      go_wp2
      go_ret
      exact ⟨rfl, hs3.out⟩
    | true =>
      obtain ⟨k, rfl⟩ := Int.eq_ofNat_of_zero_le h1
      have e1 : writeErr s (k : Int) b = 0 := by rw [writeErr, if_neg (by rw [hh]; decide), if_neg (by rw [hburn]; decide)]
      have e2 : written s (k : Int) b = { burnt s with late := s.late ++ [(k, b)] } := by rw [written, if_neg (by rw [hh]; decide), if_neg (by rw [hburn]; decide)]; rfl
      have hfine2 := fine.written (k : Int) b
      rw [e2] at hfine2
      rw [e1, e2, ← hbs]
      rw [← hbs] at hsz
      replace hbs := Lib.hid hbs
      replace hfine2 := Lib.hid hfine2
      clear e1 e2
      go_enter Tryz.func37, Tryz.ntmps37
      go_wp2_with fail
      refine (burn_any w p G s hd).mono ?_
      rintro e w2 ⟨rfl, hs2, k12⟩
      rw [hburn]
      obtain ⟨vf2, vl2, b2, of2, ol2, ⟨n1, n2, n3⟩, ⟨g1, g2, g3⟩, _⟩ := hs2
      rw [burnt_firm] at of2
      rw [burnt_late] at ol2
      have d1 := b2.cell 1
      simp only [List.getElem?_toArray, List.getElem?_cons_zero, List.getElem?_cons_succ] at d1
      obtain ⟨ti, ht1, ht2, ht3, ht4⟩ := info_parts zero_rwrite
      replace ht1 := Lib.hid ht1
      replace ht2 := Lib.hid ht2
      replace ht3 := Lib.hid ht3
      replace ht4 := Lib.hid ht4
      have news := World.news_of_block (Blk.new w2 127 #[.int .i64 (k : Int), .string bs])
      have ka : Only [] w2 (w2.alloc (.cells #[.int .i64 (k : Int), .string bs] 127)) := (Only.refl [] w2).alloc _
      have owna := ownsRow_kept' ol2 ka (by simp)
      have d1a := ka.cell d1 (by simp)
      have hone : ∀ u ∈ [Value.int .i64 (k : Int), .string bs], u.oneCell' = true := by
        intro u hu
        simp at hu
        rcases hu with rfl | rfl <;> rfl
      go_wp2_with (at_builtin; refine wpList_append_lies _ rfl (.tmp 30) (.tmp 34) 46 rfl 0 127 ti (.agg #[.int .i64 0, .string ⟨#[]⟩]) 2 24 Tryz.underlying46 ht1.out ht2.out ht3.out ht4.out rfl (by decide) vl2 s.late.length _ rfl owna ⟨w2.heap.size, 0, none⟩ 1 1 [.int .i64 (k : Int), .string bs] rfl rfl news hone (by decide) (by unfold maxLen; omega) (by omega) (Nat.zero_le _) _ rfl ?go)
      case go =>
        intro g5 cp w5 hown5 hgrow hat hlt5
        have hpl : p < w2.heap.size := b2.lt
        have b5 := (hgrow.block p (Nat.lt_of_lt_of_le hpl ka.size) (fun e => n2 e.symm)).trans (b2.kept ka (by simp))
        have e1 := (Blk.cell b5 1)
        have e2 := Blk.free b5 1
        simp only [List.getElem?_toArray, List.getElem?_cons_zero, List.getElem?_cons_succ] at e1
        have k25 : Only G w2 w5 := (ka.more (T := G) (by simp)).grown hgrow (fun j hj => .inl (g3 j hj))
        have kset : Only [p] w5 (w5.setCell ⟨p, 1, none⟩ (.slice (some ⟨g5, 0, none⟩) (s.late.length + 1) cp)) := Only.set w5 [p] (by simp) _
        have b6 := b5
        have b7 := Blk.set (w := w5) b6 1 (.slice (some ⟨g5, 0, none⟩) (s.late.length + 1) cp)
        simp only [List.setIfInBounds_toArray, List.set_cons_zero, List.set_cons_succ] at b7
        have hg5 : vl2.ownBlock = some g5 ∨ w2.heap.size ≤ g5 := hat.imp id (fun e => by have := ka.size; omega)
        have hg5p : g5 ≠ p := by
          rcases hg5 with h | h
          · rintro rfl; exact n2 h
          · omega
        have of5 : w5.ownsRow 0 9 1 vf2 s.firm.length (strCells s.firm) := by
          refine ⟨of2.1, ?_⟩
          rcases of2.2 with h0 | ⟨g, cap, cur, hv, hb', hg, r⟩
          · exact .inl h0
          · refine .inr ⟨g, cap, cur, hv, hb', ?_, r⟩
            have hgv : vf2.ownBlock = some g := by rw [hv]; rfl
            have hgl := (of2.lt g hgv).2
            rw [hgrow.block g (Nat.lt_of_lt_of_le hgl ka.size) (fun e => n3 g hgv e.symm), ka.block g hgl (by simp)]
            exact hg
        have hvg : ∀ g, vf2.ownBlock = some g → (some g5 : Option Nat) ≠ some g := by
          intro g hg e
          injection e with e
          subst e
          rcases hg5 with h | h
          · exact n3 _ hg h
          · have := (of2.lt _ hg).2
            omega
        have hfin : RefDid w (w5.setCell ⟨p, 1, none⟩ (.slice (some ⟨g5, 0, none⟩) (s.late.length + 1) cp)) p G { burnt s with late := s.late ++ [(k, b)] } := by
          have k17 : Only G w (w5.setCell ⟨p, 1, none⟩ (.slice (some ⟨g5, 0, none⟩) (s.late.length + 1) cp)) := (k12.trans k25).then kset (by simp; exact .inl g1)
          have hsz5 : (w5.setCell ⟨p, 1, none⟩ (.slice (some ⟨g5, 0, none⟩) (s.late.length + 1) cp)).heap.size = w5.heap.size := by simp [World.setCell]
          refine ⟨p :: g5 :: vf2.ownBlock.toList, ⟨vf2, .slice (some ⟨g5, 0, none⟩) (s.late.length + 1) cp, b7, ?_, ?_, ⟨n1, by simpa [Value.ownBlock] using hg5p, hvg⟩, ⟨by simp, fun g hg => by simp [hg], by simp [Value.ownBlock]⟩, hfine2.out⟩, k17, fun i hi => ?_⟩
          · rw [burnt_firm]
            exact ownsRow_kept' of5 kset (fun g hg => by simp; rintro rfl; exact n1 hg)
          · have := ownsRow_kept' hown5 kset (by simpa [Value.ownBlock] using hg5p)
            rw [hbs.out] at this
            rw [refLate_snoc]
            simpa using this
          · rw [hsz5]
            simp at hi
            rcases hi with rfl | rfl | hi
            · exact ⟨.inl g1, by have := Blk.lt b5; omega⟩
            · refine ⟨?_, hlt5⟩
              rcases hg5 with h | h
              · exact .inl (g3 _ h)
              · exact .inr (Nat.le_trans k12.size h)
            · exact ⟨.inl (g2 i hi), by have := (of5.lt i hi).2; omega⟩
        replace hfin := Lib.hid hfin
        clear hown5 hgrow hat b5 b6 b7 of5 k25 kset owna news ka d1a b2 of2 ol2 k12
        go_wp2
        go_ret
        exact ⟨rfl, hfin.out⟩

end Go.Proofs.YthpjkhmkjhgbkaaGreatDoor

/-! === Ref3 === -/
/- The document's device: Barrier, Crash. -/
namespace Go.Proofs.YthpjkhmkjhgbkaaGreatDoor
open Go.RowKit

theorem ownsRow_set {w : World} {e : TypeId} {z g cap n i : Nat} {xs : List Value} (h : w.ownsRow 0 e z (.slice (some ⟨g, 0, none⟩) n cap) n xs) (u : Value) : (w.setCell ⟨g, i, none⟩ u).ownsRow 0 e z (.slice (some ⟨g, 0, none⟩) n cap) n (xs.set i u) := by
  refine ⟨by rw [List.length_set]; exact h.1, ?_⟩
  rcases h.2 with ⟨h0, _⟩ | ⟨g', cap', cur, hv, hb, hg, h1, h2, h3, h4⟩
  · cases h0
  · injection hv with hv1 _ hv3
    injection hv1 with hv1
    injection hv1 with hv1
    subst hv1
    subst hv3
    refine .inr ⟨g, cap, cur.setIfInBounds i u, rfl, hb, Blk.set hg i u, h1, h2, by simpa using h3, ?_⟩
    rw [Array.toList_setIfInBounds, List.take_set, h4]

theorem settle_strs (keep : Nat) (l : List (Nat × List UInt8)) (f : List (List UInt8)) (n : Nat) (x : Nat × List UInt8) (hx : l[n]? = some x) :
    strCells (settle keep (l.take (n + 1)) f) = if keepBit keep n then (strCells (settle keep (l.take n) f)).set x.1 (.string (strOf x.2)) else strCells (settle keep (l.take n) f) := by
  rw [settle_take keep l f n x hx]
  split
  · rw [strCells_set]
  · rfl

theorem strCells_len' (l : List (List UInt8)) : (strCells l).length = l.length := by simp [strCells]
theorem ownsRow_free {w : World} {e : TypeId} {z g cap n : Nat} {xs : List Value} (h : w.ownsRow 0 e z (.slice (some ⟨g, 0, none⟩) n cap) n xs) (i : Nat) : w.frozen? ⟨g, i, none⟩ = false := by
  rcases h.2 with ⟨h0, _⟩ | ⟨g', cap', cur, hv, hb, hg, h1, h2, h3, h4⟩
  · cases h0
  · injection hv with hv1 _ hv3
    injection hv1 with hv1
    injection hv1 with hv1
    subst hv1
    exact Blk.free hg i

set_option maxRecDepth 100000 in
set_option maxHeartbeats 2000000 in
theorem rbarrier_any (w : World) (p : Nat) (G : List Nat) (s : St) (hlate : s.late.length < 1048576) (hd : Ref w p G s) :
    Calls Tryz.prog 57 #[.pointer (some ⟨p, 0, none⟩)] w fun e w' => e = .returned (.int .i64 (barErr s)) ∧ RefSame w w' p G (barred s) := by
  cases hb : burns s with
  | false =>
    have herr : barErr s = 5 := by simp [barErr, hb]
    have hst : barred s = burnt s := by unfold barred; rw [if_pos hb]
    rw [herr, hst]
    clear herr hst
    go_enter Tryz.func57, Tryz.ntmps57
    go_wp2_with fail
    refine (burn_any w p G s hd).mono ?_
    rintro e w1 ⟨rfl, h1⟩
    rw [hb]
    replace h1 := Lib.hid h1
    go_wp2
    go_ret
    exact ⟨rfl, h1.out⟩
  | true =>
    have herr : barErr s = 0 := by simp [barErr, hb]
    have hst : barred s = settledAll (burnt s) 18446744073709551615 := by unfold barred; rw [if_neg (by rw [hb]; decide)]
    obtain ⟨t, ht⟩ : ∃ t, t = burnt s := ⟨_, rfl⟩
    have hl1 : t.late.length < 1048576 := by rw [ht, burnt_late]; exact hlate
    rw [herr, hst, ← ht]
    clear herr hst
    have hburn := burn_any w p G s hd
    rw [hb, ← ht] at hburn
    clear ht hd hlate
    obtain ⟨firm, late, fuse, dead⟩ := t
    simp only at hl1
    go_enter Tryz.func57, Tryz.ntmps57
    go_wp2_with fail
    refine hburn.mono ?_
    rintro e w1 ⟨rfl, h1⟩
    clear hburn
    obtain ⟨h1, k1⟩ := h1
    have fine := h1.fine
    obtain ⟨vf, vl, b2, of2, ol2, ⟨n1, n2, n3⟩, ⟨g1, g2, g3⟩, _⟩ := h1
    simp only at b2 of2 ol2
    have hpos := fine.pos
    have hfew := fine.few
    simp only at hpos hfew
    obtain ⟨gf, cf, rfl, _, _⟩ := of2.form (by omega)
    obtain ⟨A, cl, rfl⟩ : ∃ A c, vl = .slice A late.length c := by
      rcases ol2.2 with ⟨rfl, h0⟩ | ⟨g, cap, cur, rfl, _⟩
      · exact ⟨_, _, by rw [h0]⟩
      · exact ⟨_, _, rfl⟩
    simp only [Value.ownBlock] at n1
    go_wp2_with fail
    go_loopw [3] (fun i wr => ∃ n : Nat, n ≤ late.length ∧ i = .int .i64 n ∧ Blk wr p 48 #[.slice (some ⟨gf, 0, none⟩) firm.length cf, .slice A late.length cl, .int .i64 fuse, .bool dead] ∧ wr.ownsRow 0 9 1 (.slice (some ⟨gf, 0, none⟩) firm.length cf) firm.length (strCells (settle 18446744073709551615 (late.take n) firm)) ∧ Only [gf] w1 wr) (fun i _ => late.length - (intOf i).toNat)
    case atStart => exact ⟨0, Nat.zero_le _, rfl, b2, by simpa [settle_nil] using of2, Only.refl _ _⟩
    case round =>
      obtain ⟨n, hn, rfl, b3, of3, k3⟩ := hrel
      have c0 := b3.cell 0
      have c1 := b3.cell 1
      simp only [List.getElem?_toArray, List.getElem?_cons_zero, List.getElem?_cons_succ] at c0 c1
      by_cases hlt : n < late.length
      · have hx : late[n]? = some late[n] := List.getElem?_eq_getElem hlt
        obtain ⟨r1, r2⟩ := refLate_at late n _ hx
        have ol3 := ownsRow_kept' ol2 k3 (fun g hg => by simp; rintro rfl; exact n3 _ rfl hg)
        obtain ⟨g, c, hv, _, _⟩ := ol3.form (by omega)
        rw [hv] at ol3 c1
        have q0 := ol3.cells rfl _ _ r1
        have q1 := ol3.cells rfl _ _ r2
        rw [addr_add, Nat.zero_add] at q0 q1
        have hstep := Lib.hid (settle_strs 18446744073709551615 late firm n _ hx)
        have hkb := keep_all n
        have hfx : late[n].1 < firm.length := (fine.late _ (List.mem_of_getElem? hx)).1
        generalize late[n] = x at *
        clear r1 r2
        have hstep := hstep.out
        rw [if_pos hkb] at hstep
        replace hstep := Lib.hid hstep
        clear ol3
        go_wp2_with fail
        go_still_tail 21, (by kernel_rfl)
        have kd : Only [] wr wr.drew := (Only.refl [] wr).drew
        change wpList _ _ _ _ _ wr.drew
        have of4 := ownsRow_kept' of3 kd (by simp)
        have b4 := b3.kept kd (by simp)
        have k4 := k3.drew
        generalize wr.drew = wd at *
        have e3 : ∃ u, wd.cell? ⟨gf, x.1, none⟩ = some u := by
          have hl : x.1 < (strCells (settle 18446744073709551615 (late.take n) firm)).length := by rw [strCells_len', settle_length]; exact hfx
          refine ⟨(strCells (settle 18446744073709551615 (late.take n) firm))[x.1], ?_⟩
          have := of4.cells rfl x.1 _ (List.getElem?_eq_getElem hl)
          rwa [addr_add, Nat.zero_add] at this
        obtain ⟨u, e3⟩ := e3
        have e4 := ownsRow_free of4 x.1
        have of5 := ownsRow_set (i := x.1) of4 (.string (strOf x.2))
        have kset : Only [gf] wd (wd.setCell ⟨gf, x.1, none⟩ (.string (strOf x.2))) := Only.set wd [gf] (by simp) _
        have b5 := b4.kept kset (by simpa using fun e => n1 (by rw [← e]))
        have k5 := k4.then kset (by simp)
        have hst := hstep.out
        rw [← hst] at of5
        replace of5 := Lib.hid of5
        replace b5 := Lib.hid b5
        replace k5 := Lib.hid k5
        clear of3 of4 b3 b4 k3 k4 kd kset hst
        go_wp2
        go_roundw
        case rel => exact ⟨n + 1, by omega, by go_num, b5.out, of5.out, k5.out⟩
        case measure => simp [intOf]; omega
      · have hnl : n = late.length := by omega
        subst hnl
        rw [List.take_of_length_le (Nat.le_refl _)] at of3
        have f1 := b3.free 1
        have kp : Only [p] wr (wr.setCell ⟨p, 1, none⟩ (.slice none 0 0)) := Only.set wr [p] (by simp) _
        have hend : RefSame w (wr.setCell ⟨p, 1, none⟩ (.slice none 0 0)) p G (settledAll ⟨firm, late, fuse, dead⟩ 18446744073709551615) := by
          have hset := b3.set 1 (.slice none 0 0)
          simp only [List.setIfInBounds_toArray, List.set_cons_zero, List.set_cons_succ] at hset
          refine ⟨⟨.slice (some ⟨gf, 0, none⟩) firm.length cf, .slice none 0 0, hset, ?_, World.ownsRow_nil _ 0 _ 2, ⟨by simpa [Value.ownBlock] using n1, by simp [Value.ownBlock], by simp [Value.ownBlock]⟩, ⟨g1, g2, by simp [Value.ownBlock]⟩, fine.settled _⟩, ?_⟩
          · have := ownsRow_kept' of3 kp (by simpa [Value.ownBlock] using n1)
            simpa only [settledAll, settle_length] using this
          · have h3 := k1.then (k3.more (T := G) (fun i hi => .inl (by simp at hi; subst hi; exact g2 _ rfl))) (fun i hi => .inl hi)
            exact h3.then kp (by simp; exact .inl g1)
        replace hend := Lib.hid hend
        clear b3 of3 k3 kp b2 of2 ol2
        go_wp2
        go_ret
        exact ⟨rfl, hend.out⟩

theorem keep_bit2 (keep n : Nat) : (((keep : Int) / 2 ^ (n % 64)).tmod 2 == 1) = keepBit keep n := by
  have e1 : ((keep : Int) / 2 ^ (n % 64)) = ((keep / 2 ^ (n % 64) : Nat) : Int) := by simp
  unfold keepBit
  rw [e1]
  generalize keep / 2 ^ (n % 64) = q at *
  rw [Int.tmod_eq_emod_of_nonneg (by omega)]
  have e2 : (q : Int) % 2 = ((q % 2 : Nat) : Int) := by omega
  rw [e2]
  have : q % 2 = 0 ∨ q % 2 = 1 := by omega
  rcases this with h | h <;> rw [h] <;> rfl

set_option maxRecDepth 100000 in
set_option maxHeartbeats 2000000 in
theorem rcrash_any (w : World) (p : Nat) (G : List Nat) (s : St) (keep : Nat) (hlate : s.late.length < 1048576) (hd : Ref w p G s) :
    Calls Tryz.prog 32 #[.pointer (some ⟨p, 0, none⟩), .int .u64 (keep : Int)] w fun e w' => e = .returned (.tuple #[]) ∧ RefSame w w' p G (crashed s keep) := by
  obtain ⟨firm, late, fuse, dead⟩ := s
  simp only at hlate
  have fine := hd.fine
  obtain ⟨vf, vl, b2, of2, ol2, ⟨n1, n2, n3⟩, ⟨g1, g2, g3⟩, _⟩ := hd
  simp only at b2 of2 ol2
  have hpos := fine.pos
  have hfew := fine.few
  simp only at hpos hfew
  obtain ⟨gf, cf, rfl, _, _⟩ := of2.form (by omega)
  obtain ⟨A, cl, rfl⟩ : ∃ A c, vl = .slice A late.length c := by
    rcases ol2.2 with ⟨rfl, h0⟩ | ⟨g, cap, cur, rfl, _⟩
    · exact ⟨_, _, by rw [h0]⟩
    · exact ⟨_, _, rfl⟩
  simp only [Value.ownBlock] at n1
  go_enter Tryz.func32, Tryz.ntmps32
  go_wp2_with fail
  go_loopw [4] (fun i wr => ∃ n : Nat, n ≤ late.length ∧ i = .int .i64 n ∧ Blk wr p 48 #[.slice (some ⟨gf, 0, none⟩) firm.length cf, .slice A late.length cl, .int .i64 fuse, .bool dead] ∧ wr.ownsRow 0 9 1 (.slice (some ⟨gf, 0, none⟩) firm.length cf) firm.length (strCells (settle keep (late.take n) firm)) ∧ Only [gf] w wr) (fun i _ => late.length - (intOf i).toNat)
  case atStart => exact ⟨0, Nat.zero_le _, rfl, b2, by simpa [settle_nil] using of2, Only.refl _ _⟩
  case round =>
    obtain ⟨n, hn, rfl, b3, of3, k3⟩ := hrel
    have c0 := b3.cell 0
    have c1 := b3.cell 1
    simp only [List.getElem?_toArray, List.getElem?_cons_zero, List.getElem?_cons_succ] at c0 c1
    by_cases hlt : n < late.length
    · have hx : late[n]? = some late[n] := List.getElem?_eq_getElem hlt
      obtain ⟨r1, r2⟩ := refLate_at late n _ hx
      have ol3 := ownsRow_kept' ol2 k3 (fun g hg => by simp; rintro rfl; exact n3 _ rfl hg)
      obtain ⟨g, c, hv, _, _⟩ := ol3.form (by omega)
      rw [hv] at ol3 c1
      have q0 := ol3.cells rfl _ _ r1
      have q1 := ol3.cells rfl _ _ r2
      rw [addr_add, Nat.zero_add] at q0 q1
      have hstep := Lib.hid (settle_strs keep late firm n _ hx)
      have hfx : late[n].1 < firm.length := (fine.late _ (List.mem_of_getElem? hx)).1
      generalize late[n] = x at *
      clear r1 r2 ol3
      have hbit := keep_bit2 keep n
      cases hkb : keepBit keep n with
      | true =>
        rw [hkb] at hbit
        have hstep := hstep.out
        rw [if_pos hkb] at hstep
        replace hstep := Lib.hid hstep
        go_wp2_with fail
        go_still_tail 21, (by kernel_rfl)
        have kd : Only [] wr wr.drew := (Only.refl [] wr).drew
        change wpList _ _ _ _ _ wr.drew
        have of4 := ownsRow_kept' of3 kd (by simp)
        have b4 := b3.kept kd (by simp)
        have k4 := k3.drew
        generalize wr.drew = wd at *
        have e3 : ∃ u, wd.cell? ⟨gf, x.1, none⟩ = some u := by
          have hl : x.1 < (strCells (settle keep (late.take n) firm)).length := by rw [strCells_len', settle_length]; exact hfx
          refine ⟨(strCells (settle keep (late.take n) firm))[x.1], ?_⟩
          have := of4.cells rfl x.1 _ (List.getElem?_eq_getElem hl)
          rwa [addr_add, Nat.zero_add] at this
        obtain ⟨u, e3⟩ := e3
        have e4 := ownsRow_free of4 x.1
        have of5 := ownsRow_set (i := x.1) of4 (.string (strOf x.2))
        have kset : Only [gf] wd (wd.setCell ⟨gf, x.1, none⟩ (.string (strOf x.2))) := Only.set wd [gf] (by simp) _
        have b5 := b4.kept kset (by simpa using fun e => n1 (by rw [← e]))
        have k5 := k4.then kset (by simp)
        have hst := hstep.out
        rw [← hst] at of5
        replace of5 := Lib.hid of5
        replace b5 := Lib.hid b5
        replace k5 := Lib.hid k5
        clear of3 of4 b3 b4 k3 k4 kd kset hst
        go_wp2
        go_roundw
        case rel => exact ⟨n + 1, by omega, by go_num, b5.out, of5.out, k5.out⟩
        case measure => simp [intOf]; omega
      | false =>
        rw [hkb] at hbit
        have hstep := hstep.out
        rw [if_neg (by rw [hkb]; decide)] at hstep
        rw [← hstep] at of3
        replace of3 := Lib.hid of3
        replace b3 := Lib.hid b3
        clear hstep
        go_wp2
        go_roundw
        case rel => exact ⟨n + 1, by omega, by go_num, b3.out, of3.out, k3⟩
        case measure => simp [intOf]; omega
    · have hnl : n = late.length := by omega
      subst hnl
      rw [List.take_of_length_le (Nat.le_refl _)] at of3
      have f1 := b3.free 1
      have k4 : Only [p] wr (wr.setCell ⟨p, 1, none⟩ (.slice none 0 0)) := Only.set wr [p] (by simp) _
      have hset := b3.set 1 (.slice none 0 0)
      simp only [List.setIfInBounds_toArray, List.set_cons_zero, List.set_cons_succ] at hset
      have hr1 : RefSame w (wr.setCell ⟨p, 1, none⟩ (.slice none 0 0)) p G (settledAll ⟨firm, late, fuse, dead⟩ keep) := by
        refine ⟨⟨.slice (some ⟨gf, 0, none⟩) firm.length cf, .slice none 0 0, hset, ?_, World.ownsRow_nil _ 0 _ 2, ⟨by simpa [Value.ownBlock] using n1, by simp [Value.ownBlock], by simp [Value.ownBlock]⟩, ⟨g1, g2, by simp [Value.ownBlock]⟩, fine.settled _⟩, ?_⟩
        · have := ownsRow_kept' of3 k4 (by simpa [Value.ownBlock] using n1)
          simpa only [settledAll, settle_length] using this
        · have h3 := k3.more (T := G) (fun i hi => .inl (by simp at hi; subst hi; exact g2 _ rfl))
          exact h3.then k4 (by simp; exact .inl g1)
      have hr2 := hr1.1.setFuse (-1) (by decide) (by decide)
      have hr3 := hr2.1.setDead false
      have d2 := Blk.cell hset 2
      have d3 := Blk.cell hset 3
      have e2 := Blk.free hset 2
      have e3 := Blk.free hset 3
      simp only [List.getElem?_toArray, List.getElem?_cons_zero, List.getElem?_cons_succ] at d2 d3
      have hend : RefSame w (((wr.setCell ⟨p, 1, none⟩ (.slice none 0 0)).setCell ⟨p, 2, none⟩ (.int .i64 (-1))).setCell ⟨p, 3, none⟩ (.bool false)) p G (crashed ⟨firm, late, fuse, dead⟩ keep) := ⟨hr3.1, (hr1.2.trans hr2.2).trans hr3.2⟩
      replace hend := Lib.hid hend
      have c2 := b3.cell 2
      have c3 := b3.cell 3
      have f2 := b3.free 2
      have f3 := b3.free 3
      simp only [List.getElem?_toArray, List.getElem?_cons_zero, List.getElem?_cons_succ] at c2 c3
      clear b3 of3 k3 k4 b2 of2 ol2 hr1 hr2 hr3 hset
      go_wp2
      go_end0
      exact ⟨rfl, hend.out⟩

end Go.Proofs.YthpjkhmkjhgbkaaGreatDoor

/-! === Ref4 === -/
/- The document's device: New, and an act of it. -/
namespace Go.Proofs.YthpjkhmkjhgbkaaGreatDoor
open Go.RowKit

theorem strCells_rep (k : Nat) (b : List UInt8) : strCells (List.replicate k b) ++ [.string (strOf b)] = strCells (List.replicate (k + 1) b) := by
  rw [List.replicate_succ']
  simp [strCells]

set_option maxRecDepth 100000 in
set_option maxHeartbeats 2000000 in
theorem rnew_any (w : World) (N : Nat) (h1 : 1 ≤ N) (h2 : N ≤ 1024) :
    Calls Tryz.prog 11 #[.int .i64 (N : Int)] w fun e w' => ∃ p G, e = .returned (.pointer (some ⟨p, 0, none⟩)) ∧ Ref w' p G (fresh N) ∧ Only [] w w' ∧ ∀ i ∈ G, w.heap.size ≤ i ∧ i < w'.heap.size := by
  obtain ⟨ti, ht1, ht2, ht3, ht4⟩ := info_parts info_text
  replace ht1 := Lib.hid ht1
  replace ht2 := Lib.hid ht2
  replace ht3 := Lib.hid ht3
  replace ht4 := Lib.hid ht4
  obtain ⟨p, hp⟩ : ∃ p, p = w.heap.size := ⟨_, rfl⟩
  have b0 : Blk (w.alloc (.cells #[.slice none 0 0, .slice none 0 0, .int .i64 (-1), .bool false] 48)) p 48 #[.slice none 0 0, .slice none 0 0, .int .i64 (-1), .bool false] := by rw [hp]; exact Blk.new w _ _
  have k0 : Only [] w (w.alloc (.cells #[.slice none 0 0, .slice none 0 0, .int .i64 (-1), .bool false] 48)) := (Only.refl [] w).alloc _
  have hpw : w.heap.size ≤ p := by omega
  go_enter Tryz.func11, Tryz.ntmps11
  go_wp2_with fail
  rw [← hp]
  generalize w.alloc (.cells #[.slice none 0 0, .slice none 0 0, .int .i64 (-1), .bool false] 48) = W at *
  replace hp := Lib.hid hp
  go_loopw [5] (fun i wr => ∃ k : Nat, k ≤ N ∧ i = .int .i64 k ∧ ∃ vf, Blk wr p 48 #[vf, .slice none 0 0, .int .i64 (-1), .bool false] ∧ wr.ownsRow 0 9 1 vf k (strCells (List.replicate k (rep 256 0))) ∧ vf.ownBlock ≠ some p ∧ (∀ g, vf.ownBlock = some g → w.heap.size ≤ g) ∧ Only [] w wr) (fun i _ => N - (intOf i).toNat)
  case atStart => exact ⟨0, Nat.zero_le _, rfl, .slice none 0 0, b0, World.ownsRow_nil _ 0 _ 1, by simp [Value.ownBlock], by simp [Value.ownBlock], k0⟩
  case round =>
    clear b0 k0
    obtain ⟨k, hk, rfl, vf, hb, hown, hne, hnew, hkept⟩ := hrel
    by_cases hlt : k < N
    · have t0 := hb.cell 0
      simp only [List.getElem?_toArray, List.getElem?_cons_zero] at t0
      obtain ⟨x, hx⟩ : ∃ x, x = strOf (rep 256 0) := ⟨_, rfl⟩
      have hnot : ∀ W, Calls Tryz.prog 26 #[] W fun e w' => e = .returned (.string x) ∧ Only [] W w' := fun W => by rw [hx]; exact noughts_any W
      have hone : ∀ u ∈ [Value.string x], u.oneCell' = true := by
        intro u hu
        simp at hu
        subst hu
        rfl
      replace hnot := Lib.hid hnot
      replace hx := Lib.hid hx
      go_wp2_with fail
      go_region_law (first
        | (refine step_append_lies _ rfl (.tmp 22) (.tmp 24) 45 rfl 0 9 ti (.string ⟨#[]⟩) 1 16 Tryz.underlying45 ht1.out ht2.out ht3.out ht4.out rfl (by decide) vf k _ rfl owna ⟨wb.heap.size, 0, none⟩ 1 1 [.string x] rfl rfl news hone (by decide) (by unfold maxLen; omega) (by omega) (Nat.zero_le _) _ rfl ?_; intro g cp w5 hown5 hgrow hat hlt5; have b5 := (hgrow.block p bpa.lt (fun e => hne e.symm)).trans bpa; have e1 := (Blk.cell b5 0).trans ((Blk.cell bpa 0).symm.trans t2); have e2 := Blk.free b5 0)
        | (go_simp; go_at_call 26; refine (hnot.out _).mono ?_; rintro e wb ⟨rfl, kb⟩; replace kb := kb.undrew; have t1 := kb.cell t0 (by simp); have ka := kb.alloc (.cells #[.string x] 9); have t2 := ka.cell t0 (by simp); have owna := ownsRow_kept hown ka (by simp); have news := World.news_of_block (Blk.new wb 9 #[.string x]); have bpa := hb.kept ka (by simp)))
      all_goals
        have hown6 : w5.ownsRow 0 9 1 (.slice (some ⟨g, 0, none⟩) (k + 1) cp) (k + 1) (strCells (List.replicate (k + 1) (rep 256 0))) := by
          rw [← strCells_rep, ← hx.out]
          exact hown5
        have hgw : vf.ownBlock = some g ∨ w.heap.size ≤ g ∧ wr.heap.size ≤ g := by
          rcases hat with h | h
          · exact .inl h
          · have := ka.size
            have := hkept.size
            exact .inr (by omega)
        have hgp : g ≠ p := by
          rcases hgw with h | h
          · rintro rfl; exact hne h
          · have := hb.lt; omega
        have kset : Only [p] w5 (w5.setCell ⟨p, 0, none⟩ (.slice (some ⟨g, 0, none⟩) (k + 1) cp)) := Only.set w5 [p] (by simp) _
        have b6 := Blk.set b5 0 (.slice (some ⟨g, 0, none⟩) (k + 1) cp)
        simp only [List.setIfInBounds_toArray, List.set_cons_zero] at b6
        have own6 := ownsRow_kept' hown6 kset (by simpa [Value.ownBlock] using hgp)
        have k6 : Only [] w (w5.setCell ⟨p, 0, none⟩ (.slice (some ⟨g, 0, none⟩) (k + 1) cp)) := ((hkept.trans ka).grown hgrow (fun j hj => .inr (hnew j hj))).then kset (by simp; exact hpw)
        have hnew6 : ∀ g', (Value.slice (some ⟨g, 0, none⟩) (k + 1) cp).ownBlock = some g' → w.heap.size ≤ g' := by
          intro g' hg'
          simp only [Value.ownBlock, Option.some.injEq] at hg'
          subst hg'
          rcases hgw with h | h
          · exact hnew _ h
          · exact h.1
        replace b6 := Lib.hid b6
        replace own6 := Lib.hid own6
        replace k6 := Lib.hid k6
        replace hnew6 := Lib.hid hnew6
        clear hown5 hown6 hgrow hat b5 bpa kset owna news t0 t1 t2 hb hown hnew hgw
        go_wp2
        go_roundw
        case rel => exact ⟨k + 1, by omega, by go_num, _, b6.out, own6.out, by simpa [Value.ownBlock] using hgp, hnew6.out, k6.out⟩
        case measure => simp [intOf]; omega
    · have hkN : k = N := by omega
      have hge : (N : Int) ≤ k := by omega
      have hfin : ∃ G, Ref wr p G (fresh N) ∧ ∀ i ∈ G, w.heap.size ≤ i ∧ i < wr.heap.size := by
        subst hkN
        refine ⟨p :: vf.ownBlock.toList, ⟨vf, .slice none 0 0, hb, ?_, World.ownsRow_nil _ 0 _ 2, ⟨hne, by simp [Value.ownBlock], by simp [Value.ownBlock]⟩, ⟨by simp, fun g hg => by simp [hg], by simp [Value.ownBlock]⟩, fresh_fine k h1 h2⟩, fun i hi => ?_⟩
        · rw [fresh_firm]
          exact hown
        · simp at hi
          rcases hi with rfl | hi
          · exact ⟨hpw, hb.lt⟩
          · exact ⟨hnew i hi, (hown.lt i hi).2⟩
      obtain ⟨G, hr, hG⟩ := hfin
      replace hr := Lib.hid hr
      replace hG := Lib.hid hG
      clear hb hown
      go_wp2
      go_ret
      exact ⟨p, G, rfl, hr.out, hkept, hG.out⟩

end Go.Proofs.YthpjkhmkjhgbkaaGreatDoor

/-! === Like === -/
/- Two devices that answer alike: a fuse below nought is none. -/
namespace Go.Proofs.YthpjkhmkjhgbkaaGreatDoor
open Go.RowKit

theorem RefDid.from {w w0 w' : World} {p : Nat} {G : List Nat} {s : St} (k : Only [] w w0) (h : RefDid w0 w' p G s) : RefDid w w' p G s := by
  obtain ⟨G', h1, h2, h3⟩ := h
  exact ⟨G', h1, (k.more (T := G) (by simp)).then h2 (fun _ hi => .inl hi), fun i hi => ⟨(h3 i hi).1.imp id (fun h => Nat.le_trans k.size h), (h3 i hi).2⟩⟩
theorem RefDid.mono {w w' : World} {p : Nat} {F G : List Nat} {s : St} (h : RefDid w w' p F s) (hG : ∀ i ∈ F, i ∈ G) : RefDid w w' p G s := by
  obtain ⟨F', h1, h2, h3⟩ := h
  exact ⟨F', h1, h2.more (fun i hi => .inl (hG i hi)), fun i hi => ⟨(h3 i hi).1.imp (hG i) id, (h3 i hi).2⟩⟩
theorem RefDid.cell {w w' : World} {p : Nat} {F : List Nat} {s : St} (h : RefDid w w' p F s) {a : Addr} {v : Value} (hc : w.cell? a = some v) (ha : a.block ∉ F) : w'.cell? a = some v := by
  obtain ⟨F', h1, h2, h3⟩ := h
  exact h2.cell hc ha

/-! Two devices that answer alike: a fuse below nought is none. -/
def Like (s t : St) : Prop := s.firm = t.firm ∧ s.late = t.late ∧ s.dead = t.dead ∧ (s.fuse = t.fuse ∨ (s.fuse < 0 ∧ t.fuse < 0))

theorem Like.burns {s t : St} (h : Like s t) : burns s = burns t := by
  obtain ⟨_, _, h3, h4⟩ := h
  have : s.fuse = 0 ↔ t.fuse = 0 := by omega
  simp only [Go.Proofs.YthpjkhmkjhgbkaaGreatDoor.burns, h3, this]
theorem Like.burnt {s t : St} (h : Like s t) : Like (burnt s) (burnt t) := by
  have hb := h.burns
  obtain ⟨h1, h2, h3, h4⟩ := h
  refine ⟨by rw [burnt_firm, burnt_firm, h1], by rw [burnt_late, burnt_late, h2], ?_, ?_⟩
  · unfold Go.Proofs.YthpjkhmkjhgbkaaGreatDoor.burnt
    rw [hb]
    split
    · exact h3
    · rfl
  · unfold Go.Proofs.YthpjkhmkjhgbkaaGreatDoor.burnt
    rw [hb]
    split
    · show (if 0 < s.fuse then s.fuse - 1 else s.fuse) = (if 0 < t.fuse then t.fuse - 1 else t.fuse) ∨ ((if 0 < s.fuse then s.fuse - 1 else s.fuse) < 0 ∧ (if 0 < t.fuse then t.fuse - 1 else t.fuse) < 0)
      split <;> split <;> omega
    · exact h4
theorem Like.writeErr {s t : St} (h : Like s t) (k : Int) (b : List UInt8) : writeErr s k b = writeErr t k b := by
  unfold Go.Proofs.YthpjkhmkjhgbkaaGreatDoor.writeErr
  rw [h.1, h.burns]
theorem Like.written {s t : St} (h : Like s t) (k : Int) (b : List UInt8) : Like (written s k b) (written t k b) := by
  have hb := h.burnt
  unfold Go.Proofs.YthpjkhmkjhgbkaaGreatDoor.written
  rw [h.1, h.burns]
  split
  · exact h
  · split
    · exact hb
    · obtain ⟨h1, h2, h3, h4⟩ := hb
      exact ⟨h1, by simp only; rw [h.2.1], h3, h4⟩
theorem Like.settled {s t : St} (h : Like s t) (keep : Nat) : Like (settledAll s keep) (settledAll t keep) := by
  obtain ⟨h1, h2, h3, h4⟩ := h
  exact ⟨by simp only [settledAll, h1, h2], rfl, h3, h4⟩
theorem Like.barErr {s t : St} (h : Like s t) : barErr s = barErr t := by
  unfold Go.Proofs.YthpjkhmkjhgbkaaGreatDoor.barErr
  rw [h.burns]
theorem Like.barred {s t : St} (h : Like s t) : Like (barred s) (barred t) := by
  unfold Go.Proofs.YthpjkhmkjhgbkaaGreatDoor.barred
  rw [h.burns]
  split
  · exact h.burnt
  · exact h.burnt.settled _
theorem Like.lit {s t : St} (h : Like s t) (n : Int) : Like (lit s n) (lit t (if n < 0 then -1 else n)) := by
  obtain ⟨h1, h2, h3, _⟩ := h
  refine ⟨h1, h2, h3, ?_⟩
  simp only [Go.Proofs.YthpjkhmkjhgbkaaGreatDoor.lit]
  split <;> omega
theorem Like.crashed {s t : St} (h : Like s t) (keep : Nat) : Like (crashed s keep) (crashed t keep) := by
  obtain ⟨h1, h2, _, _⟩ := h.settled keep
  exact ⟨h1, h2, rfl, .inl rfl⟩
theorem Like.read {s t : St} (h : Like s t) (k : Int) : readB s k = readB t k ∧ readErr s k = readErr t k := by
  obtain ⟨h1, h2, h3, _⟩ := h
  simp only [readB, readErr, h1, h2, h3, and_self]

end Go.Proofs.YthpjkhmkjhgbkaaGreatDoor

/-! === Num === -/
/- Numbers of four bytes and texts with noughts behind: the given functions of stage 4 (Number, at, fill, whole). -/
namespace Go.Proofs.YthpjkhmkjhgbkaaGreatDoor
open Go.RowKit

/-- A number's four bytes. -/
def be4 (n : Nat) : List UInt8 := [UInt8.ofNat (n / 16777216), UInt8.ofNat (n / 65536), UInt8.ofNat (n / 256), UInt8.ofNat n]
theorem be4_length (n : Nat) : (be4 n).length = 4 := rfl
theorem byteV_ofNat (n : Nat) : byteV (UInt8.ofNat n) = .int .u8 ((n % 256 : Nat) : Int) := by
  unfold byteV
  simp
/-- The number of the four bytes from place i on. -/
def num4 (l : List UInt8) (i : Nat) : Nat := (l.getD i 0).toNat * 16777216 + (l.getD (i + 1) 0).toNat * 65536 + (l.getD (i + 2) 0).toNat * 256 + (l.getD (i + 3) 0).toNat
theorem num4_lt (l : List UInt8) (i : Nat) : num4 l i < 4294967296 := by
  have h0 := (l.getD i 0).toNat_lt
  have h1 := (l.getD (i + 1) 0).toNat_lt
  have h2 := (l.getD (i + 2) 0).toNat_lt
  have h3 := (l.getD (i + 3) 0).toNat_lt
  unfold num4
  omega
theorem num4_be4 (n : Nat) (hn : n < 4294967296) (a r : List UInt8) : num4 (a ++ (be4 n ++ r)) a.length = n := by
  have e : ∀ j, j < 4 → (a ++ (be4 n ++ r)).getD (a.length + j) 0 = (be4 n).getD j 0 := by
    intro j hj
    rw [List.getD_eq_getElem?_getD, List.getD_eq_getElem?_getD, List.getElem?_append_right (by omega), Nat.add_sub_cancel_left, List.getElem?_append_left (by rw [be4_length]; exact hj)]
  have e0 := e 0 (by decide)
  have e1 := e 1 (by decide)
  have e2 := e 2 (by decide)
  have e3 := e 3 (by decide)
  rw [Nat.add_zero] at e0
  unfold num4
  rw [e0, e1, e2, e3]
  simp [be4]
  omega

/-- A text with noughts behind, of 256 bytes at least. -/
def fillL (l : List UInt8) : List UInt8 := l ++ rep (256 - l.length) 0
theorem fillL_length (l : List UInt8) (h : l.length ≤ 256) : (fillL l).length = 256 := by
  unfold fillL
  rw [List.length_append, rep_length]
  omega

theorem index_strOf {P : Program} (t : TypeId) (ht : P.underlying t = some .string) (bs : List UInt8) (i : Nat) (x : Int) (k : IntKind) (hx : x = i) (h : i < bs.length) :
    ∀ W : World, (Instr.index t (.string (strOf bs)) (.int k x)).run P W = .ok (.int .u8 (((bs.getD i 0).toNat : Nat) : Int)) W := by
  intro W
  subst hx
  have hs := strOf_size bs
  rw [run_index_string W t _ k _ ht, dif_pos ⟨by omega, by omega⟩]
  rw [List.getD_eq_getElem?_getD, List.getElem?_eq_getElem h]
  rfl
theorem from_strOf {P : Program} (t : TypeId) (ht : P.underlying t = some .string) (bs : List UInt8) (i : Nat) (x : Int) (k : IntKind) (hx : x = i) (h : i ≤ bs.length) :
    ∀ W : World, (Instr.slice t (.string (strOf bs)) (some (.int k x)) none none).run P W = .ok (.string (strOf (bs.drop i))) W := by
  intro W
  subst hx
  have hs := strOf_size bs
  rw [run_slice_string_from_if W t _ k _ ht, if_pos ⟨by omega, by omega⟩, hs]
  congr 2
  show (ByteArray.mk bs.toArray).extract _ _ = _
  rw [ByteArray.extract_mk, Int.toNat_natCast, List.take_of_length_le (by simp)]
  rfl

/-- Four bytes laid as a slice's literal. -/
theorem src_be4 (w : World) (n : Nat) (x : Int) (hx : x = n) (hn : n < 4294967296) : SrcV (w.alloc (.cells #[.int .u8 (x / 16777216), .int .u8 (x / 65536 % 256), .int .u8 (x / 256 % 256), .int .u8 (x % 256)] 5)) (.slice (some ⟨w.heap.size, 0, none⟩) 4 4) 4 (byteVs (be4 n)) := by
  subst hx
  have e : byteVs (be4 n) = [.int .u8 ((n : Int) / 16777216), .int .u8 ((n : Int) / 65536 % 256), .int .u8 ((n : Int) / 256 % 256), .int .u8 ((n : Int) % 256)] := by
    unfold byteVs be4
    simp only [List.map_cons, List.map_nil, byteV_ofNat]
    congr 2
    omega
  rw [e]
  refine ⟨_, _, rfl, rfl, .inr ⟨_, rfl, fun j u hu => ?_⟩⟩
  rw [addr_add, Nat.zero_add, (Blk.new w 5 _).cell j]
  simpa using hu

theorem fnumber_any (w : World) (x : Int) (n : Nat) (hx : x = n) (hn : n < 4294967296) :
    Calls Tryz.prog 125 #[.int .u32 x] w fun e w' => e = .returned (.string (strOf (be4 n))) ∧ Only [] w w' := by
  have h0 : 0 ≤ x := by omega
  have h1 : x < 4294967296 := by omega
  have hs := Lib.hid (src_be4 w n x hx hn)
  clear hx
  go_enter Tryz.func125, Tryz.ntmps125
  go_wp2_with (refine wpList_to_string _ rfl 91 9 5 (.tmp 17) rfl Tryz.underlying91 Tryz.underlying5 Tryz.underlying9 _ 4 4 (be4 n) rfl hs.out ?_)
  go_ret
  exact ⟨rfl, (Only.refl [] w).alloc _⟩

theorem at_any (w : World) (l : List UInt8) (i : Nat) (h : i + 4 ≤ l.length) (hl : l.length ≤ 1048576) :
    Calls Tryz.prog 55 #[.string (strOf l), .int .i64 (i : Int)] w fun e w' => e = .returned (.int .u32 (num4 l i : Int)) ∧ Only [] w w' := by
  have i0 := index_strOf (P := Tryz.prog) 9 Tryz.underlying9 l i (i : Int) .i64 rfl (by omega)
  have i1 := index_strOf (P := Tryz.prog) 9 Tryz.underlying9 l (i + 1) ((i : Int) + 1) .i64 (by omega) (by omega)
  have i2 := index_strOf (P := Tryz.prog) 9 Tryz.underlying9 l (i + 2) ((i : Int) + 2) .i64 (by omega) (by omega)
  have i3 := index_strOf (P := Tryz.prog) 9 Tryz.underlying9 l (i + 3) ((i : Int) + 3) .i64 (by omega) (by omega)
  have b0 := (l.getD i 0).toNat_lt
  have b1 := (l.getD (i + 1) 0).toNat_lt
  have b2 := (l.getD (i + 2) 0).toNat_lt
  have b3 := (l.getD (i + 3) 0).toNat_lt
  unfold num4
  generalize (l.getD i 0).toNat = n0 at *
  generalize (l.getD (i + 1) 0).toNat = n1 at *
  generalize (l.getD (i + 2) 0).toNat = n2 at *
  generalize (l.getD (i + 3) 0).toNat = n3 at *
  generalize strOf l = s at *
  have hi : (i : Int) ≤ 1048576 := by omega
  have k1 : IntKind.i64.wrap ((i : Int) + 1) = (i : Int) + 1 := by rw [IntKind.wrap_i64]; omega
  have k2 : IntKind.i64.wrap ((i : Int) + 2) = (i : Int) + 2 := by rw [IntKind.wrap_i64]; omega
  have k3 : IntKind.i64.wrap ((i : Int) + 3) = (i : Int) + 3 := by rw [IntKind.wrap_i64]; omega
  go_enter Tryz.func55, Tryz.ntmps55
  go_wp2
  go_quiet (fail)
  go_wp2
  go_ret
  exact ⟨by simp, (Only.refl [] w).drewN _⟩

/-- A text on its way: k noughts behind. -/
def partL (l : List UInt8) (k : Nat) : List UInt8 := l ++ rep k 0
theorem partL_length (l : List UInt8) (k : Nat) : (partL l k).length = l.length + k := by unfold partL; rw [List.length_append, rep_length]
theorem partL_snoc (l : List UInt8) (k : Nat) : partL l k ++ [0] = partL l (k + 1) := by unfold partL; rw [rep_succ, List.append_assoc]
theorem partL_zero (l : List UInt8) : partL l 0 = l := by simp [partL, rep]
theorem partL_end (l : List UInt8) (k : Nat) (h : k ≤ 256 - l.length) (h2 : 256 ≤ l.length + k) : partL l k = fillL l := by
  have : k = 256 - l.length := by omega
  unfold partL fillL
  rw [this]

set_option maxRecDepth 100000 in
theorem fill_any (w : World) (l : List UInt8) (hl : l.length ≤ 1048576) :
    Calls Tryz.prog 127 #[.string (strOf l)] w fun e w' => e = .returned (.string (strOf (fillL l))) ∧ w' = w := by
  go_enter Tryz.func127, Tryz.ntmps127
  go_wp2_with fail
  go_loopw [0] (fun s wr => ∃ k : Nat, k ≤ 256 - l.length ∧ s = .string (strOf (partL l k)) ∧ wr = w) (fun s _ => 256 - strLen s)
  case atStart => exact ⟨0, Nat.zero_le _, by rw [partL_zero], rfl⟩
  case round =>
    obtain ⟨k, hk, rfl, hwr⟩ := hrel
    subst hwr
    have hsz : (strOf (partL l k)).size = l.length + k := by rw [strOf_size, partL_length]
    have hlen := partL_length l k
    by_cases hlt : l.length + k < 256
    · have hcat := Lib.hid (partL_snoc l k)
      have hmk := partL_length l (k + 1)
      generalize hy : partL l k = y at *
      replace hy := Lib.hid hy
      have hlt' : (y.length : Int) < 256 := by omega
      have hsz' : ((strOf y).size : Int) < 256 := by omega
      replace hlen := Lib.hid hlen
      replace hsz := Lib.hid hsz
      replace hmk := Lib.hid hmk
      replace hk := Lib.hid hk
      replace hlt := Lib.hid hlt
      replace hl := Lib.hid hl
      go_wp2_with (refine wpList_concat _ rfl 9 9 (.tmp 6) (.const (.string ⟨#[0]⟩)) rfl y [0] rfl rfl (by have := hlen.out; have := hlt.out; simp; omega) ?_)
      go_roundw
      case rel => exact ⟨k + 1, by have := hk.out; have := hlt.out; omega, by rw [hcat.out], by trivial⟩
      case measure => have := hlen.out; have := hlt.out; simp only [strLen, strOf_size, List.length_append, List.length_cons, List.length_nil]; omega
    · have hge : (256 : Int) ≤ (strOf (partL l k)).size := by omega
      rw [partL_end l k hk (by omega)] at hge ⊢
      obtain ⟨y, hy⟩ : ∃ y, y = strOf (fillL l) := ⟨_, rfl⟩
      rw [← hy] at hge ⊢
      replace hy := Lib.hid hy
      clear hsz hlen hlt
      go_wp2
      go_ret
      exact ⟨by rw [← hy.out]; rfl, by trivial⟩

theorem upto_strOf {P : Program} (t : TypeId) (ht : P.underlying t = some .string) (bs : List UInt8) (j : Nat) (y : Int) (k : IntKind) (hy : y = j) (h : j ≤ bs.length) :
    ∀ W : World, (Instr.slice t (.string (strOf bs)) none (some (.int k y)) none).run P W = .ok (.string (strOf (bs.take j))) W := by
  intro W
  subst hy
  have hs := strOf_size bs
  rw [run_slice_string_to_if W t _ k _ ht, if_pos ⟨by omega, by omega⟩]
  congr 2
  show (ByteArray.mk bs.toArray).extract _ _ = _
  rw [ByteArray.extract_mk, Int.toNat_natCast]
  simp [strOf]

set_option maxRecDepth 100000 in
theorem whole_any (w : World) (l : List UInt8) (hl : l.length ≤ 1048576) :
    Calls Tryz.prog 36 #[.string (strOf l)] w fun e w' => e = .returned (.string (strOf ((fillL l).take 256))) ∧ w' = w := by
  go_enter Tryz.func36, Tryz.ntmps36
  go_wp2_with fail
  go_loopw [0] (fun s wr => ∃ k : Nat, k ≤ 256 - l.length ∧ s = .string (strOf (partL l k)) ∧ wr = w) (fun s _ => 256 - strLen s)
  case atStart => exact ⟨0, Nat.zero_le _, by rw [partL_zero], rfl⟩
  case round =>
    obtain ⟨k, hk, rfl, hwr⟩ := hrel
    subst hwr
    have hsz : (strOf (partL l k)).size = l.length + k := by rw [strOf_size, partL_length]
    have hlen := partL_length l k
    by_cases hlt : l.length + k < 256
    · have hcat := Lib.hid (partL_snoc l k)
      have hmk := partL_length l (k + 1)
      generalize hy : partL l k = y at *
      replace hy := Lib.hid hy
      have hlt' : (y.length : Int) < 256 := by omega
      have hsz' : ((strOf y).size : Int) < 256 := by omega
      replace hlen := Lib.hid hlen
      replace hsz := Lib.hid hsz
      replace hmk := Lib.hid hmk
      replace hk := Lib.hid hk
      replace hlt := Lib.hid hlt
      replace hl := Lib.hid hl
      go_wp2_with (refine wpList_concat _ rfl 9 9 (.tmp 6) (.const (.string ⟨#[0]⟩)) rfl y [0] rfl rfl (by have := hlen.out; have := hlt.out; simp; omega) ?_)
      go_roundw
      case rel => exact ⟨k + 1, by have := hk.out; have := hlt.out; omega, by rw [hcat.out], by trivial⟩
      case measure => have := hlen.out; have := hlt.out; simp only [strLen, strOf_size, List.length_append, List.length_cons, List.length_nil]; omega
    · have hge : (256 : Int) ≤ (strOf (partL l k)).size := by omega
      rw [partL_end l k hk (by omega)] at hge ⊢
      have hge2 : 256 ≤ (fillL l).length := by rw [strOf_size] at hge; omega
      have hcut := upto_strOf (P := Tryz.prog) 9 Tryz.underlying9 (fillL l) 256 256 .i64 rfl hge2
      obtain ⟨z, hz⟩ : ∃ z, z = strOf ((fillL l).take 256) := ⟨_, rfl⟩
      rw [← hz] at hcut
      replace hz := Lib.hid hz
      obtain ⟨y, hy⟩ : ∃ y, y = strOf (fillL l) := ⟨_, rfl⟩
      rw [← hy] at hcut
      rw [← hy] at hge ⊢
      replace hy := Lib.hid hy
      clear hsz hlen hlt hge2
      go_wp2
      go_ret
      exact ⟨by rw [← hz.out]; rfl, by trivial⟩

end Go.Proofs.YthpjkhmkjhgbkaaGreatDoor

/-! === Forth === -/
/- A scope in which the run jumps forth to one label, and does not jump again behind it: of no program. -/
namespace Go.Proofs.YthpjkhmkjhgbkaaGreatDoor

/-- As Q; by a goto to label l: what stands behind the label, from there on without a goto; by any other goto: no way out. -/
def Forth (P : Program) (l : Nat) (rest : Code) (Q : Exit → Act → World → Prop) : Exit → Act → World → Prop
  | .goto l', a, w => l' = l ∧ rest.wp P (Exit.noGoto Q) a w
  | e, a, w => Q e a w

section
variable {P : Program} {a : Act} {w : World} {Q : Exit → Act → World → Prop} {l : Nat} {rest : Code}
theorem Forth.normal : Forth P l rest Q .normal a w = Q .normal a w := rfl
theorem Forth.exit (id : Nat) : Forth P l rest Q (.exit id) a w = Q (.exit id) a w := rfl
theorem Forth.ret : Forth P l rest Q .ret a w = Q .ret a w := rfl
theorem Forth.panic (ch : List PanicEntry) : Forth P l rest Q (.panic ch) a w = Q (.panic ch) a w := rfl
theorem Forth.jump (h : rest.wp P (Exit.noGoto Q) a w) : Forth P l rest Q (.goto l) a w := ⟨rfl, h⟩

theorem wp_scope_forth {c : Code} (l : Nat) (hf : findLabel c l = some rest) (h : c.wp P (Forth P l rest Q) a w) : (Code.scope c).wp P Q a w := by
  intro b k cs
  have hg : gotoIn l (.inScope c :: k) = some (.code rest :: .inScope c :: k) := by simp [gotoIn, hf]
  obtain ⟨e, a1, w1, hq, harr⟩ := h b (.inScope c :: k) cs
  cases e with
  | normal => exact ⟨.normal, a1, w1, hq, .head step_scope (Steps.trans harr (.one step_inScope))⟩
  | exit id => exact ⟨.exit id, a1, w1, hq, fun k' hk => .head step_scope (harr k' (by simp [exitTo, hk]))⟩
  | goto l' =>
    obtain ⟨rfl, hr⟩ := hq
    obtain ⟨e2, a2, w2, hq2, harr2⟩ := hr b (.inScope c :: k) cs
    have hs := harr _ hg
    cases e2 with
    | normal => exact ⟨.normal, a2, w2, hq2, .head step_scope (Steps.trans hs (Steps.trans harr2 (.one step_inScope)))⟩
    | exit id => exact ⟨.exit id, a2, w2, hq2, fun k' hk => .head step_scope (Steps.trans hs (harr2 k' (by simp [exitTo, hk])))⟩
    | goto l' => exact hq2.elim
    | ret => exact ⟨_, a2, w2, hq2, .of_steps (.head step_scope hs) harr2⟩
    | panic ch => exact ⟨_, a2, w2, hq2, .of_steps (.head step_scope hs) harr2⟩
    | outgrown => exact ⟨_, a2, w2, hq2, .of_steps (.head step_scope hs) harr2⟩
  | ret => exact ⟨_, a1, w1, hq, .of_steps (.one step_scope) harr⟩
  | panic ch => exact ⟨_, a1, w1, hq, .of_steps (.one step_scope) harr⟩
  | outgrown => exact ⟨_, a1, w1, hq, .of_steps (.one step_scope) harr⟩
end
end Go.Proofs.YthpjkhmkjhgbkaaGreatDoor

/-! === Xdr === -/
/- Package xdr, as far as stage 4 calls it: a writer's numbers and bytes, a reader's numbers. -/
namespace Go.Proofs.YthpjkhmkjhgbkaaGreatDoor
open Go.RowKit

/-- The number that four bytes are. -/
def decB (a b c d : UInt8) : Nat := a.toNat * 16777216 + b.toNat * 65536 + c.toNat * 256 + d.toNat
theorem decB_lt (a b c d : UInt8) : decB a b c d < 4294967296 := by
  have := a.toNat_lt; have := b.toNat_lt; have := c.toNat_lt; have := d.toNat_lt
  unfold decB; omega
/-- The number that the first four bytes are. -/
def hd4 : List UInt8 → Nat
  | a :: b :: c :: d :: _ => decB a b c d
  | _ => 0
theorem hd4_lt (l : List UInt8) : hd4 l < 4294967296 := by
  unfold hd4
  split
  · exact decB_lt _ _ _ _
  · omega
theorem four (l : List UInt8) (h : 4 ≤ l.length) : ∃ a b c d r, l = a :: b :: c :: d :: r := by
  match l, h with
  | a :: b :: c :: d :: r, _ => exact ⟨a, b, c, d, r, rfl⟩

/-- What a reader's calls answer, and what is left: by the bytes that are left and the error's number. -/
def rNumber (bs : List UInt8) (err : Nat) : Nat × List UInt8 × Nat :=
  if err ≠ 0 then (0, bs, err) else if bs.length < 4 then (0, bs, 2) else (hd4 bs, bs.drop 4, 0)
theorem info_u8 : (Tryz.prog.info? 5).map (fun i => (i.zero, i.size, i.bytes)) = some (some (.int .u8 0), 1, 1) := by kernel_rfl

/-- The writer behind the pointer to block p has written bs; its bytes lie in a block of F. -/
def Wr (w : World) (p : Nat) (F : List Nat) (bs : List UInt8) : Prop :=
  ∃ v, Blk w p 177 #[v] ∧ w.ownsRow 0 5 1 v bs.length (byteVs bs) ∧ v.ownBlock ≠ some p ∧ ∀ k, v.ownBlock = some k → k ∈ F

/-- Behind a write: what is written, and what alone has turned. -/
def Wrote (w w' : World) (p : Nat) (F : List Nat) (bs : List UInt8) : Prop :=
  ∃ F', Wr w' p F' bs ∧ Only (p :: F) w w' ∧ ∀ k ∈ F', k ∈ F ∨ w.heap.size ≤ k

/-- What a call without results leaves, behind a name. -/
def Gives (R : World → Prop) (e : Ending) (w' : World) : Prop := e = .returned (.tuple #[]) ∧ R w'

theorem Wr.lt {w : World} {p : Nat} {F : List Nat} {bs : List UInt8} (h : Wr w p F bs) : p < w.heap.size := by
  obtain ⟨v, h1, _⟩ := h
  exact h1.lt

theorem Wr.kept {S : List Nat} {w w' : World} {p : Nat} {F : List Nat} {bs : List UInt8} (h : Wr w p F bs) (k : Only S w w') (hp : p ∉ S) (hF : ∀ i ∈ F, i ∉ S) : Wr w' p F bs := by
  obtain ⟨v, h1, h2, h3, h4⟩ := h
  exact ⟨v, h1.kept k hp, ownsRow_kept h2 k (fun g hg => hF g (h4 g hg)), h3, h4⟩

theorem Wrote.from {w w0 w' : World} {p : Nat} {F : List Nat} {bs : List UInt8} (k : Only [] w w0) (h : Wrote w0 w' p F bs) : Wrote w w' p F bs := by
  obtain ⟨F', h1, h2, h3⟩ := h
  refine ⟨F', h1, (k.more (T := p :: F) (by simp)).then h2 (fun _ hi => .inl hi), fun i hi => (h3 i hi).imp id (fun h => Nat.le_trans k.size h)⟩

theorem Wrote.join {w w1 w2 : World} {p : Nat} {F F1 : List Nat} {bs : List UInt8} (k : Only (p :: F) w w1) (hF : ∀ i ∈ F1, i ∈ F ∨ w.heap.size ≤ i) (h : Wrote w1 w2 p F1 bs) : Wrote w w2 p F bs := by
  obtain ⟨F2, h1, h2, h3⟩ := h
  refine ⟨F2, h1, k.then h2 (fun i hi => ?_), fun i hi => ?_⟩
  · rcases List.mem_cons.1 hi with rfl | hi
    · exact .inl (by simp)
    · exact (hF i hi).imp (fun h => by simp [h]) id
  · rcases h3 i hi with h | h
    · exact hF i h
    · exact .inr (Nat.le_trans k.size h)

theorem put_done {w w1 : World} {p : Nat} {F : List Nat} {bs l : List UInt8} {old v' : Value} (hb : Blk w p 177 #[old]) (hne : old.ownBlock ≠ some p) (hF : ∀ k, old.ownBlock = some k → k ∈ F)
    (hown1 : w1.ownsRow 0 5 1 v' (bs.length + l.length) (byteVs bs ++ byteVs l)) (hg : w.grownBy w1 old.ownBlock) (hat : v'.ownBlock = old.ownBlock ∨ v'.ownBlock = some w.heap.size) :
    Wrote w (w1.setCell ⟨p, 0, none⟩ v') p F (bs ++ l) := by
  have hb1 : Blk w1 p 177 #[old] := (hg.block p hb.lt (fun e => hne e.symm)).trans hb
  have hv : v'.ownBlock ≠ some p := by
    rcases hat with h | h
    · rw [h]; exact hne
    · rw [h]; intro e; injection e with e; have := hb.lt; omega
  refine ⟨v'.ownBlock.toList, ⟨v', by simpa using hb1.set 0 v', ?_, hv, fun k hk => by simp [hk]⟩, ?_, fun k hk => ?_⟩
  · rw [List.length_append, byteVs_append]
    exact ownsRow_far hown1 hv _
  · exact ((Only.refl (p :: F) w).grown hg (fun k hk => .inl (by simp [hF k hk]))).setCell (.inl (by simp)) _
  · have hk' : v'.ownBlock = some k := by simpa using hk
    rcases hat with h | h
    · exact .inl (hF k (by rw [← h]; exact hk'))
    · rw [h] at hk'
      injection hk' with hk'
      exact .inr (by omega)

set_option maxHeartbeats 400000 in
theorem put_any (w : World) (p : Nat) (F : List Nat) (bs : List UInt8) (x : Value) (l : List UInt8) (hw : Wr w p F bs) (hx : SrcV w x l.length (byteVs l)) (hlen : bs.length + l.length ≤ 1048576) :
    Calls Tryz.prog 152 #[.pointer (some ⟨p, 0, none⟩), x] w (Gives (fun w' => Wrote w w' p F (bs ++ l))) := by
  obtain ⟨v, hb, hown, hne, hF⟩ := hw
  obtain ⟨A, c, rfl⟩ := ownsRow_slice hown
  obtain ⟨A', c', rfl, hrest⟩ := id hx
  have hcell := hb.cell 0
  simp only [List.getElem?_toArray, List.getElem?_cons_zero] at hcell
  go_enter Tryz.func152, Tryz.ntmps152
  go_wp2_with (at_builtin; refine wpList_append_src _ rfl (.tmp 10) (.tmp 11) 91 rfl 5 (.int .u8 0) 1 Tryz.underlying91 info_u8 rfl (.slice A bs.length c) bs.length (byteVs bs) rfl hown (.slice A' l.length c') l.length (byteVs l) rfl hx (byteVs_one l) ?c1 ?c2 ?go)
  case c1 => unfold maxLen; omega
  case c2 => omega
  case go =>
    intro v' w1 hown1 hg hat
    have hdone := Lib.hid (put_done hb hne hF hown1 hg hat)
    obtain ⟨A1, c1, rfl⟩ := ownsRow_slice hown1
    have hb1 : Blk w1 p 177 #[.slice A bs.length c] := (hg.block p hb.lt (fun e => hne e.symm)).trans hb
    have k0 := hb1.cell 0
    simp only [List.getElem?_toArray, List.getElem?_cons_zero] at k0
    have k1 := hb1.free 0
    clear hat hF hne hrest hx
    go_wp2
    go_end0
    exact ⟨rfl, hdone.out⟩

theorem wnumber_any (w : World) (p : Nat) (F : List Nat) (bs : List UInt8) (x : Int) (n : Nat) (hx : x = n) (hn : n < 4294967296) (hw : Wr w p F bs) (hlen : bs.length + 4 ≤ 1048576) :
    Calls Tryz.prog 109 #[.pointer (some ⟨p, 0, none⟩), .int .u32 x] w (Gives (fun w' => Wrote w w' p F (bs ++ be4 n))) := by
  have h0 : 0 ≤ x := by omega
  have h1 : x < 4294967296 := by omega
  have hs := Lib.hid (src_be4 w n x hx hn)
  clear hx
  go_enter Tryz.func109, Tryz.ntmps109
  go_wp2_with fail
  refine (put_any _ p F bs _ (be4 n) (hw.kept ((Only.refl [] w).alloc _) (by simp) (by simp)) hs.out hlen).mono ?_
  rintro e w1 ⟨rfl, hw1⟩
  go_wp2
  go_end0
  exact ⟨rfl, hw1.from ((Only.refl [] w).alloc _)⟩

theorem bytes_any (w : World) (p : Nat) (F : List Nat) (bs : List UInt8) (hw : Wr w p F bs) :
    Calls Tryz.prog 111 #[.pointer (some ⟨p, 0, none⟩)] w fun e w' => e = .returned (.string (strOf bs)) ∧ w = w' := by
  obtain ⟨v, hb, hown, hne, hF⟩ := hw
  obtain ⟨A, c, rfl⟩ := ownsRow_slice hown
  have hcell := hb.cell 0
  simp only [List.getElem?_toArray, List.getElem?_cons_zero] at hcell
  have hsrc := ownsRow_src hown
  go_enter Tryz.func111, Tryz.ntmps111
  go_wp2_with (refine wpList_to_string _ rfl 91 9 5 (.tmp 8) rfl Tryz.underlying91 Tryz.underlying5 Tryz.underlying9 A bs.length c bs rfl hsrc ?_)
  go_ret
  exact ⟨rfl, rfl⟩

theorem u32_join (i : Nat) (x y : Int) (hx0 : 0 ≤ x) (hx : x % 2 ^ i = 0) (hx1 : x < 4294967296) (hy0 : 0 ≤ y) (hy : y < 2 ^ i) (hy1 : y < 4294967296) : bits .or .u32 x y = x + y :=
  bits_join .u32 32 (by decide) (fun n h0 h1 => by rw [IntKind.wrap_u32]; omega) i x y hx0 hx (by omega) hy0 hy (by omega)

theorem number_bits (a b c d : UInt8) : bits .or .u32 (bits .or .u32 (bits .or .u32 ((a.toNat : Int) * 16777216) ((b.toNat : Int) * 65536)) ((c.toNat : Int) * 256)) (d.toNat : Int) = (decB a b c d : Nat) := by
  have := a.toNat_lt; have := b.toNat_lt; have := c.toNat_lt; have := d.toNat_lt
  rw [u32_join 24 ((a.toNat : Int) * 16777216) _ (by omega) (by omega) (by omega) (by omega) (by omega) (by omega),
    u32_join 16 ((a.toNat : Int) * 16777216 + (b.toNat : Int) * 65536) _ (by omega) (by omega) (by omega) (by omega) (by omega) (by omega),
    u32_join 8 ((a.toNat : Int) * 16777216 + (b.toNat : Int) * 65536 + (c.toNat : Int) * 256) _ (by omega) (by omega) (by omega) (by omega) (by omega) (by omega)]
  unfold decB
  omega

theorem number_cells (w : World) (g o n c : Nat) (a0 a1 a2 a3 : UInt8) (h0 : w.cell? ⟨g, o, none⟩ = some (.int .u8 (a0.toNat : Int))) (h1 : w.cell? ⟨g, o + 1, none⟩ = some (.int .u8 (a1.toNat : Int)))
    (h2 : w.cell? ⟨g, o + 2, none⟩ = some (.int .u8 (a2.toNat : Int))) (h3 : w.cell? ⟨g, o + 3, none⟩ = some (.int .u8 (a3.toNat : Int))) (hn : 4 ≤ n) :
    Calls Tryz.prog 130 #[.slice (some ⟨g, o, none⟩) n c] w fun e w' => e = .returned (.int .u32 (decB a0 a1 a2 a3 : Nat)) ∧ ∃ m, w' = w.drewN m := by
  have b0 : (a0.toNat : Int) < 256 := by have := a0.toNat_lt; omega
  have b1 : (a1.toNat : Int) < 256 := by have := a1.toNat_lt; omega
  have b2 : (a2.toNat : Int) < 256 := by have := a2.toNat_lt; omega
  have b3 : (a3.toNat : Int) < 256 := by have := a3.toNat_lt; omega
  have hn' : (4 : Int) ≤ n := by omega
  rw [← number_bits]
  go_enter Tryz.func130, Tryz.ntmps130
  go_wp2
  go_quiet (fail)
  go_wp2
  go_ret
  exact ⟨rfl, _, rfl⟩

theorem number_any (w : World) (g o n c : Nat) (l : List UInt8) (hb : BytesAt w g o l) (hl : 4 ≤ l.length) (hn : 4 ≤ n) :
    Calls Tryz.prog 130 #[.slice (some ⟨g, o, none⟩) n c] w fun e w' => e = .returned (.int .u32 (hd4 l : Nat)) ∧ ∃ m, w' = w.drewN m := by
  obtain ⟨a0, a1, a2, a3, r, rfl⟩ := four l hl
  have h0 := hb 0 (by simp)
  have h1 := hb 1 (by simp)
  have h2 := hb 2 (by simp)
  have h3 := hb 3 (by simp)
  exact number_cells w g o n c a0 a1 a2 a3 h0 h1 h2 h3 hn

/-- The reader behind the pointer to block p has bs left, from place o of block g on, and the error err. -/
structure RdAt (w : World) (p g o c : Nat) (bs : List UInt8) (err : Nat) : Prop where
  blk : Blk w p 191 #[.slice (some ⟨g, o, none⟩) bs.length c, .int .i64 (err : Int)]
  ne : g ≠ p
  le : bs.length ≤ c
  max : c ≤ maxLen
  bytes : BytesAt w g o bs
def Rd (w : World) (p g : Nat) (bs : List UInt8) (err : Nat) : Prop := ∃ o c, RdAt w p g o c bs err

theorem RdAt.kept {S : List Nat} {w w' : World} {p g o c : Nat} {bs : List UInt8} {err : Nat} (h : RdAt w p g o c bs err) (k : Only S w w') (hp : p ∉ S) (hg : g ∉ S) : RdAt w' p g o c bs err :=
  ⟨h.blk.kept k hp, h.ne, h.le, h.max, h.bytes.kept k hg⟩
theorem Rd.kept {S : List Nat} {w w' : World} {p g : Nat} {bs : List UInt8} {err : Nat} (h : Rd w p g bs err) (k : Only S w w') (hp : p ∉ S) (hg : g ∉ S) : Rd w' p g bs err := by
  obtain ⟨o, c, h⟩ := h
  exact ⟨o, c, h.kept k hp hg⟩
theorem RdAt.drewN {w : World} {p g o c : Nat} {bs : List UInt8} {err : Nat} (h : RdAt w p g o c bs err) (m : Nat) : RdAt (w.drewN m) p g o c bs err := ⟨h.blk, h.ne, h.le, h.max, h.bytes⟩
theorem Rd.drewN {w : World} {p g : Nat} {bs : List UInt8} {err : Nat} (h : Rd w p g bs err) (m : Nat) : Rd (w.drewN m) p g bs err := by
  obtain ⟨o, c, h⟩ := h
  exact ⟨o, c, h.drewN m⟩
theorem RdAt.c0 {w : World} {p g o c : Nat} {bs : List UInt8} {err : Nat} (h : RdAt w p g o c bs err) : w.cell? ⟨p, 0, none⟩ = some (.slice (some ⟨g, o, none⟩) bs.length c) := by simpa using h.blk.cell 0
theorem RdAt.c1 {w : World} {p g o c : Nat} {bs : List UInt8} {err : Nat} (h : RdAt w p g o c bs err) : w.cell? ⟨p, 1, none⟩ = some (.int .i64 (err : Int)) := by simpa using h.blk.cell 1

theorem err_any (w : World) (p g o c : Nat) (bs : List UInt8) (err : Nat) (h : RdAt w p g o c bs err) :
    Calls Tryz.prog 102 #[.pointer (some ⟨p, 0, none⟩)] w fun e w' => e = .returned (.int .i64 (err : Int)) ∧ w = w' := by
  have h1 := h.c1
  go_enter Tryz.func102, Tryz.ntmps102
  go_wp2
  go_ret
  exact ⟨rfl, rfl⟩
theorem fail_any (w : World) (p g : Nat) (bs : List UInt8) (err e' : Nat) (h : Rd w p g bs err) :
    Calls Tryz.prog 131 #[.pointer (some ⟨p, 0, none⟩), .int .i64 (e' : Int)] w fun e w' => e = .returned (.tuple #[]) ∧ Rd w' p g bs e' ∧ Only [p] w w' := by
  obtain ⟨o, c, h⟩ := h
  have h1 := h.c1
  have f1 := h.blk.free 1
  have hdone : Rd (w.setCell ⟨p, 1, none⟩ (.int .i64 (e' : Int))) p g bs e' ∧ Only [p] w (w.setCell ⟨p, 1, none⟩ (.int .i64 (e' : Int))) := by
    have k : Only [p] w (w.setCell ⟨p, 1, none⟩ (.int .i64 (e' : Int))) := (Only.refl [p] w).setCell (.inl (by simp)) _
    exact ⟨⟨o, c, by simpa using h.blk.set 1 (.int .i64 (e' : Int)), h.ne, h.le, h.max, h.bytes.kept k (by simpa using h.ne)⟩, k⟩
  have H := Lib.hid hdone
  clear hdone
  go_enter Tryz.func131, Tryz.ntmps131
  go_wp2
  go_end0
  exact ⟨rfl, H.out⟩
theorem consume_done {w : World} {p g o c n : Nat} {bs : List UInt8} {err : Nat} (h : RdAt w p g o c bs err) (o' : Nat) (ho : n < c → o' = o + n) :
    Rd (w.setCell ⟨p, 0, none⟩ (.slice (some ⟨g, o', none⟩) (bs.length - n) (c - n))) p g (bs.drop n) err ∧ Only [p] w (w.setCell ⟨p, 0, none⟩ (.slice (some ⟨g, o', none⟩) (bs.length - n) (c - n))) := by
  have k : Only [p] w (w.setCell ⟨p, 0, none⟩ (.slice (some ⟨g, o', none⟩) (bs.length - n) (c - n))) := (Only.refl [p] w).setCell (.inl (by simp)) _
  refine ⟨⟨o', c - n, by simpa using h.blk.set 0 (.slice (some ⟨g, o', none⟩) (bs.length - n) (c - n)), h.ne, by have := h.le; simp; omega, by have := h.max; omega, ?_⟩, k⟩
  by_cases hc : n < c
  · obtain rfl := ho hc
    exact (h.bytes.kept k (by simpa using h.ne)).drop n
  · have := h.le
    rw [List.drop_of_length_le (by omega)]
    exact BytesAt.nil _ _ _

theorem consume_any (w : World) (p g o c : Nat) (bs : List UInt8) (err : Nat) (A : Option Addr) (n c' : Nat) (h : RdAt w p g o c bs err) (hn : n ≤ bs.length) :
    Calls Tryz.prog 129 #[.pointer (some ⟨p, 0, none⟩), .slice A n c'] w fun e w' => e = .returned (.tuple #[]) ∧ Rd w' p g (bs.drop n) err ∧ Only [p] w w' := by
  have h0 := h.c0
  have f0 := h.blk.free 0
  have hm := h.max
  have hle := h.le
  unfold maxLen at hm
  have H1 := Lib.hid (consume_done (n := n) h (o + n) (fun _ => rfl))
  have H2 := Lib.hid (consume_done (n := n) (o' := o) h)
  clear h
  go_enter Tryz.func129, Tryz.ntmps129
  go_wp2
  · have hcn : c = n := by assumption
    have h2 := H2.out (by intro h; omega)
    rw [show c - n = 0 by omega] at h2
    go_end0
    exact ⟨rfl, h2⟩
  · go_end0
    exact ⟨rfl, H1.out⟩

attribute [local go_sem] Forth.normal Forth.exit Forth.ret Forth.panic

theorem next_err (w : World) (p g o c : Nat) (bs : List UInt8) (err : Nat) (n : Int) (h : RdAt w p g o c bs err) (he : err ≠ 0) :
    Calls Tryz.prog 128 #[.pointer (some ⟨p, 0, none⟩), .int .u64 n] w fun e w' => e = .returned (.tuple #[.slice none 0 0, .int .i64 (err : Int)]) ∧ w = w' := by
  have he' : ((err : Int) != 0) = true := by simp; omega
  go_enter Tryz.func128, Tryz.ntmps128
  go_wp2_with fail
  refine wp_scope_forth 0 rfl ?_
  go_wp2_with fail
  refine (err_any _ p g o c bs err h).mono ?_
  rintro e w1 ⟨rfl, rfl⟩
  go_wp2_with fail
  go_step3
  refine ⟨rfl, ?_⟩
  go_wp2
  rw [Exit.noGoto_ret]
  go_ret2
  exact ⟨rfl, rfl⟩

theorem next_short (w : World) (p g o c : Nat) (bs : List UInt8) (n : Int) (h : RdAt w p g o c bs 0) (hn : (bs.length : Int) < n) :
    Calls Tryz.prog 128 #[.pointer (some ⟨p, 0, none⟩), .int .u64 n] w fun e w' => e = .returned (.tuple #[.slice none 0 0, .int .i64 2]) ∧ w = w' := by
  have h0 := h.c0
  have hm := h.max
  have hle := h.le
  have hl : bs.length ≤ 9223372036854775807 := by unfold maxLen at hm; omega
  clear hm hle
  go_enter Tryz.func128, Tryz.ntmps128
  go_wp2_with fail
  refine wp_scope_forth 0 rfl ?_
  go_wp2_with fail
  refine (err_any _ p g o c bs 0 h).mono ?_
  rintro e w1 ⟨rfl, rfl⟩
  go_wp2_with fail
  go_step3
  refine ⟨rfl, ?_⟩
  go_wp2
  rw [Exit.noGoto_ret]
  go_ret2
  exact ⟨rfl, rfl⟩

theorem next_ok (w : World) (p g o c : Nat) (bs : List UInt8) (x : Int) (n : Nat) (hx : x = n) (h : RdAt w p g o c bs 0) (hn : n ≤ bs.length) :
    Calls Tryz.prog 128 #[.pointer (some ⟨p, 0, none⟩), .int .u64 x] w fun e w' => e = .returned (.tuple #[.slice (some ⟨g, o, none⟩) n c, .int .i64 0]) ∧ w = w' := by
  have h0 := h.c0
  have hm := h.max
  have hle := h.le
  have hl : bs.length ≤ 9223372036854775807 := by unfold maxLen at hm; omega
  subst hx
  clear hm
  go_enter Tryz.func128, Tryz.ntmps128
  go_wp2_with fail
  refine wp_scope_forth 0 rfl ?_
  go_wp2_with fail
  refine (err_any _ p g o c bs 0 h).mono ?_
  rintro e w1 ⟨rfl, rfl⟩
  go_wp2_with fail
  rw [Forth.ret]
  go_ret2
  exact ⟨rfl, rfl⟩

/-- The error of a read that lacks bytes. -/
def lackE (err : Nat) : Nat := if err = 0 then 2 else err
theorem lackE_ne (err : Nat) : lackE err ≠ 0 := by unfold lackE; split <;> omega

/-- 'next' where the reader has an error, or bytes lack. -/
theorem next_fail (w : World) (p g o c : Nat) (bs : List UInt8) (err : Nat) (n : Int) (h : RdAt w p g o c bs err) (hn : err ≠ 0 ∨ (bs.length : Int) < n) :
    Calls Tryz.prog 128 #[.pointer (some ⟨p, 0, none⟩), .int .u64 n] w fun e w' => e = .returned (.tuple #[.slice none 0 0, .int .i64 (lackE err : Nat)]) ∧ w = w' := by
  by_cases he : err = 0
  · subst he
    exact next_short w p g o c bs n h (hn.resolve_left (by simp))
  · have := next_err w p g o c bs err n h he
    unfold lackE
    rw [if_neg he]
    exact this

/-- What a read leaves, behind a name: its value, what is left, and that the reader alone has turned. -/
def Took (w : World) (p g : Nat) (v : Value) (bs : List UInt8) (err : Nat) (e : Ending) (w' : World) : Prop := e = .returned v ∧ Rd w' p g bs err ∧ Only [p] w w'

theorem number_fail (w : World) (p g o c : Nat) (bs : List UInt8) (err : Nat) (h : RdAt w p g o c bs err) (hn : err ≠ 0 ∨ (bs.length : Int) < 4) :
    Calls Tryz.prog 97 #[.pointer (some ⟨p, 0, none⟩)] w (Took w p g (.int .u32 0) bs (lackE err)) := by
  have hne : (((lackE err : Nat) : Int) != 0) = true := by have := lackE_ne err; simp; omega
  go_enter Tryz.func97, Tryz.ntmps97
  go_wp2_with fail
  refine wp_scope_forth 0 rfl ?_
  go_wp2_with fail
  refine (next_fail _ p g o c bs err _ h hn).mono ?_
  rintro e w1 ⟨rfl, rfl⟩
  go_wp2_with fail
  go_step3
  refine ⟨rfl, ?_⟩
  go_wp2_with fail
  refine (fail_any _ p g bs err _ ⟨o, c, h⟩).mono ?_
  rintro e w1 ⟨rfl, h1, k1⟩
  go_wp2
  rw [Exit.noGoto_ret]
  go_ret
  exact ⟨rfl, h1, k1⟩

theorem number_ok (w : World) (p g o c : Nat) (bs : List UInt8) (h : RdAt w p g o c bs 0) (hn : 4 ≤ bs.length) :
    Calls Tryz.prog 97 #[.pointer (some ⟨p, 0, none⟩)] w (Took w p g (.int .u32 (hd4 bs : Nat)) (bs.drop 4) 0) := by
  go_enter Tryz.func97, Tryz.ntmps97
  go_wp2_with fail
  refine wp_scope_forth 0 rfl ?_
  go_wp2_with fail
  refine (next_ok _ p g o c bs _ 4 rfl h hn).mono ?_
  rintro e w1 ⟨rfl, rfl⟩
  go_wp2_with fail
  refine (consume_any _ p g o c bs 0 _ 4 c h hn).mono ?_
  rintro e w1 ⟨rfl, h1, k1⟩
  have hb := h.bytes.kept k1 (by simpa using h.ne)
  go_wp2_with fail
  refine (number_any _ g o 4 c bs hb hn (Nat.le_refl _)).mono ?_
  rintro e w2 ⟨rfl, m, rfl⟩
  go_wp2
  rw [Forth.ret]
  go_ret
  exact ⟨rfl, h1.drewN m, k1.drewN m⟩

theorem rnum_any (w : World) (p g : Nat) (bs : List UInt8) (err : Nat) (h : Rd w p g bs err) :
    Calls Tryz.prog 97 #[.pointer (some ⟨p, 0, none⟩)] w (Took w p g (.int .u32 ((rNumber bs err).1 : Int)) (rNumber bs err).2.1 (rNumber bs err).2.2) := by
  obtain ⟨o, c, h⟩ := h
  unfold rNumber
  by_cases he : err ≠ 0
  · rw [if_pos he]
    have := number_fail w p g o c bs err h (.inl he)
    rwa [show lackE err = err by unfold lackE; rw [if_neg he]] at this
  · rw [if_neg he]
    have he0 : err = 0 := by omega
    subst he0
    by_cases hl : bs.length < 4
    · rw [if_pos hl]
      exact number_fail w p g o c bs 0 h (.inr (by omega))
    · rw [if_neg hl]
      exact number_ok w p g o c bs h (by omega)

def NewRd2 (w : World) (bs : List UInt8) (e : Ending) (w' : World) : Prop :=
  ∃ p g, e = .returned (.pointer (some ⟨p, 0, none⟩)) ∧ Rd w' p g bs 0 ∧ w.heap.size ≤ p ∧ w.heap.size ≤ g ∧ Only [] w w' ∧ g < w'.heap.size

theorem newReader_two (w : World) (s : ByteArray) (hs : s.size ≤ 140737488351232) :
    Calls Tryz.prog 96 #[.string s] w (NewRd2 w s.data.toList) := by
  have hl : s.data.toList.length = s.size := by simp
  have HL := Lib.hid hl
  clear hl
  go_enter Tryz.func96, Tryz.ntmps96
  go_wp2_with (refine wpList_to_bytes _ rfl 9 91 5 (.tmp 3) rfl Tryz.underlying9 Tryz.underlying91 Tryz.underlying5 s rfl (by unfold maxLen; omega) ?_; intro w2 c k2 hc1 hc2 hb2 hlt2)
  go_ret
  have hlen := HL.out
  have hnew := Blk.new w2 191 #[.slice (some ⟨w.heap.size, 0, none⟩) s.size c, .int .i64 0]
  refine ⟨w2.heap.size, w.heap.size, rfl, ⟨0, c, ⟨by rw [hlen]; exact hnew, by omega, by rw [hlen]; exact hc1, hc2, hb2.kept ((Only.refl [] w2).alloc _) (by simp)⟩⟩, k2.size, Nat.le_refl _, k2.alloc _, by simp; omega⟩

end Go.Proofs.YthpjkhmkjhgbkaaGreatDoor

/-! === Xdr2 === -/
/- Package xdr's texts: a writer's Text; a reader's Text, Left, Err; and what they say of bytes. (Out of stage 2's texts.) -/
namespace Go.Proofs.YthpjkhmkjhgbkaaGreatDoor
open Go.RowKit

attribute [local go_sem] Forth.normal Forth.exit Forth.ret Forth.panic

/-- How many zero bytes follow n bytes of a text. -/
theorem size_u8 : ∀ w, (Go.sizeOf 5).run Tryz.prog w = .ok 1 w := fun _ => by kernel_rfl
def padN (n : Nat) : Nat := (4 - n % 4) % 4
def zeros (n : Nat) : List UInt8 := List.replicate n 0
/-- A text's bytes. -/
def encT (s : List UInt8) : List UInt8 := be4 s.length ++ (s ++ zeros (padN s.length))
theorem encT_length (l : List UInt8) : (encT l).length = 4 + l.length + padN l.length := by simp [encT, be4_length, zeros]; omega
def rText (most : Int) (bs : List UInt8) (err : Nat) : List UInt8 × List UInt8 × Nat :=
  if err ≠ 0 then ([], bs, err) else if bs.length < 4 then ([], bs, 2) else if most < (hd4 bs : Int) then ([], bs, 4)
  else if bs.length < 4 + hd4 bs + padN (hd4 bs) then ([], bs, 2) else if ((bs.drop (4 + hd4 bs)).take (padN (hd4 bs))).any (· != 0) then ([], bs, 3)
  else ((bs.drop 4).take (hd4 bs), bs.drop (4 + hd4 bs + padN (hd4 bs)), 0)

theorem hd4_be4 (n : Nat) (r : List UInt8) (h : n < 4294967296) : hd4 (be4 n ++ r) = n := by
  show decB (UInt8.ofNat (n / 16777216)) (UInt8.ofNat (n / 65536)) (UInt8.ofNat (n / 256)) (UInt8.ofNat n) = n
  unfold decB
  simp
  omega
theorem be4_hd4 (bs : List UInt8) (h : 4 ≤ bs.length) : be4 (hd4 bs) ++ bs.drop 4 = bs := by
  obtain ⟨a, b, c, d, r, rfl⟩ := four bs h
  have h0 := a.toNat_lt; have h1 := b.toNat_lt; have h2 := c.toNat_lt; have h3 := d.toNat_lt
  have e : ∀ (x : UInt8) (n : Nat), n % 256 = x.toNat → UInt8.ofNat n = x := fun x n hn => by
    apply UInt8.toNat_inj.1
    simpa using hn
  show UInt8.ofNat (decB a b c d / 16777216) :: UInt8.ofNat (decB a b c d / 65536) :: UInt8.ofNat (decB a b c d / 256) :: UInt8.ofNat (decB a b c d) :: r = _
  unfold decB
  rw [e a _ (by omega), e b _ (by omega), e c _ (by omega), e d _ (by omega)]
theorem rNumber_be4 (n : Nat) (r : List UInt8) (h : n < 4294967296) : rNumber (be4 n ++ r) 0 = (n, r, 0) := by
  unfold rNumber
  rw [if_neg (by simp), if_neg (by simp [be4_length]), hd4_be4 n r h]
  rfl
theorem take_append_len {l r : List UInt8} {n : Nat} (h : l.length = n) : (l ++ r).take n = l := by rw [← h]; exact List.take_left
theorem drop_append_len {l r : List UInt8} {n : Nat} (h : l.length = n) : (l ++ r).drop n = r := by rw [← h]; exact List.drop_left
theorem zeros_any (n : Nat) : (zeros n).any (· != 0) = false := by
  unfold zeros
  simp
theorem rText_encT (most : Int) (s r : List UInt8) (hm : (s.length : Int) ≤ most) (h : s.length < 4294967296) : rText most (encT s ++ r) 0 = (s, r, 0) := by
  have hd : hd4 (encT s ++ r) = s.length := by unfold encT; rw [List.append_assoc]; exact hd4_be4 _ _ h
  have hl := encT_length s
  have e1 : (encT s ++ r).drop 4 = (s ++ zeros (padN s.length)) ++ r := by unfold encT; rw [List.append_assoc]; exact drop_append_len (be4_length _)
  have e2 : (encT s ++ r).drop (4 + s.length) = zeros (padN s.length) ++ r := by rw [← List.drop_drop, e1, List.append_assoc]; exact drop_append_len rfl
  unfold rText
  rw [if_neg (by simp), if_neg (by rw [List.length_append]; omega), hd, if_neg (by omega), if_neg (by rw [List.length_append]; omega), e2, take_append_len (by simp [zeros]), zeros_any, if_neg (by simp), e1, List.append_assoc, take_append_len rfl]
  rw [show (encT s ++ r).drop (4 + s.length + padN s.length) = r from drop_append_len (by omega)]
/-! ### What was read, written anew. -/
theorem rNumber_one (bs : List UInt8) (h : (rNumber bs 0).2.2 = 0) : be4 (rNumber bs 0).1 ++ (rNumber bs 0).2.1 = bs := by
  unfold rNumber at *
  rw [if_neg (by simp)] at *
  by_cases h4 : bs.length < 4
  · rw [if_pos h4] at h; simp at h
  · rw [if_neg h4]
    exact be4_hd4 bs (by omega)
theorem all_zero (l : List UInt8) (h : l.any (· != 0) = false) : l = zeros l.length := by
  apply List.ext_getElem
  · simp [zeros]
  · intro j h1 h2
    have := List.any_eq_false.1 h l[j] (List.getElem_mem h1)
    simp [zeros] at this ⊢
    exact this
theorem rText_one (most : Int) (bs : List UInt8) (h : (rText most bs 0).2.2 = 0) : encT (rText most bs 0).1 ++ (rText most bs 0).2.1 = bs ∧ ((rText most bs 0).1.length : Int) ≤ most := by
  unfold rText at *
  rw [if_neg (by simp)] at *
  by_cases h4 : bs.length < 4
  · rw [if_pos h4] at h; simp at h
  rw [if_neg h4] at *
  by_cases h1 : most < (hd4 bs : Int)
  · rw [if_pos h1] at h; simp at h
  rw [if_neg h1] at *
  by_cases h2 : bs.length < 4 + hd4 bs + padN (hd4 bs)
  · rw [if_pos h2] at h; simp at h
  rw [if_neg h2] at *
  by_cases h3 : ((bs.drop (4 + hd4 bs)).take (padN (hd4 bs))).any (· != 0) = true
  · rw [if_pos h3] at h; simp at h
  rw [if_neg h3]
  simp only
  have hz := all_zero _ (by simpa using h3)
  have hzl : ((bs.drop (4 + hd4 bs)).take (padN (hd4 bs))).length = padN (hd4 bs) := by simp; omega
  rw [hzl] at hz
  have hl : ((bs.drop 4).take (hd4 bs)).length = hd4 bs := by simp; omega
  refine ⟨?_, by rw [hl]; omega⟩
  unfold encT
  rw [hl, ← hz, List.append_assoc, List.append_assoc]
  have e1 : (bs.drop (4 + hd4 bs)).take (padN (hd4 bs)) ++ bs.drop (4 + hd4 bs + padN (hd4 bs)) = bs.drop (4 + hd4 bs) := by
    rw [show bs.drop (4 + hd4 bs + padN (hd4 bs)) = (bs.drop (4 + hd4 bs)).drop (padN (hd4 bs)) by rw [List.drop_drop], List.take_append_drop]
  rw [e1]
  have e2 : (bs.drop 4).take (hd4 bs) ++ bs.drop (4 + hd4 bs) = bs.drop 4 := by
    rw [show bs.drop (4 + hd4 bs) = (bs.drop 4).drop (hd4 bs) by rw [List.drop_drop], List.take_append_drop]
  rw [e2]
  exact be4_hd4 bs (by omega)
/-! ### An error stays. -/
theorem rNumber_err (b : List UInt8) (e : Nat) (h : e ≠ 0) : rNumber b e = (0, b, e) := by unfold rNumber; rw [if_pos h]
theorem rText_err (m : Int) (b : List UInt8) (e : Nat) (h : e ≠ 0) : rText m b e = ([], b, e) := by unfold rText; rw [if_pos h]
theorem rNumber_len (bs : List UInt8) (e : Nat) : (rNumber bs e).2.1.length ≤ bs.length := by
  unfold rNumber
  repeat' split
  all_goals simp
theorem rText_len (m : Int) (bs : List UInt8) (e : Nat) : (rText m bs e).2.1.length ≤ bs.length := by
  unfold rText
  repeat' split
  all_goals simp

theorem padN_lt (n : Nat) : padN n < 4 := by unfold padN; omega
theorem padding_any (w : World) (x : Int) (n : Nat) (hx : x = n) (hn : n < 18446744073709551616) :
    Calls Tryz.prog 140 #[.int .u64 x] w fun e w' => e = .returned (.int .u64 (padN n : Nat)) ∧ w = w' := by
  have h0 : 0 ≤ x := by omega
  have h1 : x < 18446744073709551616 := by omega
  have e : ((padN n : Nat) : Int) = (4 - x % 4) % 4 := by unfold padN; omega
  rw [e]
  clear e hx
  go_enter Tryz.func140, Tryz.ntmps140
  go_wp2
  go_ret
  exact ⟨rfl, rfl⟩
set_option maxHeartbeats 400000 in
theorem wtext_any (w : World) (p : Nat) (F : List Nat) (bs : List UInt8) (s : ByteArray) (hw : Wr w p F bs) (hlen : bs.length + s.size + 8 ≤ 1048576) :
    Calls Tryz.prog 112 #[.pointer (some ⟨p, 0, none⟩), .string s] w (Gives (fun w' => Wrote w w' p F (bs ++ encT s.data.toList))) := by
  have hs : s.size ≤ 1048576 := by omega
  have hl : s.data.toList.length = s.size := by simp
  have hpad := padN_lt s.size
  have hp0 := hw.lt
  go_enter Tryz.func112, Tryz.ntmps112
  go_wp2_with fail
  refine (wnumber_any _ p F bs _ s.size (by omega) (by omega) hw (by omega)).mono ?_
  rintro e w1 ⟨rfl, hw1⟩
  obtain ⟨F1, a1, a2, a3⟩ := hw1
  have H3 := Lib.hid a3
  clear a3
  go_wp2_with (refine wpList_to_bytes _ rfl 9 91 5 (.tmp 13) rfl Tryz.underlying9 Tryz.underlying91 Tryz.underlying5 s rfl (by unfold maxLen; omega) ?_; intro w2 c k2 hc1 hc2 hb2 hlt2)
  have hsrc := SrcV.of_bytes c hb2
  rw [hl] at hsrc
  have hsrc' := hsrc
  rw [← hl] at hsrc'
  refine (put_any _ p F1 _ _ s.data.toList (a1.kept k2 (by simp) (by simp)) (by rw [hl]; exact hsrc) (by simp [be4_length]; omega)).mono ?_
  rintro e w3 ⟨rfl, hw3⟩
  have hw3' := hw3.from k2
  obtain ⟨F3, b1, b2, b3⟩ := hw3'
  have H5 := Lib.hid b3
  clear b3 hw3 hsrc hsrc' hb2
  obtain ⟨i0, hi, hz0, hz1, hz2⟩ := info_parts info_u8
  go_wp2_with fail
  refine (padding_any _ _ s.size (by omega) (by omega)).mono ?_
  rintro e w4 ⟨rfl, rfl⟩
  go_wp2_with (refine wpList_make_full _ rfl (.tmp 18) (.tmp 18) 91 rfl 0 5 i0 (.int .u8 0) 1 Tryz.underlying91 hi hz0 hz1 .u64 .u64 _ _ (padN s.size) rfl rfl rfl rfl ?c1 ?c2 ?c3 ?go)
  case c1 => rw [hz2]; omega
  case c2 => unfold maxLen; omega
  case c3 => omega
  case go =>
    intro w5 hown5 hg5
    have k5 : Only [] w3 w5 := (Only.refl [] w3).grown hg5 (by intro k hk; cases hk)
    rw [madeCells_bytes] at hown5
    have hsrc5 := ownsRow_src hown5
    clear hown5
    go_wp2_with fail
    refine (put_any _ p F3 _ _ (zeros (padN s.size)) (b1.kept k5 (by simp) (by simp)) (by simpa [zeros] using hsrc5) (by simp [be4_length, zeros]; omega)).mono ?_
    rintro e w6 ⟨rfl, hw6⟩
    have hw6' := hw6.from k5
    go_wp2
    go_end0
    refine ⟨rfl, Wrote.join a2 H3.out (Wrote.join b2 H5.out ?_)⟩
    simpa [encT] using hw6'
theorem left_any (w : World) (p g o c : Nat) (bs : List UInt8) (err : Nat) (h : RdAt w p g o c bs err) :
    Calls Tryz.prog 103 #[.pointer (some ⟨p, 0, none⟩)] w fun e w' => e = .returned (.int .i64 (bs.length : Int)) ∧ w = w' := by
  have h1 := h.c0
  go_enter Tryz.func103, Tryz.ntmps103
  go_wp2
  go_ret
  exact ⟨rfl, rfl⟩
theorem length_fail (w : World) (p g o c : Nat) (bs : List UInt8) (err : Nat) (most : Int) (h : RdAt w p g o c bs err) (hn : err ≠ 0 ∨ (bs.length : Int) < 4) :
    Calls Tryz.prog 139 #[.pointer (some ⟨p, 0, none⟩), .int .i64 most] w fun e w' => e = .returned (.tuple #[.int .u64 0, .int .i64 (lackE err : Nat)]) ∧ w = w' := by
  have hne : (((lackE err : Nat) : Int) != 0) = true := by have := lackE_ne err; simp; omega
  go_enter Tryz.func139, Tryz.ntmps139
  go_wp2_with fail
  refine wp_scope_forth 0 rfl ?_
  go_wp2_with fail
  refine (next_fail _ p g o c bs err _ h hn).mono ?_
  rintro e w1 ⟨rfl, rfl⟩
  go_wp2_with fail
  go_step3
  refine ⟨rfl, ?_⟩
  go_wp2
  rw [Exit.noGoto_ret]
  go_ret2
  exact ⟨rfl, rfl⟩
theorem length_more (w : World) (p g o c : Nat) (bs : List UInt8) (most : Int) (h : RdAt w p g o c bs 0) (hn : 4 ≤ bs.length) (hm : most < (hd4 bs : Nat)) :
    Calls Tryz.prog 139 #[.pointer (some ⟨p, 0, none⟩), .int .i64 most] w fun e w' => e = .returned (.tuple #[.int .u64 0, .int .i64 4]) ∧ ∃ m, w' = w.drewN m := by
  have l1 := hd4_lt bs
  have l1' : ((hd4 bs : Nat) : Int) < 4294967296 := by omega
  by_cases h0 : most < 0
  · go_enter Tryz.func139, Tryz.ntmps139
    go_wp2_with fail
    refine wp_scope_forth 0 rfl ?_
    go_wp2_with fail
    refine (next_ok _ p g o c bs _ 4 rfl h hn).mono ?_
    rintro e w1 ⟨rfl, rfl⟩
    go_wp2_with fail
    refine (number_any _ g o 4 c bs h.bytes hn (Nat.le_refl _)).mono ?_
    rintro e w2 ⟨rfl, m, rfl⟩
    go_wp2_with fail
    go_step3
    refine ⟨rfl, ?_⟩
    go_wp2
    rw [Exit.noGoto_ret]
    go_ret2
    exact ⟨rfl, _, rfl⟩
  · have h0' : 0 ≤ most := by omega
    have h2 : most < 4294967296 := by omega
    go_enter Tryz.func139, Tryz.ntmps139
    go_wp2_with fail
    refine wp_scope_forth 0 rfl ?_
    go_wp2_with fail
    refine (next_ok _ p g o c bs _ 4 rfl h hn).mono ?_
    rintro e w1 ⟨rfl, rfl⟩
    go_wp2_with fail
    refine (number_any _ g o 4 c bs h.bytes hn (Nat.le_refl _)).mono ?_
    rintro e w2 ⟨rfl, m, rfl⟩
    go_wp2_with fail
    go_step3
    refine ⟨rfl, ?_⟩
    go_wp2
    rw [Exit.noGoto_ret]
    go_ret2
    exact ⟨rfl, _, rfl⟩
theorem number_is (w : World) (g o n c : Nat) (l : List UInt8) (q : Nat) (hq : hd4 l = q) (hb : BytesAt w g o l) (hl : 4 ≤ l.length) (hn : 4 ≤ n) :
    Calls Tryz.prog 130 #[.slice (some ⟨g, o, none⟩) n c] w fun e w' => e = .returned (.int .u32 (q : Int)) ∧ ∃ m, w' = w.drewN m := by
  subst hq
  exact number_any w g o n c l hb hl hn
theorem length_is (w : World) (p g o c : Nat) (bs : List UInt8) (M q : Nat) (hq : hd4 bs = q) (h : RdAt w p g o c bs 0) (hn : 4 ≤ bs.length) (hm : q ≤ M) (hw : M ≤ 9223372036854775807) :
    Calls Tryz.prog 139 #[.pointer (some ⟨p, 0, none⟩), .int .i64 (M : Int)] w fun e w' => e = .returned (.tuple #[.int .u64 (q : Int), .int .i64 0]) ∧ ∃ m, w' = w.drewN m := by
  have HQ := Lib.hid hq
  clear hq
  go_enter Tryz.func139, Tryz.ntmps139
  go_wp2_with fail
  refine wp_scope_forth 0 rfl ?_
  go_wp2_with fail
  refine (next_ok _ p g o c bs _ 4 rfl h hn).mono ?_
  rintro e w1 ⟨rfl, rfl⟩
  go_wp2_with fail
  refine (number_is _ g o 4 c bs q HQ.out h.bytes hn (Nat.le_refl _)).mono ?_
  rintro e w2 ⟨rfl, m, rfl⟩
  go_wp2
  rw [Forth.ret]
  go_ret2
  exact ⟨rfl, _, rfl⟩
theorem any_take (l : List UInt8) (k : Nat) (h : k < l.length) : (l.take (k + 1)).any (· != 0) = ((l.take k).any (· != 0) || l[k] != 0) := by
  rw [List.take_succ_eq_append_getElem h, List.any_append]
  simp
theorem any_at (l : List UInt8) (k : Nat) (h : k < l.length) (h0 : (l[k] != 0) = true) : l.any (· != 0) = true :=
  List.any_eq_true.2 ⟨l[k], List.getElem_mem h, h0⟩
set_option maxHeartbeats 400000 in
theorem zero_any (w : World) (g o c : Nat) (l : List UInt8) (hb : BytesAt w g o l) (hl : l.length ≤ 1048576) :
    Calls Tryz.prog 141 #[.slice (some ⟨g, o, none⟩) l.length c] w fun e w' => e = .returned (.bool (!l.any (· != 0))) ∧ w = w' := by
  have Hb := Lib.hid hb
  clear hb
  go_enter Tryz.func141, Tryz.ntmps141
  go_wp2
  go_loop [7] (fun i => ∃ k : Nat, k ≤ l.length ∧ i = .int .i64 k ∧ (l.take k).any (· != 0) = false) (fun i => l.length - (intOf i).toNat)
  case atStart => exact ⟨0, Nat.zero_le _, rfl, by simp⟩
  case round =>
    obtain ⟨k, hk, rfl, hz⟩ := hrel
    have HZ := Lib.hid hz
    clear hz
    by_cases hlt : k < l.length
    · have hcell := Hb.out k hlt
      unfold byteV at hcell
      by_cases h0 : l[k] = 0
      · have ht : ((l[k].toNat : Int) != 0) = false := by rw [h0]; rfl
        go_wp2
        go_round
        case rel => exact ⟨k + 1, by omega, by go_num, by rw [any_take l k hlt, HZ.out, h0]; rfl⟩
        case measure => simp [intOf]; omega
      · have h1 : (l[k] != 0) = true := by simpa using h0
        have ht : ((l[k].toNat : Int) != 0) = true := by
          simp only [bne_iff_ne, ne_eq]
          intro e
          apply h0
          apply UInt8.toNat_inj.1
          have : l[k].toNat = 0 := by omega
          simpa using this
        have hany := Lib.hid (any_at l k hlt h1)
        clear h1
        go_wp2
        go_ret
        exact ⟨by rw [hany.out]; rfl, rfl⟩
    · obtain rfl : k = l.length := by omega
      go_wp2
      go_ret
      have := HZ.out
      rw [List.take_length] at this
      exact ⟨by rw [this]; rfl, rfl⟩
theorem zero_is (w : World) (g o c n : Nat) (l : List UInt8) (r : Bool) (hl : l.length = n) (hr : (!l.any (· != 0)) = r) (hb : BytesAt w g o l) (hn : n ≤ 1048576) :
    Calls Tryz.prog 141 #[.slice (some ⟨g, o, none⟩) n c] w fun e w' => e = .returned (.bool r) ∧ w = w' := by
  subst hl
  subst hr
  exact zero_any w g o c l hb hn
theorem BytesAt.drewN {w : World} {g o : Nat} {l : List UInt8} (h : BytesAt w g o l) (m : Nat) : BytesAt (w.drewN m) g o l := h
theorem text_fail (w : World) (p g o c : Nat) (bs : List UInt8) (err : Nat) (most : Int) (h : RdAt w p g o c bs err) (hn : err ≠ 0 ∨ (bs.length : Int) < 4) :
    Calls Tryz.prog 101 #[.pointer (some ⟨p, 0, none⟩), .int .i64 most] w (Took w p g (.string ⟨#[]⟩) bs (lackE err)) := by
  have hne : (((lackE err : Nat) : Int) != 0) = true := by have := lackE_ne err; simp; omega
  go_enter Tryz.func101, Tryz.ntmps101
  go_wp2_with fail
  refine wp_scope_forth 0 rfl ?_
  go_wp2_with fail
  refine (length_fail _ p g o c bs err most h hn).mono ?_
  rintro e w1 ⟨rfl, rfl⟩
  go_wp2_with fail
  go_step3
  refine ⟨rfl, ?_⟩
  go_wp2_with fail
  refine (fail_any _ p g bs err _ ⟨o, c, h⟩).mono ?_
  rintro e w1 ⟨rfl, h1, k1⟩
  go_wp2
  rw [Exit.noGoto_ret]
  go_ret
  exact ⟨rfl, h1, k1⟩
theorem text_more (w : World) (p g o c : Nat) (bs : List UInt8) (most : Int) (h : RdAt w p g o c bs 0) (hn : 4 ≤ bs.length) (hm : most < (hd4 bs : Nat)) :
    Calls Tryz.prog 101 #[.pointer (some ⟨p, 0, none⟩), .int .i64 most] w (Took w p g (.string ⟨#[]⟩) bs 4) := by
  have HM := Lib.hid hm
  clear hm
  go_enter Tryz.func101, Tryz.ntmps101
  go_wp2_with fail
  refine wp_scope_forth 0 rfl ?_
  go_wp2_with fail
  refine (length_more _ p g o c bs most h hn HM.out).mono ?_
  rintro e w1 ⟨rfl, m, rfl⟩
  go_wp2_with fail
  go_step3
  refine ⟨rfl, ?_⟩
  go_wp2_with fail
  refine (fail_any _ p g bs 0 4 ⟨o, c, h.drewN m⟩).mono ?_
  rintro e w1 ⟨rfl, h1, k1⟩
  go_wp2
  rw [Exit.noGoto_ret]
  go_ret
  exact ⟨rfl, h1, ((Only.refl [p] w).drewN m).trans k1⟩
theorem text_short (w : World) (p g o c : Nat) (bs : List UInt8) (M q : Nat) (hq : hd4 bs = q) (h : RdAt w p g o c bs 0) (hn : 4 ≤ bs.length) (hm : q ≤ M) (hw : M ≤ 9223372036854775807) (hs : bs.length < 4 + q + padN q) :
    Calls Tryz.prog 101 #[.pointer (some ⟨p, 0, none⟩), .int .i64 (M : Int)] w (Took w p g (.string ⟨#[]⟩) bs 2) := by
  have l1 := hd4_lt bs
  rw [hq] at l1
  have hp := padN_lt q
  have HQ := Lib.hid hq
  have HW := Lib.hid hw
  have HM := Lib.hid hm
  clear hq hw hm
  go_enter Tryz.func101, Tryz.ntmps101
  go_wp2_with fail
  refine wp_scope_forth 0 rfl ?_
  go_wp2_with fail
  refine (length_is _ p g o c bs M q HQ.out h hn HM.out HW.out).mono ?_
  rintro e w1 ⟨rfl, m, rfl⟩
  have h1 := h.drewN m
  go_wp2_with fail
  refine (padding_any _ _ q rfl (by omega)).mono ?_
  rintro e w4 ⟨rfl, rfl⟩
  go_wp2_with fail
  refine (next_short _ p g o c bs _ h1 (by omega)).mono ?_
  rintro e w1 ⟨rfl, rfl⟩
  go_wp2_with fail
  go_step3
  refine ⟨rfl, ?_⟩
  go_wp2_with fail
  refine (fail_any _ p g bs 0 2 ⟨o, c, h1⟩).mono ?_
  rintro e w1 ⟨rfl, h1, k1⟩
  go_wp2
  rw [Exit.noGoto_ret]
  go_ret
  exact ⟨rfl, h1, ((Only.refl [p] w).drewN m).trans k1⟩
theorem text_form (w : World) (p g o c : Nat) (bs : List UInt8) (M q : Nat) (hq : hd4 bs = q) (h : RdAt w p g o c bs 0) (hn : 4 ≤ bs.length) (hm : q ≤ M) (hw : M ≤ 9223372036854775807) (hs : 4 + q + padN q ≤ bs.length)
    (hz : ((bs.drop (4 + q)).take (padN q)).any (· != 0) = true) :
    Calls Tryz.prog 101 #[.pointer (some ⟨p, 0, none⟩), .int .i64 (M : Int)] w (Took w p g (.string ⟨#[]⟩) bs 3) := by
  have l1 := hd4_lt bs
  rw [hq] at l1
  have hp := padN_lt q
  have hle := h.le
  have HQ := Lib.hid hq
  have HW := Lib.hid hw
  have HM := Lib.hid hm
  have HZ := Lib.hid hz
  clear hq hw hm hz
  obtain ⟨o', ho', hsl⟩ := slice_tail (P := Tryz.prog) 91 5 Tryz.underlying91 size_u8 g o (4 + q + padN q) c (4 + q) .u64 (4 + (q : Int)) (by omega) (by omega)
  have hpl : ((bs.drop (4 + q)).take (padN q)).length = padN q := by simp; omega
  have HP := Lib.hid hpl
  clear hpl
  have hbz : BytesAt w g o' ((bs.drop (4 + q)).take (padN q)) := by
    by_cases hc : 4 + q < c
    · rw [ho' hc]
      exact (h.bytes.drop (4 + q)).take _
    · rw [show padN q = 0 by omega]
      exact BytesAt.nil _ _ _
  have HB := Lib.hid hbz
  clear hbz ho'
  go_enter Tryz.func101, Tryz.ntmps101
  go_wp2_with fail
  refine wp_scope_forth 0 rfl ?_
  go_wp2_with fail
  refine (length_is _ p g o c bs M q HQ.out h hn HM.out HW.out).mono ?_
  rintro e w1 ⟨rfl, m, rfl⟩
  have h1 := h.drewN m
  go_wp2_with fail
  refine (padding_any _ _ q rfl (by omega)).mono ?_
  rintro e w4 ⟨rfl, rfl⟩
  go_wp2_with fail
  refine (next_ok _ p g o c bs _ (4 + q + padN q) (by omega) h1 hs).mono ?_
  rintro e w1 ⟨rfl, rfl⟩
  go_wp2_with fail
  refine (zero_is _ g o' (c - (4 + q)) (padN q) _ false HP.out (by rw [HZ.out]; rfl) (HB.out.drewN m) (by omega)).mono ?_
  rintro e w1 ⟨rfl, rfl⟩
  go_wp2_with fail
  go_step3
  refine ⟨rfl, ?_⟩
  go_wp2_with fail
  refine (fail_any _ p g bs 0 3 ⟨o, c, h1⟩).mono ?_
  rintro e w1 ⟨rfl, h1, k1⟩
  go_wp2
  rw [Exit.noGoto_ret]
  go_ret
  exact ⟨rfl, h1, ((Only.refl [p] w).drewN m).trans k1⟩
set_option maxHeartbeats 400000 in
theorem text_ok (w : World) (p g o c : Nat) (bs : List UInt8) (M q : Nat) (hq : hd4 bs = q) (h : RdAt w p g o c bs 0) (hn : 4 ≤ bs.length) (hm : q ≤ M) (hw : M ≤ 9223372036854775807) (hs : 4 + q + padN q ≤ bs.length)
    (hz : ((bs.drop (4 + q)).take (padN q)).any (· != 0) = false) :
    Calls Tryz.prog 101 #[.pointer (some ⟨p, 0, none⟩), .int .i64 (M : Int)] w (Took w p g (.string (strOf ((bs.drop 4).take q))) (bs.drop (4 + q + padN q)) 0) := by
  have l1 := hd4_lt bs
  rw [hq] at l1
  have hp := padN_lt q
  have hle := h.le
  have hgp := h.ne
  have HQ := Lib.hid hq
  have HW := Lib.hid hw
  have HM := Lib.hid hm
  have HZ := Lib.hid hz
  clear hq hw hm hz
  obtain ⟨o', ho', hsl⟩ := slice_tail (P := Tryz.prog) 91 5 Tryz.underlying91 size_u8 g o (4 + q + padN q) c (4 + q) .u64 (4 + (q : Int)) (by omega) (by omega)
  have hpl : ((bs.drop (4 + q)).take (padN q)).length = padN q := by simp; omega
  have HP := Lib.hid hpl
  clear hpl
  have hbz : BytesAt w g o' ((bs.drop (4 + q)).take (padN q)) := by
    by_cases hc : 4 + q < c
    · rw [ho' hc]
      exact (h.bytes.drop (4 + q)).take _
    · rw [show padN q = 0 by omega]
      exact BytesAt.nil _ _ _
  have HB := Lib.hid hbz
  clear hbz ho'
  obtain ⟨o2, ho2, hsl2⟩ := slice_part (P := Tryz.prog) 91 5 Tryz.underlying91 size_u8 g o (4 + q + padN q) c 4 (4 + q) .i64 .u64 4 (4 + (q : Int)) (by omega) (by omega) (by omega) (by omega)
  have htl : ((bs.drop 4).take q).length = q := by simp; omega
  have HT := Lib.hid htl
  clear htl
  have hb2 : BytesAt w g o2 ((bs.drop 4).take q) := by
    by_cases hc : 4 < c
    · rw [ho2 hc]
      exact (h.bytes.drop 4).take _
    · rw [show q = 0 by omega]
      exact BytesAt.nil _ _ _
  have HB2 := Lib.hid hb2
  clear hb2 ho2
  go_enter Tryz.func101, Tryz.ntmps101
  go_wp2_with fail
  refine wp_scope_forth 0 rfl ?_
  go_wp2_with fail
  refine (length_is _ p g o c bs M q HQ.out h hn HM.out HW.out).mono ?_
  rintro e w1 ⟨rfl, m, rfl⟩
  have h1 := h.drewN m
  go_wp2_with fail
  refine (padding_any _ _ q rfl (by omega)).mono ?_
  rintro e w4 ⟨rfl, rfl⟩
  go_wp2_with fail
  refine (next_ok _ p g o c bs _ (4 + q + padN q) (by omega) h1 hs).mono ?_
  rintro e w1 ⟨rfl, rfl⟩
  go_wp2_with fail
  refine (zero_is _ g o' (c - (4 + q)) (padN q) _ true HP.out (by rw [HZ.out]; rfl) (HB.out.drewN m) (by omega)).mono ?_
  rintro e w1 ⟨rfl, rfl⟩
  go_wp2_with fail
  refine (consume_any _ p g o c bs 0 _ (4 + q + padN q) c h1 hs).mono ?_
  rintro e w1 ⟨rfl, h2, k2⟩
  have hsrc := SrcV.of_bytes (c - 4) ((HB2.out.drewN m).kept k2 (by simpa using hgp))
  rw [HT.out] at hsrc
  go_wp2_with (refine wpList_to_string _ rfl 91 9 5 (.tmp 40) rfl Tryz.underlying91 Tryz.underlying5 Tryz.underlying9 _ q (c - 4) ((bs.drop 4).take q) rfl hsrc ?_)
  rw [Forth.ret]
  go_ret
  exact ⟨rfl, h2, ((Only.refl [p] w).drewN m).trans k2⟩
theorem rtext_any (w : World) (p g : Nat) (bs : List UInt8) (err : Nat) (most : Int) (hm : most ≤ 9223372036854775807) (h : Rd w p g bs err) :
    Calls Tryz.prog 101 #[.pointer (some ⟨p, 0, none⟩), .int .i64 most] w (Took w p g (.string (strOf (rText most bs err).1)) (rText most bs err).2.1 (rText most bs err).2.2) := by
  obtain ⟨o, c, h⟩ := h
  unfold rText
  by_cases he : err ≠ 0
  · rw [if_pos he]
    have := text_fail w p g o c bs err most h (.inl he)
    rwa [show lackE err = err by unfold lackE; rw [if_neg he]] at this
  · rw [if_neg he]
    have he0 : err = 0 := by omega
    subst he0
    by_cases hl : bs.length < 4
    · rw [if_pos hl]
      exact text_fail w p g o c bs 0 most h (.inr (by omega))
    · rw [if_neg hl]
      by_cases h1 : most < (hd4 bs : Int)
      · rw [if_pos h1]
        exact text_more w p g o c bs most h (by omega) h1
      · rw [if_neg h1]
        obtain ⟨M, rfl⟩ := Int.eq_ofNat_of_zero_le (show 0 ≤ most by omega)
        by_cases h2 : bs.length < 4 + hd4 bs + padN (hd4 bs)
        · rw [if_pos h2]
          exact text_short w p g o c bs M _ rfl h (by omega) (by omega) (by omega) h2
        · rw [if_neg h2]
          by_cases h3 : ((bs.drop (4 + hd4 bs)).take (padN (hd4 bs))).any (· != 0) = true
          · rw [if_pos h3]
            exact text_form w p g o c bs M _ rfl h (by omega) (by omega) (by omega) (by omega) h3
          · rw [if_neg h3]
            exact text_ok w p g o c bs M _ rfl h (by omega) (by omega) (by omega) (by omega) (by simpa using h3)
end Go.Proofs.YthpjkhmkjhgbkaaGreatDoor
