/- The document's device: Now, Read, Write. -/
import Derived.Test.YtihoebmfanelkaaRef
namespace Go.Proofs.Ytihoebmfanelkaa
open Go.RowKit

theorem nowOf_take (d : List UInt8) (l : List (Nat × List UInt8)) (k n : Nat) (x : Nat × List UInt8) (hx : l[n]? = some x) : nowOf d (l.take (n + 1)) k = if x.1 = k then x.2 else nowOf d (l.take n) k := by
  have ht : l.take (n + 1) = l.take n ++ [x] := by
    rw [List.take_add_one, hx]
    rfl
  rw [ht, nowOf_snoc]

set_option maxRecDepth 100000 in
set_option maxHeartbeats 1000000 in
theorem now_any (w : World) (p : Nat) (G : List Nat) (s : St) (k : Nat) (hk : k < s.firm.length) (hlate : s.late.length < 1048576) (hd : Ref w p G s) :
    Calls Try.prog 48 #[.pointer (some ⟨p, 0, none⟩), .int .i64 (k : Int)] w fun e w' => e = .returned (.string (strOf (nowOf (s.firm.getD k []) s.late k))) ∧ w' = w := by
  obtain ⟨vf, vl, hb, o1, o2, _, _, fine⟩ := id hd
  obtain ⟨gf, cf, rfl, _, _⟩ := o1.form (by omega)
  obtain ⟨A, cl, rfl⟩ : ∃ A c, vl = .slice A s.late.length c := by
    rcases o2.2 with ⟨rfl, h0⟩ | ⟨g, cap, cur, rfl, _⟩
    · exact ⟨_, _, by rw [h0]⟩
    · exact ⟨_, _, rfl⟩
  have c0 := hb.cell 0
  have c1 := hb.cell 1
  simp only [List.getElem?_toArray, List.getElem?_cons_zero, List.getElem?_cons_succ] at c0 c1
  have cf1 := o1.cells rfl k (.string (strOf (s.firm.getD k []))) (by simp [strCells, hk])
  rw [addr_add, Nat.zero_add] at cf1
  obtain ⟨d, hdd⟩ : ∃ d, d = s.firm.getD k [] := ⟨_, rfl⟩
  rw [← hdd] at cf1 ⊢
  replace hdd := Lib.hid hdd
  go_enter Try.func48, Try.ntmps48
  go_wp2_with fail
  go_loopw [5, 6] (fun t i wr => ∃ n : Nat, n ≤ s.late.length ∧ i = .int .i64 n ∧ t = .string (strOf (nowOf d (s.late.take n) k)) ∧ wr = w) (fun _ i _ => s.late.length - (intOf i).toNat)
  case atStart => exact ⟨0, Nat.zero_le _, rfl, rfl, rfl⟩
  case round =>
    obtain ⟨n, hn, rfl, rfl, hwr⟩ := hrel
    subst hwr
    by_cases hlt : n < s.late.length
    · have hx : s.late[n]? = some s.late[n] := List.getElem?_eq_getElem hlt
      obtain ⟨r1, r2⟩ := refLate_at s.late n _ hx
      obtain ⟨g, c, hv, _, _⟩ := o2.form (by omega)
      rw [hv] at o2 c1
      have q0 := o2.cells rfl _ _ r1
      have q1 := o2.cells rfl _ _ r2
      rw [addr_add, Nat.zero_add] at q0 q1
      have hnow := Lib.hid (nowOf_take d s.late k n _ hx)
      generalize s.late[n] = x at *
      clear r1 r2 hv
      by_cases hxk : x.1 = k
      · have e := hnow.out
        rw [if_pos hxk] at e
        have hxk' : (x.1 : Int) = (k : Int) := by rw [hxk]
        rw [hxk'] at q0
        replace e := Lib.hid e
        clear hnow hxk hxk'
        go_wp2
        go_roundw
        case rel => exact ⟨n + 1, by omega, by go_num, by rw [e.out], by trivial⟩
        case measure => simp [intOf]; omega
      · have e := hnow.out
        rw [if_neg hxk] at e
        have hxk' : ¬ (x.1 : Int) = (k : Int) := by omega
        replace e := Lib.hid e
        clear hnow
        go_wp2
        go_roundw
        case rel => exact ⟨n + 1, by omega, by go_num, by rw [e.out], by trivial⟩
        case measure => simp [intOf]; omega
    · have hnl : n = s.late.length := by omega
      have hend : nowOf d (s.late.take n) k = nowOf d s.late k := by rw [hnl, List.take_of_length_le (Nat.le_refl _)]
      rw [hend]
      clear hend
      have hge : (s.late.length : Int) ≤ n := by omega
      go_wp2
      go_ret
      exact ⟨rfl, by trivial⟩

theorem zero_rwrite : (Try.prog.info? 105).map (fun i => (i.zero, i.size, i.bytes)) = some (some (.agg #[.int .i64 0, .string ⟨#[]⟩]), 2, 24) := by kernel_rfl

set_option maxRecDepth 100000 in
set_option maxHeartbeats 1000000 in
theorem rwrite_any (w : World) (p : Nat) (G : List Nat) (s : St) (k : Int) (b : List UInt8) (hk0 : -9223372036854775808 ≤ k) (hk1 : k ≤ 9223372036854775807) (hlen : s.late.length < 1048576) (hd : Ref w p G s) :
    Calls Try.prog 34 #[.pointer (some ⟨p, 0, none⟩), .int .i64 k, .string (strOf b)] w fun e w' => e = .returned (.int .i64 (writeErr s k b)) ∧ RefDid w w' p G (written s k b) := by
  have hsz : (strOf b).size = b.length := strOf_size b
  obtain ⟨bs, hbs⟩ : ∃ bs, bs = strOf b := ⟨_, rfl⟩
  obtain ⟨vf, vl, hb0, o1, o2, _, _, fine⟩ := id hd
  have hpos := fine.pos
  obtain ⟨gf, cf, rfl, _, _⟩ := o1.form (by omega)
  have c0 := hb0.cell 0
  simp only [List.getElem?_toArray, List.getElem?_cons_zero] at c0
  have hsame : RefDid w w p G s := RefSame.did ⟨hd, Only.refl G w⟩
  cases hh : (hasBlock s.firm.length k && decide (b.length = 256)) with
  | false =>
    have e1 : writeErr s k b = 1 := by rw [writeErr, if_pos hh]
    have e2 : written s k b = s := by rw [written, if_pos hh]
    rw [e1, e2, ← hbs]
    rw [← hbs] at hsz
    replace hbs := Lib.hid hbs
    replace hsame := Lib.hid hsame
    have hcase : k < 0 ∨ (0 ≤ k ∧ (s.firm.length : Int) ≤ k) ∨ (0 ≤ k ∧ k < (s.firm.length : Int) ∧ ¬ (b.length : Int) = 256) := by
      simp only [hasBlock, Bool.and_eq_false_iff, decide_eq_false_iff_not] at hh
      omega
    clear e1 e2 hh
    generalize b.length = bn at *
    rcases hcase with h | ⟨h, h'⟩ | ⟨h, h', h''⟩
    all_goals
      try (have hq : ((bn : Int) != 256) = true := by simpa using h'')
      go_enter Try.func34, Try.ntmps34
      go_wp2
      go_ret
      exact ⟨rfl, hsame.out⟩
  | true =>
    have hh' : (0 ≤ k ∧ k < (s.firm.length : Int)) ∧ b.length = 256 := by simpa [hasBlock] using hh
    obtain ⟨⟨h1, h2⟩, h3⟩ := hh'
    rw [h3] at hsz
    cases hburn : burns s with
    | false =>
      have e1 : writeErr s k b = 5 := by rw [writeErr, if_neg (by rw [hh]; decide), if_pos hburn]
      have e2 : written s k b = burnt s := by rw [written, if_neg (by rw [hh]; decide), if_pos hburn]
      rw [e1, e2, ← hbs]
      rw [← hbs] at hsz
      replace hbs := Lib.hid hbs
      clear e1 e2
      go_enter Try.func34, Try.ntmps34
      go_wp2_with fail
      refine (burn_any w p G s hd).mono ?_
      rintro e w2 ⟨rfl, hs2⟩
      rw [hburn]
      have hs3 := Lib.hid hs2.did
      clear hs2
      go_wp2
      go_ret
      exact ⟨rfl, hs3.out⟩
    | true =>
      obtain ⟨k, rfl⟩ := Int.eq_ofNat_of_zero_le h1
      have e1 : writeErr s (k : Int) b = 0 := by rw [writeErr, if_neg (by rw [hh]; decide), if_neg (by rw [hburn]; decide)]
      have e2 : written s (k : Int) b = { burnt s with late := s.late ++ [(k, b)] } := by rw [written, if_neg (by rw [hh]; decide), if_neg (by rw [hburn]; decide)]; rfl
      have hfine2 := fine.written (k : Int) b
      rw [e2] at hfine2
      rw [e1, e2, ← hbs]
      rw [← hbs] at hsz
      replace hbs := Lib.hid hbs
      replace hfine2 := Lib.hid hfine2
      clear e1 e2
      go_enter Try.func34, Try.ntmps34
      go_wp2_with fail
      refine (burn_any w p G s hd).mono ?_
      rintro e w2 ⟨rfl, hs2, k12⟩
      rw [hburn]
      obtain ⟨vf2, vl2, b2, of2, ol2, ⟨n1, n2, n3⟩, ⟨g1, g2, g3⟩, _⟩ := hs2
      rw [burnt_firm] at of2
      rw [burnt_late] at ol2
      have d1 := b2.cell 1
      simp only [List.getElem?_toArray, List.getElem?_cons_zero, List.getElem?_cons_succ] at d1
      obtain ⟨ti, ht1, ht2, ht3, ht4⟩ := info_parts zero_rwrite
      replace ht1 := Lib.hid ht1
      replace ht2 := Lib.hid ht2
      replace ht3 := Lib.hid ht3
      replace ht4 := Lib.hid ht4
      have news := World.news_of_block (Blk.new w2 105 #[.int .i64 (k : Int), .string bs])
      have ka : Only [] w2 (w2.alloc (.cells #[.int .i64 (k : Int), .string bs] 105)) := (Only.refl [] w2).alloc _
      have owna := ownsRow_kept' ol2 ka (by simp)
      have d1a := ka.cell d1 (by simp)
      have hone : ∀ u ∈ [Value.int .i64 (k : Int), .string bs], u.oneCell' = true := by
        intro u hu
        simp at hu
        rcases hu with rfl | rfl <;> rfl
      go_wp2_with (at_builtin; refine wpList_append_lies _ rfl (.tmp 30) (.tmp 34) 42 rfl 0 105 ti (.agg #[.int .i64 0, .string ⟨#[]⟩]) 2 24 Try.underlying42 ht1.out ht2.out ht3.out ht4.out rfl (by decide) vl2 s.late.length _ rfl owna ⟨w2.heap.size, 0, none⟩ 1 1 [.int .i64 (k : Int), .string bs] rfl rfl news hone (by decide) (by unfold maxLen; omega) (by omega) (Nat.zero_le _) _ rfl ?go)
      case go =>
        intro g5 cp w5 hown5 hgrow hat hlt5
        have hpl : p < w2.heap.size := b2.lt
        have b5 := (hgrow.block p (Nat.lt_of_lt_of_le hpl ka.size) (fun e => n2 e.symm)).trans (b2.kept ka (by simp))
        have e1 := (Blk.cell b5 1)
        have e2 := Blk.free b5 1
        simp only [List.getElem?_toArray, List.getElem?_cons_zero, List.getElem?_cons_succ] at e1
        have k25 : Only G w2 w5 := (ka.more (T := G) (by simp)).grown hgrow (fun j hj => .inl (g3 j hj))
        have kset : Only [p] w5 (w5.setCell ⟨p, 1, none⟩ (.slice (some ⟨g5, 0, none⟩) (s.late.length + 1) cp)) := Only.set w5 [p] (by simp) _
        have b6 := b5
        have b7 := Blk.set (w := w5) b6 1 (.slice (some ⟨g5, 0, none⟩) (s.late.length + 1) cp)
        simp only [List.setIfInBounds_toArray, List.set_cons_zero, List.set_cons_succ] at b7
        have hg5 : vl2.ownBlock = some g5 ∨ w2.heap.size ≤ g5 := hat.imp id (fun e => by have := ka.size; omega)
        have hg5p : g5 ≠ p := by
          rcases hg5 with h | h
          · rintro rfl; exact n2 h
          · omega
        have of5 : w5.ownsRow 0 9 1 vf2 s.firm.length (strCells s.firm) := by
          refine ⟨of2.1, ?_⟩
          rcases of2.2 with h0 | ⟨g, cap, cur, hv, hb', hg, r⟩
          · exact .inl h0
          · refine .inr ⟨g, cap, cur, hv, hb', ?_, r⟩
            have hgv : vf2.ownBlock = some g := by rw [hv]; rfl
            have hgl := (of2.lt g hgv).2
            rw [hgrow.block g (Nat.lt_of_lt_of_le hgl ka.size) (fun e => n3 g hgv e.symm), ka.block g hgl (by simp)]
            exact hg
        have hvg : ∀ g, vf2.ownBlock = some g → (some g5 : Option Nat) ≠ some g := by
          intro g hg e
          injection e with e
          subst e
          rcases hg5 with h | h
          · exact n3 _ hg h
          · have := (of2.lt _ hg).2
            omega
        have hfin : RefDid w (w5.setCell ⟨p, 1, none⟩ (.slice (some ⟨g5, 0, none⟩) (s.late.length + 1) cp)) p G { burnt s with late := s.late ++ [(k, b)] } := by
          have k17 : Only G w (w5.setCell ⟨p, 1, none⟩ (.slice (some ⟨g5, 0, none⟩) (s.late.length + 1) cp)) := (k12.trans k25).then kset (by simp; exact .inl g1)
          have hsz5 : (w5.setCell ⟨p, 1, none⟩ (.slice (some ⟨g5, 0, none⟩) (s.late.length + 1) cp)).heap.size = w5.heap.size := by simp [World.setCell]
          refine ⟨p :: g5 :: vf2.ownBlock.toList, ⟨vf2, .slice (some ⟨g5, 0, none⟩) (s.late.length + 1) cp, b7, ?_, ?_, ⟨n1, by simpa [Value.ownBlock] using hg5p, hvg⟩, ⟨by simp, fun g hg => by simp [hg], by simp [Value.ownBlock]⟩, hfine2.out⟩, k17, fun i hi => ?_⟩
          · rw [burnt_firm]
            exact ownsRow_kept' of5 kset (fun g hg => by simp; rintro rfl; exact n1 hg)
          · have := ownsRow_kept' hown5 kset (by simpa [Value.ownBlock] using hg5p)
            rw [hbs.out] at this
            rw [refLate_snoc]
            simpa using this
          · rw [hsz5]
            simp at hi
            rcases hi with rfl | rfl | hi
            · exact ⟨.inl g1, by have := Blk.lt b5; omega⟩
            · refine ⟨?_, hlt5⟩
              rcases hg5 with h | h
              · exact .inl (g3 _ h)
              · exact .inr (Nat.le_trans k12.size h)
            · exact ⟨.inl (g2 i hi), by have := (of5.lt i hi).2; omega⟩
        replace hfin := Lib.hid hfin
        clear hown5 hgrow hat b5 b6 b7 of5 k25 kset owna news ka d1a b2 of2 ol2 k12
        go_wp2
        go_ret
        exact ⟨rfl, hfin.out⟩

end Go.Proofs.Ytihoebmfanelkaa
