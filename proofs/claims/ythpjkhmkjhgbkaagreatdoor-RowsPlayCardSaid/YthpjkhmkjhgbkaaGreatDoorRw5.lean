/- The document's put of a first row; its Rows, its Datas. -/
import Derived.Test.YthpjkhmkjhgbkaaGreatDoorRd5
import Derived.Test.YthpjkhmkjhgbkaaGreatDoorRput5
import Derived.Test.YthpjkhmkjhgbkaaGreatDoorRlog3
namespace Go.Proofs.YthpjkhmkjhgbkaaGreatDoor
open Go.RowKit Go.Maps

set_option maxRecDepth 100000 in
set_option maxHeartbeats 2000000 in
theorem rput_nil (w : World) (v : Value) (x : Rw) (hv : v = .slice none 0 0 ∨ ∃ g c, v = .slice (some ⟨g, 0, none⟩) 0 c) :
    Calls Tryz.prog 60 #[v, .agg (rwE x).toArray] w fun e w' => ∃ v, e = .returned v ∧ Mine rwE 3 81 w w' v [x] := by
  have k1 : Only [] w (w.alloc (.cells (rwE x).toArray 81)) := (Only.refl [] w).alloc _
  have b1 : Blk (w.alloc (.cells (rwE x).toArray 81)) w.heap.size 81 (rwE x).toArray := Blk.new _ _ _
  have henc : (rwE x).toArray = #[.string (strOf x.key), .string (strOf x.val), .int .i64 (x.at_ : Int)] := rfl
  have q0 := b1.cell 0
  have q1 := b1.cell 1
  have q2 := b1.cell 2
  rw [henc] at q0 q1 q2 k1
  simp only [List.getElem?_toArray, List.getElem?_cons_zero, List.getElem?_cons_succ] at q0 q1 q2
  rw [henc]
  generalize hks : strOf x.key = ks at *
  generalize hvs : strOf x.val = vs at *
  replace hks := Lib.hid hks
  replace hvs := Lib.hid hvs
  replace henc := Lib.hid henc
  clear b1
  rcases hv with rfl | ⟨g, c, rfl⟩
  all_goals
    go_enter Tryz.func60, Tryz.ntmps60
    go_wp2_with fail
    obtain ⟨bx, hbx⟩ : ∃ bx, bx = w.heap.size := ⟨_, rfl⟩
    rw [← hbx] at q0 q1 q2
    simp only [← hbx]
    generalize (w.alloc (.cells #[.string ks, .string vs, .int .i64 (x.at_ : Int)] 81)) = w1 at *
    replace hbx := Lib.hid hbx
    go_loopw [5] (fun i wr => i = .int .i64 0 ∧ Only [] w1 wr) (fun _ _ => 0)
    case atStart => exact ⟨rfl, Only.refl _ _⟩
    case round =>
      obtain ⟨rfl, honly⟩ := hrel
      have p0 := honly.cell q0 (by simp)
      have p1 := honly.cell q1 (by simp)
      have p2 := honly.cell q2 (by simp)
      go_wp2
      go_quiet (fail)
      have honly' := honly.drewN nq
      clear p0 p1 p2
      go_wp2_with (at_builtin; go_must (refine wpList_append_any rwE_length (by decide) rwE_one rfl (.tmp 23) (.tmp 26) 32 rfl 81 (.agg #[.string ⟨#[]⟩, .string ⟨#[]⟩, .int .i64 0]) 40 Tryz.underlying32 info_rw rfl (.slice none 0 0) 0 [] rfl (World.ownsRow_nil _ 0 _ 3) _ _ [] rfl (.inl rfl) ?c1 ?c2 ?go))
      case c1 => unfold maxLen; simp
      case c2 => simp
      case go =>
      intro v3 w3 hown3 hg3 hat3
      have hm3 : Mine rwE 3 81 w w3 v3 ([] ++ []) := (Mine.start rwE 3 81 (k1.trans honly')).joined hown3 hg3 hat3
      rw [List.append_nil] at hm3
      have k03 := (Only.refl [] _).grown hg3 (fun j hj => by simp [Value.ownBlock] at hj)
      have s0 := k03.cell (honly'.cell q0 (by simp)) (by simp)
      have s1 := k03.cell (honly'.cell q1 (by simp)) (by simp)
      have s2 := k03.cell (honly'.cell q2 (by simp)) (by simp)
      have b6 : Blk (w3.alloc (.cells #[.string ks, .string vs, .int .i64 (x.at_ : Int)] 81)) w3.heap.size 81 (rwE x).toArray := by
        rw [henc.out]
        exact Blk.new _ _ _
      have hm6 := hm3.keep ((Only.refl [] w3).alloc (.cells #[.string ks, .string vs, .int .i64 (x.at_ : Int)] 81))
      clear hown3 hg3 hat3 hm3 k03
      go_wp2_with (first | (at_builtin; (refine wpList_push rfl _ _ 32 rfl 81 _ 40 rwE_length (by decide) rwE_one Tryz.underlying32 info_rw rfl _ 0 [] rfl hm6.own w3.heap.size x _ rfl b6 (by unfold maxLen; omega) (by omega) ?_); intro vv' w8 h8 g8 a8; have hm8 := hm6.pushed h8 g8 a8; clear h8 g8 a8 hm6 b6 s0 s1 s2) | (at_builtin; (refine wpList_append_any rwE_length (by decide) rwE_one rfl (.tmp 32) (.tmp 35) 32 rfl 81 (.agg #[.string ⟨#[]⟩, .string ⟨#[]⟩, .int .i64 0]) 40 Tryz.underlying32 info_rw rfl vv' ([] ++ [x]).length ([] ++ [x]) rfl hm8.own _ _ [] rfl (.inl rfl) ?d1 ?d2 ?go2)))
      case d1 => unfold maxLen; simp
      case d2 => simp
      case go2 =>
      intro v9 w9 hown9 hg9 hat9
      have hm9 := hm8.joined (ys := []) hown9 hg9 hat9
      rw [List.append_nil, List.nil_append] at hm9
      clear hown9 hg9 hat9 hm8
      replace hm9 := Lib.hid hm9
      go_wp2
      all_goals
        go_ret
        exact ⟨_, rfl, hm9.out⟩

theorem Mine.from {α : Type} {enc : α → List Value} {k : Nat} {e : TypeId} {w w0 w1 : World} {v : Value} {l : List α} (kk : Only [] w w0) (h : Mine enc k e w0 w1 v l) : Mine enc k e w w1 v l :=
  ⟨h.own, fun g hg => Nat.le_trans kk.size (h.new g hg), kk.trans h.only⟩
theorem Mine.shape {α : Type} {enc : α → List Value} {k : Nat} {e : TypeId} {w w1 : World} {v : Value} {l : List α} (hk : ∀ x, (enc x).length = k) (h : Mine enc k e w w1 v l) :
    ∃ A c, v = .slice A l.length c ∧ Els enc k w1 A l ∧ l.length ≤ c ∧ (∀ a, A = some a → w.heap.size ≤ a.block) ∧ (v = .slice none 0 0 ∨ ∃ g c, v = .slice (some ⟨g, 0, none⟩) l.length c) := by
  rcases id h.own.2 with ⟨rfl, h0⟩ | ⟨g, cap, cur, rfl, hb, hg, hn, r⟩
  · have hl : l = [] := List.eq_nil_of_length_eq_zero h0
    subst hl
    exact ⟨none, 0, rfl, .inl rfl, Nat.le_refl _, by simp, .inl rfl⟩
  · refine ⟨_, _, rfl, ?_, hn, fun a ha => ?_, .inr ⟨g, cap, rfl⟩⟩
    · by_cases h0 : l = []
      · exact .inl h0
      · refine .inr ⟨g, 0, rfl, (h.own.lt g rfl).2, fun i hi j u hu => ?_⟩
        have q := h.own.cells rfl _ _ (encs_at hk l i hi j u hu)
        rw [addr_add, Nat.zero_add] at q
        rw [Nat.zero_add]
        exact q
    · injection ha with ha
      subst ha
      exact h.new g rfl

/-- The document's put, of a list of the call's own. -/
theorem rput_at {w w1 : World} {v : Value} {l : List Rw} (h : Mine rwE 3 81 w w1 v l) (x : Rw) (hl : l.length ≤ 100000) (hne : ∀ y ∈ l, y.key ≠ x.key) :
    Calls Tryz.prog 60 #[v, .agg #[.string (strOf x.key), .string (strOf x.val), .int .i64 (x.at_ : Int)]] w1 fun e w' => ∃ v', e = .returned v' ∧ Mine rwE 3 81 w1 w' v' (insR x l) := by
  obtain ⟨A, c, hv, hel, hc, hA, hform⟩ := h.shape rwE_length
  rcases hel with rfl | ⟨g, o, hAg, hg, hat⟩
  · exact rput_nil w1 v x hform
  · subst hAg
    subst hv
    exact rput_any w1 g o c l x hat hl hc hne
theorem rput_all {w w1 : World} {v : Value} {l : List Rw} (h : Mine rwE 3 81 w w1 v l) (x : Rw) (hl : l.length ≤ 100000) (hne : ∀ y ∈ l, y.key ≠ x.key) :
    Calls Tryz.prog 60 #[v, .agg #[.string (strOf x.key), .string (strOf x.val), .int .i64 (x.at_ : Int)]] w1 fun e w' => ∃ v', e = .returned v' ∧ Mine rwE 3 81 w w' v' (insR x l) :=
  (rput_at h x hl hne).mono fun _ _ ⟨v', he, hm⟩ => ⟨v', he, hm.from h.only⟩

/-- The rows of some data, in memory; or none. -/
def RowsIs (w w' : World) (o : Option (List Rw)) (e : Ending) : Prop := match o with
  | none => e = .returned (.tuple #[.slice none 0 0, .bool false]) ∧ Only [] w w'
  | some M => ∃ v, e = .returned (.tuple #[v, .bool true]) ∧ Mine rwE 3 81 w w' v M
theorem RowsIs.no {w w' : World} {o : Option (List Rw)} (h : o = none) (k : Only [] w w') : RowsIs w w' o (.returned (.tuple #[.slice none 0 0, .bool false])) := by
  subst h
  exact ⟨rfl, k⟩
theorem RowsIs.yes {w w' : World} {o : Option (List Rw)} {M : List Rw} {v : Value} (h : o = some M) (k : Mine rwE 3 81 w w' v M) : RowsIs w w' o (.returned (.tuple #[v, .bool true])) := by
  subst h
  exact ⟨v, rfl, k⟩
theorem finds_some {l : List Rw} {k : List UInt8} {e : Ending} (h : Finds l k e) (hf : (findR l k).isSome = true) : ∃ i : Nat, e = .returned (.int .i64 (i : Int)) ∧ i < l.length := by
  rcases h with ⟨i, r, h1, h2, rfl⟩ | ⟨h1, rfl⟩
  · exact ⟨i, rfl, (List.getElem?_eq_some_iff.1 h1).1⟩
  · rw [findR_none.2 h1] at hf
    cases hf
theorem finds_none {l : List Rw} {k : List UInt8} {e : Ending} (h : Finds l k e) (hf : findR l k = none) : e = .returned (.int .i64 (-1)) := by
  rcases h with ⟨i, r, h1, h2, rfl⟩ | ⟨h1, rfl⟩
  · exact absurd h2 (findR_none.1 hf r (List.mem_of_getElem? h1))
  · rfl

set_option maxRecDepth 100000 in
set_option maxHeartbeats 2000000 in
theorem rrows_any (w : World) (A : Option Addr) (c : Nat) (L : List (List UInt8)) (h : Strs w A L) (hl : L.length ≤ 1024) (h248 : ∀ d ∈ L, d.length = 248) :
    Calls Tryz.prog 29 #[.slice A L.length c] w fun e w' => RowsIs w w' (parseL L) e := by
  have hlI : (L.length : Int) ≤ 1024 := by omega
  go_enter Tryz.func29, Tryz.ntmps29
  go_wp2_with fail
  go_loopw [4, 5] (fun v i wr => ∃ (k : Nat) (M : List Rw), k ≤ L.length ∧ i = .int .i64 k ∧ Hid (loadAll [] (L.take k) 0 = some M) ∧ M.length ≤ k ∧ Mine rwE 3 81 w wr v M) (fun _ i _ => L.length - (intOf i).toNat)
  case atStart => exact ⟨0, [], Nat.zero_le _, rfl, rfl, Nat.le_refl _, Mine.start _ _ _ (Only.refl _ _)⟩
  case round =>
    obtain ⟨k, M, hk, rfl, hload, hML, hmine⟩ := hrel
    by_cases hlt : k < L.length
    · obtain ⟨g, o, rfl, hg, hat⟩ := h.get hlt
      have c0 := hmine.only.cell (hat k hlt) (by simp)
      have hd := h248 L[k] (List.getElem_mem hlt)
      have hpar := fun W => rparse_any W L[k] hd
      have hnext := loadAll_take hlt
      have hstop := loadAll_stop hlt hload.out
      rw [hload.out] at hnext
      simp only at hnext
      have hz0 := parse_zero (s := L[k])
      have hz2 := parse_two (s := L[k])
      have hz1 := parse_row (s := L[k])
      have hlr : loadR M L[k] k = if isZeroL L[k] then some M else match rowOfL L[k] with
        | none => none
        | some x => if (findR M x.1).isSome then none else some (putR M ⟨x.1, x.2, k⟩) := rfl
      have hro : rowOfL L[k] = if goodD L[k] then some ((scanK L[k]).1, (scanV L[k]).1) else none := rfl
      generalize L[k] = d at *
      replace hnext := Lib.hid hnext
      replace hstop := Lib.hid hstop
      replace hpar := Lib.hid hpar
      generalize strOf d = ds at *
      have hMI : M.length ≤ 1024 := by omega
      clear hat
      cases hz : isZeroL d with
      | true =>
        have hp := hz0 hz
        rw [hp] at hpar
        rw [hz] at hlr
        rw [hlr] at hnext
        have hm' : Hid (loadAll [] (L.take (k + 1)) 0 = some M) := hnext.out
        clear hz0 hz1 hz2 hp hlr hro hnext hstop hz
        go_wp2_with fail
        refine (hpar.out _).mono ?_
        rintro e w2 ⟨rfl, k2⟩
        have hm2 := hmine.keep k2
        clear hmine k2 c0 hpar
        go_wp2
        go_roundw
        case rel => exact ⟨k + 1, M, by omega, by go_num, hm', by omega, hm2⟩
        case measure => simp [intOf]; omega
      | false =>
        have hzn : ¬ isZeroL d = true := by rw [hz]; decide
        rw [hz] at hlr
        cases hg2 : goodD d with
        | false =>
          have hp := hz2 hzn hg2
          rw [hp] at hpar
          rw [hg2] at hro
          rw [hro] at hlr
          have hno : Hid (parseL L = none) := hstop.out hlr
          clear hz0 hz1 hz2 hp hlr hro hnext hstop hz hzn hg2
          go_wp2_with fail
          refine (hpar.out _).mono ?_
          rintro e w2 ⟨rfl, k2⟩
          have kend := hmine.only.trans k2
          clear hmine k2 c0 hpar
          go_wp2
          go_ret2
          exact RowsIs.no hno.out kend
        | true =>
          have hp := hz1 hzn hg2
          rw [hp] at hpar
          rw [hg2] at hro
          rw [hro] at hlr
          simp only [if_true, Bool.false_eq_true, if_false] at hlr
          obtain ⟨A2, c2, hv, hel, hc2, _, _⟩ := hmine.shape rwE_length
          have hfind := fun W (kk : Only [] wr W) => rfind_any W A2 c2 M (scanK d).1 (hel.kept kk (by simp)) (by omega)
          have hput := fun W (kk : Only [] wr W) (hn : findR M (scanK d).1 = none) => rput_all (hmine.keep kk) ⟨(scanK d).1, (scanV d).1, k⟩ (by omega) (fun y hy => findR_none.1 hn y hy)
          simp only at hput
          rw [hv] at hput
          generalize strOf (scanV d).1 = vs at *
          generalize strOf (scanK d).1 = ks at *
          replace hfind := Lib.hid hfind
          replace hput := Lib.hid hput
          subst hv
          have honly := Lib.hid hmine.only
          clear hz0 hz1 hz2 hp hro hz hzn hg2 hel hmine
          cases hf : findR M (scanK d).1 with
          | some r =>
            rw [hf] at hlr
            have hno : Hid (parseL L = none) := hstop.out hlr
            have hfs : Hid ((findR M (scanK d).1).isSome = true) := show _ = _ by rw [hf]; rfl
            clear hput hlr hnext hstop hf
            go_wp2_with fail
            refine (hpar.out _).mono ?_
            rintro e w2 ⟨rfl, k2⟩
            go_wp2_with fail
            refine (hfind.out _ k2).mono ?_
            rintro e w3 ⟨hfi, k3⟩
            obtain ⟨i, rfl, hi⟩ := finds_some hfi hfs.out
            have kend := (honly.out.trans k2).trans k3
            clear hfi c0 k2 k3
            go_wp2
            go_ret2
            exact RowsIs.no hno.out kend
          | none =>
            have hput' := Lib.hid fun W (kk : Only [] wr W) => hput.out W kk hf
            rw [hf] at hlr
            simp only [Option.isSome_none, Bool.false_eq_true, if_false] at hlr
            rw [putR_ins hf] at hlr
            rw [hlr] at hnext
            have hfn : Hid (findR M (scanK d).1 = none) := hf
            clear hput hlr hstop hf
            go_wp2_with fail
            refine (hpar.out _).mono ?_
            rintro e w2 ⟨rfl, k2⟩
            go_wp2_with fail
            refine (hfind.out _ k2).mono ?_
            rintro e w3 ⟨hfi, k3⟩
            obtain rfl := finds_none hfi hfn.out
            have k13 := k2.trans k3
            clear hfi c0
            go_wp2_with fail
            refine (hput'.out _ k13).mono ?_
            rintro e w4 ⟨v', rfl, hm4⟩
            clear k2 k3 k13
            have hlen : (insR ⟨(scanK d).1, (scanV d).1, k⟩ M).length ≤ k + 1 := by rw [insR_length]; omega
            generalize insR ⟨(scanK d).1, (scanV d).1, k⟩ M = M' at *
            have hnx : Hid (loadAll [] (L.take (k + 1)) 0 = some M') := hnext.out
            clear hnext
            go_wp2
            go_roundw
            case rel => exact ⟨k + 1, M', by omega, by go_num, hnx, hlen, hm4⟩
            case measure => simp [intOf]; omega
    · obtain rfl : k = L.length := by omega
      have hge : ¬ (L.length : Int) < (L.length : Int) := by omega
      have hfin : Hid (parseL L = some M) := by
        have := hload.out
        rw [List.take_length] at this
        exact this
      clear hload
      go_wp2
      go_ret2
      exact RowsIs.yes hfin.out hmine

set_option maxRecDepth 100000 in
set_option maxHeartbeats 2000000 in
theorem rdatas_any (w : World) (lp p n : Nat) (G : List Nat) (s : St) (h : RLogB w lp p n false) (hd : Ref w p G s) (hdead : s.dead = false) (hlate : s.late.length < 1048576) (hN : 42 ≤ s.firm.length) :
    Calls Tryz.prog 28 #[.pointer (some ⟨lp, 0, none⟩)] w fun e w' => ∃ v, e = .returned (.tuple #[v, .int .i64 0]) ∧ NewStrs w w' v (dataS s) := by
  have hread := fun W (k : Only [] w W) x => rlread_any W lp p n false G s x (Blk.kept h k (by simp)) (hd.kept k (by simp)) hlate hN
  obtain ⟨l0, _, _⟩ := h.cells
  obtain ⟨gf, cf, A, cl, c0, _, _, _, _⟩ := hd.cells (by omega)
  have hfew := hd.fine.few
  have hlen := dataS_length s
  have hsn := take_snoc s
  have hval : ∀ k : Nat, k < s.firm.length - 41 → lreadErr s false (k : Int) = 0 ∧ lreadB s false (k : Int) = (blkB s (41 + k)).drop 8 := fun k hk => by
    have hh : ¬ hasHome s.firm.length (k : Int) = false := by
      have : hasHome s.firm.length (k : Int) = true := by simp only [hasHome, decide_eq_true_eq]; omega
      rw [this]; decide
    constructor
    · rw [lreadErr, if_neg hh, if_neg (by decide), if_neg (by rw [hdead]; decide)]
    · rw [lreadB, if_neg hh, if_neg (by decide), if_neg (by rw [hdead]; decide)]; rfl
  obtain ⟨N, hNN⟩ : ∃ N : Nat, s.firm.length = 41 + N := ⟨s.firm.length - 41, by omega⟩
  have hNi : (s.firm.length : Int) - 41 = (N : Int) := by omega
  have hNw : wrap64 ((s.firm.length : Int) - 41) = (N : Int) := by simp only [wrap64]; omega
  rw [show s.firm.length - 41 = N by omega] at hlen hsn hval
  have hN2 : N ≤ 1024 := by omega
  have hlenI : (s.firm.length : Int) = 41 + (N : Int) := by omega
  rw [hNN] at c0
  replace hread := Lib.hid hread
  replace hval := Lib.hid hval
  replace hsn := Lib.hid hsn
  replace hlen := Lib.hid hlen
  replace hlate := Lib.hid hlate
  clear h hd hdead hN hfew hNN hNi hNw hlenI
  obtain ⟨ti, ht1, ht2, ht3, ht4⟩ := info_parts info_text
  replace ht1 := Lib.hid ht1
  replace ht2 := Lib.hid ht2
  replace ht3 := Lib.hid ht3
  replace ht4 := Lib.hid ht4
  go_enter Tryz.func28, Tryz.ntmps28
  go_wp2_with fail
  go_loopw [4, 5] (fun v i wr => ∃ (k : Nat) (vf : Value), k ≤ N ∧ i = .int .i64 k ∧ vf = v ∧ wr.ownsRow 0 9 1 vf k (strCells ((dataS s).take k)) ∧ Only [] w wr ∧ Hid (∀ g, vf.ownBlock = some g → w.heap.size ≤ g)) (fun _ i _ => N - (intOf i).toNat)
  case atStart => exact ⟨0, _, Nat.zero_le _, rfl, rfl, World.ownsRow_nil _ 0 _ 1, Only.refl _ _, fun g hg => by simp [Value.ownBlock] at hg⟩
  case round =>
    obtain ⟨k, vf, hk, rfl, hvf, hown, honly, hnew⟩ := hrel
    subst hvf
    have x0 := honly.cell l0 (by simp)
    have y0 := honly.cell c0 (by simp)
    have hcast : ((41 + N : Nat) : Int) - 41 = (N : Int) := by omega
    by_cases hlt : k < N
    · obtain ⟨v1, v2⟩ := hval.out k hlt
      have hr := hread.out wr honly (k : Int)
      rw [v1, v2] at hr
      have hs := Lib.hid (hsn.out k hlt)
      generalize (blkB s (41 + k)).drop 8 = d at *
      generalize hbs : strOf d = bs at *
      replace hbs := Lib.hid hbs
      replace hr := Lib.hid hr
      clear v1 v2
      go_wp2_with fail
      refine hr.out.mono ?_
      rintro e w2 ⟨rfl, rfl⟩
      have news := World.news_of_block (Blk.new w2 9 #[.string bs])
      have ka : Only [] w2 (w2.alloc (.cells #[.string bs] 9)) := (Only.refl [] w2).alloc _
      have owna := ownsRow_kept' hown ka (by simp)
      have hone : ∀ u ∈ [Value.string bs], u.oneCell' = true := by
        intro u hu
        simp at hu
        subst hu
        rfl
      go_wp2_with (at_builtin; go_must (refine wpList_append_lies _ rfl (.tmp 30) (.tmp 32) 45 rfl 0 9 ti (.string ⟨#[]⟩) 1 16 Tryz.underlying45 ht1.out ht2.out ht3.out ht4.out rfl (by decide) vf k _ rfl owna ⟨w2.heap.size, 0, none⟩ 1 1 [.string bs] rfl rfl news hone (by decide) (by unfold maxLen; omega) (by omega) (Nat.zero_le _) _ rfl ?go))
      case go =>
        intro g5 cp w5 hown5 hgrow hat5 hlt5
        have hg5 : w.heap.size ≤ g5 := by
          rcases hat5 with h | h
          · exact hnew.out g5 h
          · have := ka.size; have := honly.size; omega
        have honly5 : Only [] w w5 := (honly.trans ka).grown hgrow (fun j hj => .inr (hnew.out j hj))
        have hown6 : w5.ownsRow 0 9 1 (.slice (some ⟨g5, 0, none⟩) (k + 1) cp) (k + 1) (strCells ((dataS s).take (k + 1))) := by
          rw [hs.out, strCells_snoc, hbs.out]
          exact hown5
        have hnew5 : Hid (∀ g, (Value.slice (some ⟨g5, 0, none⟩) (k + 1) cp).ownBlock = some g → w.heap.size ≤ g) := fun g hg => by
          simp only [Value.ownBlock, Option.some.injEq] at hg
          omega
        replace hown6 := Lib.hid hown6
        clear hown5 hgrow hat5 owna news ka hown honly hnew x0 y0
        go_wp2
        go_roundw
        case rel => exact ⟨k + 1, _, by omega, by go_num, rfl, hown6.out, honly5, hnew5⟩
        case measure => simp [intOf]; omega
    · have hkl : k = N := by omega
      have hge : (N : Int) ≤ k := by omega
      have hfin : NewStrs w wr vf (dataS s) := by
        refine strs_of_owns (e := 9) ?_ honly hnew.out
        rw [hlen.out, ← hkl]
        rw [hkl, List.take_of_length_le (by rw [hlen.out]; omega)] at hown
        rw [hkl]
        exact hown
      replace hfin := Lib.hid hfin
      clear hown
      go_wp2
      go_ret2
      exact ⟨_, rfl, hfin.out⟩
end Go.Proofs.YthpjkhmkjhgbkaaGreatDoor
