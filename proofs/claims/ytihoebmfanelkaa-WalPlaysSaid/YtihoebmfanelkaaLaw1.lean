/- The law's own functions: lists of texts; right, datas, same. -/
import Derived.Test.YtihoebmfanelkaaSem
namespace Go.Proofs.Ytihoebmfanelkaa
open Go.RowKit

/-- A slice of texts. -/
def Strs (w : World) (A : Option Addr) (L : List (List UInt8)) : Prop := L = [] ∨ ∃ g o, A = some ⟨g, o, none⟩ ∧ g < w.heap.size ∧ ∀ i (h : i < L.length), w.cell? ⟨g, o + i, none⟩ = some (.string (strOf L[i]))
theorem Strs.kept {S : List Nat} {w w' : World} {A : Option Addr} {L : List (List UInt8)} (h : Strs w A L) (k : Only S w w') (hA : ∀ a, A = some a → a.block ∉ S) : Strs w' A L := by
  refine h.imp id ?_
  rintro ⟨g, o, rfl, hg, hc⟩
  have hS := hA _ rfl
  exact ⟨g, o, rfl, Nat.lt_of_lt_of_le hg k.size, fun i hi => k.cell (hc i hi) hS⟩
theorem Strs.get {w : World} {A : Option Addr} {L : List (List UInt8)} (h : Strs w A L) {i : Nat} (hi : i < L.length) : ∃ g o, A = some ⟨g, o, none⟩ ∧ g < w.heap.size ∧ ∀ i (h : i < L.length), w.cell? ⟨g, o + i, none⟩ = some (.string (strOf L[i])) := by
  rcases h with rfl | h
  · simp at hi
  · exact h
/-- Texts that a call made. -/
def NewStrs (w w' : World) (v : Value) (L : List (List UInt8)) : Prop :=
  ∃ A c, v = .slice A L.length c ∧ Strs w' A L ∧ Only [] w w' ∧ ∀ a, A = some a → w.heap.size ≤ a.block

theorem strCells_get (L : List (List UInt8)) (i : Nat) (h : i < L.length) : (strCells L)[i]? = some (.string (strOf L[i])) := by simp [strCells, h]
theorem strs_of_owns {w w' : World} {e : TypeId} {v : Value} {L : List (List UInt8)} (h : w'.ownsRow 0 e 1 v L.length (strCells L)) (k : Only [] w w') (hnew : ∀ g, v.ownBlock = some g → w.heap.size ≤ g) : NewStrs w w' v L := by
  by_cases h0 : L.length = 0
  · obtain rfl : L = [] := List.eq_nil_of_length_eq_zero h0
    rcases id h.2 with ⟨rfl, _⟩ | ⟨g, cap, cur, rfl, hb, hg, r⟩
    · exact ⟨none, 0, rfl, .inl rfl, k, by simp⟩
    · exact ⟨_, _, rfl, .inl rfl, k, fun a ha => by injection ha with ha; subst ha; exact hnew g rfl⟩
  · obtain ⟨g, c, rfl, _, _⟩ := h.form (by omega)
    refine ⟨_, _, rfl, .inr ⟨g, 0, rfl, (h.lt g rfl).2, fun i hi => ?_⟩, k, fun a ha => by injection ha with ha; subst ha; exact hnew g rfl⟩
    have q0 := h.cells rfl _ _ (strCells_get L i hi)
    rw [addr_add, Nat.zero_add] at q0
    rw [Nat.zero_add]
    exact q0

theorem right5_any (w : World) (A : Option Addr) (c : Nat) (l : List Bk) (h : Blks w A l) (hl : l.length ≤ 9223372036854775807) :
    Calls Try.prog 17 #[.slice A l.length c] w fun e w' => Says (RightL l 5) e ∧ Only [] w w' := by
  go_enter Try.func17, Try.ntmps17
  go_wp2_with fail
  refine (right_any _ A c l 5 h hl).mono ?_
  rintro e w1 ⟨⟨r, rfl, hr⟩, k1⟩
  replace hr := Lib.hid hr
  go_wp2
  go_ret
  exact ⟨⟨r, rfl, hr.out⟩, k1⟩

theorem take_snoc (s : St) (k : Nat) (h : k < s.firm.length - 41) : (dataS s).take (k + 1) = (dataS s).take k ++ [(blkB s (41 + k)).drop 8] := by
  rw [List.take_add_one, dataS_get s k h]
  rfl
theorem strCells_snoc (L : List (List UInt8)) (b : List UInt8) : strCells (L ++ [b]) = strCells L ++ [.string (strOf b)] := by simp [strCells]

set_option maxRecDepth 100000 in
set_option maxHeartbeats 1000000 in
theorem datas_any (w : World) (lp p n : Nat) (F : List Nat) (s : St) (h : LogB w lp p n false) (hd : Dev w p F s) (hdead : s.dead = false) (hN : 41 ≤ s.firm.length) :
    Calls Try.prog 22 #[.pointer (some ⟨lp, 0, none⟩)] w fun e w' => ∃ v, e = .returned (.tuple #[v, .bool true]) ∧ NewStrs w w' v (dataS s) := by
  have hsize := fun W (k : Only [] w W) => size_any W lp p n false F s (Blk.kept h k (by simp)) (hd.kept k (by simp))
  have hread := fun W (k : Only [] w W) x => lread_any W lp p n false F s x (Blk.kept h k (by simp)) (hd.kept k (by simp))
  have hfew := hd.fine.few
  have hlen := dataS_length s
  have hsn := take_snoc s
  have hval : ∀ k : Nat, k < s.firm.length - 41 → lreadErr s false (k : Int) = 0 ∧ lreadB s false (k : Int) = (blkB s (41 + k)).drop 8 := fun k hk => by
    have hh : ¬ hasHome s.firm.length (k : Int) = false := by
      have : hasHome s.firm.length (k : Int) = true := by simp only [hasHome, decide_eq_true_eq]; omega
      rw [this]; decide
    constructor
    · rw [lreadErr, if_neg hh, if_neg (by decide), if_neg (by rw [hdead]; decide)]
    · rw [lreadB, if_neg hh, if_neg (by decide), if_neg (by rw [hdead]; decide)]; rfl
  obtain ⟨N, hNN⟩ : ∃ N : Nat, s.firm.length = 41 + N := ⟨s.firm.length - 41, by omega⟩
  have hNi : (s.firm.length : Int) - 41 = (N : Int) := by omega
  rw [show s.firm.length - 41 = N by omega] at hlen hsn hval
  simp only [hNi] at hsize
  have hN2 : N ≤ 1024 := by omega
  replace hsize := Lib.hid hsize
  replace hread := Lib.hid hread
  replace hval := Lib.hid hval
  replace hsn := Lib.hid hsn
  replace hlen := Lib.hid hlen
  clear h hd hdead hN hfew hNN hNi
  obtain ⟨ti, ht1, ht2, ht3, ht4⟩ := info_parts info_text
  replace ht1 := Lib.hid ht1
  replace ht2 := Lib.hid ht2
  replace ht3 := Lib.hid ht3
  replace ht4 := Lib.hid ht4
  go_enter Try.func22, Try.ntmps22
  go_wp2_with fail
  go_loopw [4, 5] (fun v i wr => ∃ (k : Nat) (vf : Value), k ≤ N ∧ i = .int .i64 k ∧ vf = v ∧ wr.ownsRow 0 9 1 vf k (strCells ((dataS s).take k)) ∧ Only [] w wr ∧ Hid (∀ g, vf.ownBlock = some g → w.heap.size ≤ g)) (fun _ i _ => N - (intOf i).toNat)
  case atStart => exact ⟨0, _, Nat.zero_le _, rfl, rfl, World.ownsRow_nil _ 0 _ 1, Only.refl _ _, fun g hg => by simp [Value.ownBlock] at hg⟩
  case round =>
    obtain ⟨k, vf, hk, rfl, hvf, hown, honly, hnew⟩ := hrel
    subst hvf
    by_cases hlt : k < N
    · obtain ⟨v1, v2⟩ := hval.out k hlt
      have hr := hread.out wr honly (k : Int)
      rw [v1, v2] at hr
      have hs := Lib.hid (hsn.out k hlt)
      generalize (blkB s (41 + k)).drop 8 = d at *
      generalize hbs : strOf d = bs at *
      replace hbs := Lib.hid hbs
      replace hr := Lib.hid hr
      clear v1 v2
      go_wp2_with fail
      refine (hsize.out _ honly).mono ?_
      rintro e w1 ⟨rfl, rfl⟩
      go_wp2_with fail
      refine hr.out.mono ?_
      rintro e w2 ⟨rfl, rfl⟩
      have news := World.news_of_block (Blk.new w2 9 #[.string bs])
      have ka : Only [] w2 (w2.alloc (.cells #[.string bs] 9)) := (Only.refl [] w2).alloc _
      have owna := ownsRow_kept' hown ka (by simp)
      have hone : ∀ u ∈ [Value.string bs], u.oneCell' = true := by
        intro u hu
        simp at hu
        subst hu
        rfl
      go_wp2_with (at_builtin; go_must (refine wpList_append_lies _ rfl (.tmp 22) (.tmp 24) 41 rfl 0 9 ti (.string ⟨#[]⟩) 1 16 Try.underlying41 ht1.out ht2.out ht3.out ht4.out rfl (by decide) vf k _ rfl owna ⟨w2.heap.size, 0, none⟩ 1 1 [.string bs] rfl rfl news hone (by decide) (by unfold maxLen; omega) (by omega) (Nat.zero_le _) _ rfl ?go))
      case go =>
        intro g5 cp w5 hown5 hgrow hat5 hlt5
        have hg5 : w.heap.size ≤ g5 := by
          rcases hat5 with h | h
          · exact hnew.out g5 h
          · have := ka.size; have := honly.size; omega
        have honly5 : Only [] w w5 := (honly.trans ka).grown hgrow (fun j hj => .inr (hnew.out j hj))
        have hown6 : w5.ownsRow 0 9 1 (.slice (some ⟨g5, 0, none⟩) (k + 1) cp) (k + 1) (strCells ((dataS s).take (k + 1))) := by
          rw [hs.out, strCells_snoc, hbs.out]
          exact hown5
        have hnew5 : Hid (∀ g, (Value.slice (some ⟨g5, 0, none⟩) (k + 1) cp).ownBlock = some g → w.heap.size ≤ g) := fun g hg => by
          simp only [Value.ownBlock, Option.some.injEq] at hg
          omega
        replace hown6 := Lib.hid hown6
        clear hown5 hgrow hat5 owna news ka hown honly hnew
        go_wp2
        go_roundw
        case rel => exact ⟨k + 1, _, by omega, by go_num, rfl, hown6.out, honly5, hnew5⟩
        case measure => simp [intOf]; omega
    · have hkl : k = N := by omega
      have hge : (N : Int) ≤ k := by omega
      have hfin : NewStrs w wr vf (dataS s) := by
        refine strs_of_owns (e := 9) ?_ honly hnew.out
        rw [hlen.out, ← hkl]
        rw [hkl, List.take_of_length_le (by rw [hlen.out]; omega)] at hown
        rw [hkl]
        exact hown
      replace hfin := Lib.hid hfin
      clear hown
      go_wp2_with fail
      refine (hsize.out _ honly).mono ?_
      rintro e w1 ⟨rfl, rfl⟩
      go_wp2
      go_ret2
      exact ⟨_, rfl, hfin.out⟩

theorem strOf_inj {a b : List UInt8} (h : strOf a = strOf b) : a = b := by
  have := congrArg (fun s : ByteArray => s.data.toList) h
  simpa [strOf] using this

set_option maxRecDepth 100000 in
theorem same_any (w : World) (A B : Option Addr) (c d : Nat) (L M : List (List UInt8)) (hA : Strs w A L) (hB : Strs w B M) (hl : L.length ≤ 1048576) :
    Calls Try.prog 23 #[.slice A L.length c, .slice B M.length d] w fun e w' => Says (L = M) e ∧ Only [] w w' := by
  by_cases hlen : L.length = M.length
  · have hlen' : (L.length : Int) = (M.length : Int) := by omega
    rw [← hlen]
    have hlenM : M.length = L.length := hlen.symm
    replace hlen := Lib.hid hlen
    clear hlen'
    go_enter Try.func23, Try.ntmps23
    go_wp2_with fail
    go_loopw [5] (fun i wr => ∃ k : Nat, k ≤ L.length ∧ i = .int .i64 k ∧ Hid (∀ j, j < k → L[j]? = M[j]?) ∧ Only [] w wr) (fun i _ => L.length - (intOf i).toNat)
    case atStart => exact ⟨0, Nat.zero_le _, rfl, fun j hj => by omega, Only.refl _ _⟩
    case round =>
      obtain ⟨k, hk, rfl, hsame, honly⟩ := hrel
      by_cases hlt : k < L.length
      · obtain ⟨g, o, rfl, hg, hat⟩ := hA.get hlt
        obtain ⟨g', o', rfl, hg', hat'⟩ := hB.get (i := k) (by omega)
        have c0 := honly.cell (hat k hlt) (by simp)
        have c1 := honly.cell (hat' k (by omega)) (by simp)
        have hx : L[k]? = some L[k] := List.getElem?_eq_getElem hlt
        have hy : M[k]? = some (M[k]'(by omega)) := List.getElem?_eq_getElem (by omega)
        have hinj : strOf L[k] = strOf (M[k]'(by omega)) → L[k] = M[k]'(by omega) := strOf_inj
        generalize L[k] = x at *
        generalize M[k]'(by omega) = y at *
        by_cases he : strOf x = strOf y
        · have hxy := hinj he
          have hsame2 : Hid (∀ j, j < k + 1 → L[j]? = M[j]?) := fun j hj => by
            by_cases hjk : j = k
            · subst hjk; rw [hx, hy, hxy]
            · exact hsame.out j (by omega)
          rw [he] at c0
          generalize strOf y = ys at *
          replace hx := Lib.hid hx
          replace hy := Lib.hid hy
          replace hinj := Lib.hid hinj
          replace he := Lib.hid he
          clear hsame hxy
          go_wp2
          go_quiet (fail)
          go_wp2
          go_roundw
          case rel => exact ⟨k + 1, by omega, by go_num, hsame2, honly.drewN _⟩
          case measure => simp [intOf]; omega
        · have hno : Hid (¬ L = M) := fun h => by
            rw [h, hy] at hx
            injection hx with hx
            exact he (by rw [hx])
          have he' : ((strOf x).toList == (strOf y).toList) = false := by
            rw [show (strOf x).toList = x from ByteArray.toList_mk _, show (strOf y).toList = y from ByteArray.toList_mk _, beq_eq_false_iff_ne]
            exact fun h => he (by rw [h])
          generalize strOf x = xs at *
          generalize strOf y = ys at *
          replace hx := Lib.hid hx
          replace hy := Lib.hid hy
          replace hinj := Lib.hid hinj
          replace he := Lib.hid he
          clear hsame
          go_wp2
          go_quiet (fail)
          go_wp2
          go_ret
          exact ⟨Says.no (show ¬ L = M from hno), honly.drewN _⟩
      · have hyes : Hid (L = M) := List.ext_getElem? fun j => by
          by_cases hj : j < k
          · exact hsame.out j hj
          · rw [List.getElem?_eq_none (by omega), List.getElem?_eq_none (by omega)]
        have hge : (L.length : Int) ≤ k := by omega
        clear hsame
        go_wp2
        go_ret
        exact ⟨Says.yes (show L = M from hyes), honly⟩
  · have hno : Hid (¬ L = M) := fun h => hlen (by rw [h])
    have hne : ((L.length : Int) != (M.length : Int)) = true := by simp; omega
    go_enter Try.func23, Try.ntmps23
    go_wp2
    go_ret
    exact ⟨Says.no (show ¬ L = M from hno), Only.refl _ _⟩

theorem strs_src {w : World} {A : Option Addr} {c : Nat} {L : List (List UInt8)} (h : Strs w A L) : SrcV w (.slice A L.length c) L.length (strCells L) := by
  refine ⟨_, _, rfl, by simp [strCells], ?_⟩
  rcases h with rfl | ⟨g, o, rfl, _, hc⟩
  · exact .inl rfl
  · refine .inr ⟨_, rfl, fun j u hu => ?_⟩
    have hj : j < L.length := by
      have := (List.getElem?_eq_some_iff.1 hu).1
      simpa [strCells] using this
    rw [strCells_get L j hj] at hu
    injection hu with hu
    rw [addr_add, ← hu]
    exact hc j hj
theorem strCells_one (L : List (List UInt8)) : ∀ u ∈ strCells L, u.oneCell' = true := by
  intro u hu
  simp only [strCells, List.mem_map] at hu
  obtain ⟨b, _, rfl⟩ := hu
  rfl
theorem afterL_take (L : List (List UInt8)) (l : List Bk) (k : Nat) (h : k < l.length) : afterL L (l.take (k + 1)) = (afterL L (l.take k)).set l[k].at_.toNat (setB l[k]) := by
  rw [List.take_succ_eq_append_getElem h, afterL_snoc]

set_option maxRecDepth 100000 in
set_option maxHeartbeats 2000000 in
theorem after_any (w : World) (A B : Option Addr) (c d : Nat) (L : List (List UInt8)) (l : List Bk) (hA : Strs w A L) (hb : Blks w B l) (hL : L.length ≤ 1048576) (hl : l.length ≤ 1048576) (hgood : ∀ x ∈ l, 0 ≤ x.at_ ∧ x.at_ < (L.length : Int) ∧ x.data.length ≤ 1048576) :
    Calls Try.prog 24 #[.slice A L.length c, .slice B l.length d] w fun e w' => ∃ v, e = .returned v ∧ NewStrs w w' v (afterL L l) := by
  have hb0 : (w.alloc (.cells #[] 9)).ownsRow 0 9 1 (.slice (some ⟨w.heap.size, 0, none⟩) 0 0) 0 [] := World.ownsRow_made w #[] 0 (Nat.zero_le _) (by decide) rfl
  have k0 : Only [] w (w.alloc (.cells #[] 9)) := (Only.refl [] w).alloc _
  have hsrc := strs_src (c := c) (hA.kept k0 (by simp))
  have hone := strCells_one L
  go_enter Try.func24, Try.ntmps24
  go_wp2_with (at_builtin; go_must (refine wpList_append_src _ rfl (.tmp 7) (.tmp 8) 41 rfl 9 (.string ⟨#[]⟩) 16 Try.underlying41 info_text rfl (.slice (some ⟨w.heap.size, 0, none⟩) 0 0) 0 [] rfl hb0 (.slice A L.length c) L.length (strCells L) rfl hsrc hone ?c1 ?c2 ?go))
  case c1 => unfold maxLen; omega
  case c2 => omega
  case go =>
    intro v w1 hown1 hg1 hat1
    have hnewv : Hid (∀ g, v.ownBlock = some g → w.heap.size ≤ g) := fun g hg => by
      rcases hat1 with h | h
      · rw [h] at hg; simp only [Value.ownBlock, Option.some.injEq] at hg; omega
      · rw [h] at hg; injection hg with hg; have := k0.size; omega
    have k1 : Only [] w w1 := k0.grown hg1 (fun j hj => by simp only [Value.ownBlock, Option.some.injEq] at hj; exact .inr (by omega))
    clear hg1 hat1 hsrc hone hb0 k0
    obtain ⟨A1, cp, hv⟩ : ∃ A c, v = .slice A L.length c := ownsRow_slice hown1
    subst hv
    go_wp2_with fail
    go_loopw [6] (fun i wr => ∃ k : Nat, k ≤ l.length ∧ i = .int .i64 k ∧ wr.ownsRow 0 9 1 (.slice A1 L.length cp) L.length (strCells (afterL L (l.take k))) ∧ Only [] w wr) (fun i _ => l.length - (intOf i).toNat)
    case atStart => exact ⟨0, Nat.zero_le _, rfl, by simpa [afterL] using hown1, k1⟩
    case round =>
      clear hown1
      obtain ⟨k, hk, rfl, hown, honly⟩ := hrel
      by_cases hlt : k < l.length
      · obtain ⟨g, o, rfl, hg, hat⟩ := hb.get hlt
        have c0 := honly.cell (hat k hlt).1 (by simp)
        have c1 := honly.cell (hat k hlt).2 (by simp)
        have hst := Lib.hid (afterL_take L l k hlt)
        obtain ⟨g0, g1, g2⟩ := hgood _ (List.getElem_mem hlt)
        generalize l[k] = x at *
        obtain ⟨at_, data⟩ := x
        simp only at c0 c1 g0 g1 g2
        obtain ⟨a, rfl⟩ := Int.eq_ofNat_of_zero_le g0
        have haL : a < L.length := by omega
        obtain ⟨g5, cp5, hA5, _, _⟩ := hown.form (by omega)
        injection hA5 with hA5 _ hcp5
        subst hA5
        subst hcp5
        have hg5 : w.heap.size ≤ g5 := hnewv.out g5 rfl
        have hwh := fun W => whole_any W data g2
        have hfl : 256 ≤ (fillL data).length := by unfold fillL; rw [List.length_append, rep_length]; omega
        have hcut := upto_strOf (P := Try.prog) 9 Try.underlying9 ((fillL data).take 256) 248 248 .i64 rfl (by rw [List.length_take]; omega)
        have hsetB : setB ⟨(a : Int), data⟩ = ((fillL data).take 256).take 248 := by
          unfold setB
          rw [List.take_take]
          rfl
        rw [← hsetB] at hcut
        generalize hT : strOf (setB ⟨(a : Int), data⟩) = T at *
        generalize strOf ((fillL data).take 256) = T2 at *
        generalize strOf data = bs at *
        have kd : Only [] wr wr.drew := (Only.refl [] wr).drew
        have hownd := ownsRow_kept' hown kd (by simp)
        have c0d := kd.cell c0 (by simp)
        have c1d := kd.cell c1 (by simp)
        have honlyd := honly.trans kd
        have hu : ∃ u, wr.drew.cell? ⟨g5, a, none⟩ = some u := by
          have hl5 : a < (strCells (afterL L (l.take k))).length := by rw [strCells_len', afterL_length]; exact haL
          refine ⟨(strCells (afterL L (l.take k)))[a], ?_⟩
          have := hownd.cells rfl a _ (List.getElem?_eq_getElem hl5)
          rwa [addr_add, Nat.zero_add] at this
        obtain ⟨u, hu⟩ := hu
        have hfr := ownsRow_free hownd a
        have hown6 := ownsRow_set (i := a) hownd (.string T)
        have hgl := (hownd.lt g5 rfl).2
        have hgg5 : g ≠ g5 := by omega
        have hset : Only [g5] wr.drew (wr.drew.setCell ⟨g5, a, none⟩ (.string T)) := Only.set wr.drew [g5] (by simp) _
        have hownE : (wr.drew.setCell ⟨g5, a, none⟩ (.string T)).ownsRow 0 9 1 (.slice (some ⟨g5, 0, none⟩) L.length cp) L.length (strCells (afterL L (l.take (k + 1)))) := by
          rw [hst.out]
          rw [← hT, strCells_set] at hown6
          rw [← hT]
          simpa using hown6
        have honlyE : Only [] w (wr.drew.setCell ⟨g5, a, none⟩ (.string T)) := honlyd.then hset (by simp; exact hg5)
        have c0E := hset.cell c0d (by simp; exact hgg5)
        have c1E := hset.cell c1d (by simp; exact hgg5)
        have haI : (a : Int) < (L.length : Int) := by omega
        replace hownE := Lib.hid hownE
        replace honlyE := Lib.hid honlyE
        replace hwh := Lib.hid hwh
        replace hT := Lib.hid hT
        clear hown hownd hown6 honlyd hset hst hsetB hfl hnewv k1
        go_wp2_with fail
        refine wp_region_held_drew (S := fun w' => w'.cell? ⟨g, o + k * 2, none⟩ = some (.int .i64 (a : Int)) ∧ w'.cell? ⟨g, o + k * 2 + 1, none⟩ = some (.string bs)) (by kernel_rfl) ⟨c0d, c1d⟩ (fun hHeld => ?_)
        refine held_take 0 (.slice (some ⟨g5, 0, none⟩) L.length cp) rfl (by kernel_rfl) (by kernel_rfl) (by kernel_rfl) (fun _ _ _ h => h) hHeld (Or.inl ⟨by rfl, fun w' hSw => by (try dsimp only at hSw); (try subst hSw); go_simp⟩) ?_
        simp only [Act.put, List.setIfInBounds_toArray, List.set_cons_zero, List.set_cons_succ]
        refine held_take 1 (.slice (some ⟨g, o, none⟩) l.length d) rfl (by kernel_rfl) (by kernel_rfl) (by kernel_rfl) (fun _ _ _ h => h) hHeld (Or.inl ⟨by rfl, fun w' hSw => by (try dsimp only at hSw); (try subst hSw); go_simp⟩) ?_
        simp only [Act.put, List.setIfInBounds_toArray, List.set_cons_zero, List.set_cons_succ]
        refine held_take 2 (.int .i64 (k : Int)) rfl (by kernel_rfl) (by kernel_rfl) (by kernel_rfl) (fun _ _ _ h => h) hHeld (Or.inl ⟨by rfl, fun w' hSw => by (try dsimp only at hSw); (try subst hSw); go_simp⟩) ?_
        simp only [Act.put, List.setIfInBounds_toArray, List.set_cons_zero, List.set_cons_succ]
        refine held_take 3 (.pointer (some ⟨g, o + k * 2, none⟩)) rfl (by kernel_rfl) (by kernel_rfl) (by kernel_rfl) (fun _ _ _ h => h) hHeld (Or.inl ⟨by rfl, fun w' hSw => by (try dsimp only at hSw); (try subst hSw); go_simp⟩) ?_
        simp only [Act.put, List.setIfInBounds_toArray, List.set_cons_zero, List.set_cons_succ]
        refine held_take 4 (.pointer (some ⟨g, o + k * 2, none⟩)) rfl (by kernel_rfl) (by kernel_rfl) (by kernel_rfl) (fun _ _ _ h => h) hHeld (Or.inl ⟨by rfl, fun w' hSw => by (try dsimp only at hSw); (try subst hSw); go_simp⟩) ?_
        simp only [Act.put, List.setIfInBounds_toArray, List.set_cons_zero, List.set_cons_succ]
        refine held_take 5 (.int .i64 (a : Int)) rfl (by kernel_rfl) (by kernel_rfl) (by kernel_rfl) (fun _ _ _ h => h) hHeld (Or.inl ⟨by rfl, fun w' hSw => by (try dsimp only at hSw); (try subst hSw); go_simp⟩) ?_
        simp only [Act.put, List.setIfInBounds_toArray, List.set_cons_zero, List.set_cons_succ]
        refine held_take 6 (.slice (some ⟨g, o, none⟩) l.length d) rfl (by kernel_rfl) (by kernel_rfl) (by kernel_rfl) (fun _ _ _ h => h) hHeld (Or.inl ⟨by rfl, fun w' hSw => by (try dsimp only at hSw); (try subst hSw); go_simp⟩) ?_
        simp only [Act.put, List.setIfInBounds_toArray, List.set_cons_zero, List.set_cons_succ]
        refine held_take 7 (.int .i64 (k : Int)) rfl (by kernel_rfl) (by kernel_rfl) (by kernel_rfl) (fun _ _ _ h => h) hHeld (Or.inl ⟨by rfl, fun w' hSw => by (try dsimp only at hSw); (try subst hSw); go_simp⟩) ?_
        simp only [Act.put, List.setIfInBounds_toArray, List.set_cons_zero, List.set_cons_succ]
        refine held_take 8 (.pointer (some ⟨g, o + k * 2, none⟩)) rfl (by kernel_rfl) (by kernel_rfl) (by kernel_rfl) (fun _ _ _ h => h) hHeld (Or.inl ⟨by rfl, fun w' hSw => by (try dsimp only at hSw); (try subst hSw); go_simp⟩) ?_
        simp only [Act.put, List.setIfInBounds_toArray, List.set_cons_zero, List.set_cons_succ]
        refine held_take 9 (.pointer (some ⟨g, o + k * 2 + 1, none⟩)) rfl (by kernel_rfl) (by kernel_rfl) (by kernel_rfl) (fun _ _ _ h => h) hHeld (Or.inl ⟨by rfl, fun w' hSw => by (try dsimp only at hSw); (try subst hSw); go_simp⟩) ?_
        simp only [Act.put, List.setIfInBounds_toArray, List.set_cons_zero, List.set_cons_succ]
        refine held_take 10 (.string bs) rfl (by kernel_rfl) (by kernel_rfl) (by kernel_rfl) (fun _ _ _ h => h) hHeld (Or.inl ⟨by rfl, fun w' hSw => by (try dsimp only at hSw); (try subst hSw); go_simp⟩) ?_
        simp only [Act.put, List.setIfInBounds_toArray, List.set_cons_zero, List.set_cons_succ]
        refine held_step 11 rfl (by kernel_rfl) (fun K hK => ?_)
        go_simp
        go_at_call 26
        refine (hwh.out _).mono ?_
        rintro e w3 ⟨rfl, rfl⟩
        go_wp2_with fail
        refine hK.out _ _ ⟨c0d, c1d⟩ (fun hHeld => ?_)
        clear hK K
        refine held_take 12 (.string T) rfl (by kernel_rfl) (by kernel_rfl) (by kernel_rfl) (fun _ _ _ h => h) hHeld (Or.inl ⟨by rfl, fun w' hSw => by (try dsimp only at hSw); (try subst hSw); go_simp⟩) ?_
        simp only [Act.put, List.setIfInBounds_toArray, List.set_cons_zero, List.set_cons_succ]
        refine held_take 13 (.pointer (some ⟨g5, a, none⟩)) rfl (by kernel_rfl) (by kernel_rfl) (by kernel_rfl) (fun _ _ _ h => h) hHeld (Or.inl ⟨by rfl, fun w' hSw => by (try dsimp only at hSw); (try subst hSw); go_simp⟩) ?_
        simp only [Act.put, List.setIfInBounds_toArray, List.set_cons_zero, List.set_cons_succ]
        refine held_step 14 rfl (by kernel_rfl) (fun K hK => ?_)
        go_simp
        refine hK.out _ _ ⟨c0E, c1E⟩ (fun hHeld => ?_)
        clear hK K
        refine wpAnyH_done (by kernel_rfl) ?_ _
        clear hHeld
        clear c0 c1 c0d c1d c0E c1E hu hfr honly
        go_wp2
        go_roundw
        all_goals (first
          | exact ⟨k + 1, by omega, by go_num, hownE.out, honlyE.out⟩
          | (simp [intOf]; omega)
          | ((repeat apply Exists.intro); exact ⟨⟨k + 1, by omega, by go_num, hownE.out, honlyE.out⟩, rfl⟩))
      · have hkl : k = l.length := by omega
        have hge : (l.length : Int) ≤ k := by omega
        have hfin : NewStrs w wr (.slice A1 L.length cp) (afterL L l) := by
          refine strs_of_owns (e := 9) ?_ honly hnewv.out
          rw [hkl, List.take_of_length_le (Nat.le_refl _)] at hown
          rw [afterL_length]
          exact hown
        replace hfin := Lib.hid hfin
        clear hown
        go_wp2
        go_ret
        exact ⟨_, rfl, hfin.out⟩

end Go.Proofs.Ytihoebmfanelkaa
