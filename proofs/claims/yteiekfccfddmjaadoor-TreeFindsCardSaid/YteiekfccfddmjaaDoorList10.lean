/- List: the document's, the program's. -/
import Derived.Test.YteiekfccfddmjaaDoorPut10
import Derived.Test.YteiekfccfddmjaaDoorStay2
namespace Go.Proofs.YteiekfccfddmjaaDoor
open Go.RowKit Go.Sort

/-- The names in a directory, in the tree's order. -/
def namesIn (l : List Nd) (d : Int) : List (List UInt8) := (l.filter (fun x => x.par == d)).map Nd.name
theorem namesIn_take {l : List Nd} {d : Int} {k : Nat} {x : Nd} (h : l[k]? = some x) : namesIn (l.take (k + 1)) d = namesIn (l.take k) d ++ (if x.par = d then [x.name] else []) := by
  unfold namesIn
  rw [List.take_add_one, h]
  simp only [Option.toList_some, List.filter_append, List.map_append]
  congr 1
  by_cases hp : x.par = d
  · simp [hp]
  · simp [hp]
theorem namesIn_len (l : List Nd) (d : Int) : (namesIn l d).length ≤ l.length := by
  unfold namesIn
  rw [List.length_map]
  exact List.length_filter_le _ _
/-- What List answers. -/
def listL (t : List Nd) (p : List UInt8) : List (List UInt8) := if (findR t p).2 ≠ 0 then [] else if (findR t p).1.dir = false then [] else (namesIn t (findR t p).1.id).mergeSort fun x y => decide (x ≤ y)
def listE (t : List Nd) (p : List UInt8) : Int := if (findR t p).2 ≠ 0 then (findR t p).2 else if (findR t p).1.dir = false then 10 else 0
theorem putL_len (l : List (List UInt8)) (s : List UInt8) : (putL l s).length = l.length + 1 := by
  have := (putL_perm l s).length_eq
  simpa using this
theorem fold_len (xs : List (List UInt8)) : (xs.foldl putL []).length = xs.length := by
  have := (fold_put xs [] List.Pairwise.nil).2.length_eq
  simpa using this
theorem NamAns.nms {w w' : World} {v : Value} {l : List (List UInt8)} (h : Mine strE 1 9 w w' v l) (x : Value) : NmsAns w w' (.returned (.tuple #[v, x])) l x := h.nms x

set_option maxRecDepth 100000 in
set_option maxHeartbeats 8000000 in
theorem rlist_any (w : World) (A : Option Addr) (c : Nat) (l : List Nd) (p : List UInt8) (hb : Els ndE 5 w A l) (hl : l.length ≤ 1000) (hp : p.length ≤ 1048576) :
    Calls Tryd.prog 22 #[.slice A l.length c, .string (strOf p)] w fun e w' => NmsAns w w' e (listL l p) (.int .i64 (listE l p)) := by
  have hlI : (l.length : Int) ≤ 1000 := by omega
  have hF := rfind_any w A c l p hb (by omega) hp
  obtain ⟨e1, e2⟩ := findI_same (t := l) (p := p)
  have hFT : (findR l p).2 = 0 → Tree l ∧ (findR l p).1 ∈ l := fun h => ⟨(findR_tree h).1, (findR_tree h).2.1⟩
  unfold listL listE
  generalize findR l p = F at *
  generalize findI l p = G at *
  obtain ⟨y, er⟩ := F
  obtain ⟨k, ek⟩ := G
  simp only at hF e1 e2 hFT ⊢
  subst e1
  by_cases he : ek = 0
  rotate_left
  · rw [if_pos he, if_pos he]
    have heb : (ek != 0) = true := by simpa using he
    replace hF := Lib.hid hF
    clear hFT e2
    go_enter Tryd.func22, Tryd.ntmps22
    go_wp2_with fail
    refine hF.out.mono ?_; rintro e w1 ⟨rfl, k1⟩
    go_wp2
    go_ret2
    exact NmsAns.no k1
  subst he
  rw [if_neg (show ¬ ((0 : Int) ≠ 0) by decide), if_neg (show ¬ ((0 : Int) ≠ 0) by decide)]
  obtain ⟨hT, hmem⟩ := hFT rfl
  have hx := e2 rfl
  have hlt := (List.getElem?_eq_some_iff.1 hx).1
  have hxe : l[k] = y := (List.getElem?_eq_some_iff.1 hx).2
  have hy1 := hT.pos hmem
  obtain ⟨g, o, rfl, hg, hat⟩ := hb.get hlt
  have hcl := fun W (kk : Only [] w W) => nds_at (hat.kept kk (by simp)) hlt
  rw [hxe] at hcl
  have hkI : (k : Int) < (l.length : Int) := by omega
  have hkz : (0 : Int) ≤ (k : Int) := by omega
  obtain ⟨y0, y1, y2, y3, y4⟩ := y
  simp only at hcl hy1 ⊢
  replace hF := Lib.hid hF
  replace hx := Lib.hid hx
  replace hxe := Lib.hid hxe
  cases y3 with
  | false =>
    rw [if_pos rfl, if_pos rfl]
    replace hcl := Lib.hid hcl
    clear hFT e2 hT hmem hat
    go_enter Tryd.func22, Tryd.ntmps22
    go_wp2_with fail
    refine hF.out.mono ?_; rintro e w1 ⟨rfl, k1⟩
    obtain ⟨c0, c1, c2, c3, c4⟩ := hcl.out _ k1
    go_wp2
    go_ret2
    exact NmsAns.no k1
  | true =>
  rw [if_neg (by decide), if_neg (by decide), ← put_sort]
  have h1l : Hid (namesIn (l.take 1) y0 = []) := by
    have h0 := hT.get0
    rw [show (1 : Nat) = 0 + 1 from rfl, namesIn_take h0, List.take_zero]
    rw [if_neg (by simp [rootN]; omega)]
    rfl
  have hln : Hid (namesIn (l.take l.length) y0 = namesIn l y0) := by rw [List.take_length]; exact rfl
  have hl1 : 1 ≤ l.length := by omega
  have hcy := fun W (kk : Only [] w W) => (hcl W kk).1
  have hcd := fun W (kk : Only [] w W) => (hcl W kk).2.2.2.1
  replace hcy := Lib.hid hcy
  replace hcd := Lib.hid hcd
  have hb' : Hid (Els ndE 5 w (some ⟨g, o, none⟩) l) := hb
  clear hFT e2 hT hmem hcl hy1 hb hat
  go_enter Tryd.func22, Tryd.ntmps22
  go_wp2_with fail
  refine hF.out.mono ?_; rintro e w1 ⟨rfl, k1⟩
  have hd1 := hcd.out _ k1
  go_wp2_with fail
  clear hd1
  go_loopw [8, 9] (fun v a wr => ∃ i : Nat, 1 ≤ i ∧ i ≤ l.length ∧ a = .int .i64 i ∧ Mine strE 1 9 w wr v ((namesIn (l.take i) y0).foldl putL [])) (fun _ a _ => l.length - (intOf a).toNat)
  case atStart => exact ⟨1, Nat.le_refl _, hl1, rfl, by rw [h1l.out]; exact Mine.start _ _ _ k1⟩
  case round =>
    obtain ⟨i, h1i, hil, rfl, hm⟩ := hrel
    by_cases hi : i < l.length
    · have hiI : (i : Int) < (l.length : Int) := by omega
      have hix : l[i]? = some l[i] := List.getElem?_eq_getElem hi
      have hnx := namesIn_take (d := y0) hix
      have hlen := fold_len (namesIn (l.take i) y0)
      have hlen2 := namesIn_len (l.take i) y0
      have hlen3 : (l.take i).length ≤ 1000 := by rw [List.length_take]; omega
      obtain ⟨g', o', hgo, _, hat'⟩ := hb'.out.get hi
      injection hgo with hgo
      injection hgo with hgo1 hgo2
      subst hgo1
      subst hgo2
      obtain ⟨d0, d1, d2, d3, d4⟩ := nds_at (hat'.kept hm.only (by simp)) hi
      have hcy1 := hcy.out _ hm.only
      have hcxd := fun W (kk : Only [] w W) => (nds_at (hat'.kept kk (by simp)) hi).2.2.1
      generalize l[i] = x at *
      obtain ⟨x0, x1, x2, x3, x4⟩ := x
      simp only at d0 d1 d2 d3 d4 hnx hcxd
      generalize hE : (namesIn (l.take i) y0).foldl putL [] = E at *
      have hlE : E.length ≤ 1000 := by omega
      clear hlen hlen2 hlen3
      replace hix := Lib.hid hix
      replace hE := Lib.hid hE
      replace hcxd := Lib.hid hcxd
      clear hat'
      by_cases hxp : x1 = y0
      · rw [if_pos hxp] at hnx
        have hnx' : Hid ((namesIn (l.take (i + 1)) y0).foldl putL [] = putL E x2) := by rw [hnx, List.foldl_append, hE.out]; exact rfl
        have hxb : (x1 == y0) = true := by simpa using hxp
        obtain ⟨AE, cE, rfl, eE, hcE, _⟩ := hm.shape strE_length
        have hP := fun W (kk : Only [] _ W) => put_any W AE cE E x2 (eE.kept kk (by simp)) hcE (by omega)
        replace hP := Lib.hid hP
        replace hm := Lib.hid hm
        replace hnx := Lib.hid hnx
        replace hxp := Lib.hid hxp
        clear d0 d3 d4 eE
        go_wp2_with fail
        go_quiet (fail)
        go_wp2_with fail
        refine (hP.out _ ((Only.refl [] _).drewN _)).mono ?_; rintro e w5 ⟨v5, rfl, m5⟩
        have hm5 := Mine.from (hm.out.only.drewN _) m5
        go_wp2_with fail
        go_roundw
        case rel => exact ⟨i + 1, by omega, by omega, by go_num, by rw [hnx'.out]; exact hm5⟩
        case measure => simp [intOf]; omega
      · rw [if_neg hxp, List.append_nil] at hnx
        have hnx' : Hid ((namesIn (l.take (i + 1)) y0).foldl putL [] = E) := by rw [hnx, hE.out]; exact rfl
        have hxb : (x1 == y0) = false := by rw [beq_eq_false_iff_ne]; exact hxp
        replace hm := Lib.hid hm
        replace hnx := Lib.hid hnx
        replace hxp := Lib.hid hxp
        clear d0 d3 d4 d2
        go_wp2_with fail
        go_quiet (fail)
        go_wp2_with fail
        go_roundw
        case rel => exact ⟨i + 1, by omega, by omega, by go_num, by rw [hnx'.out]; exact hm.out.keep ((Only.refl [] _).drewN _)⟩
        case measure => simp [intOf]; omega
    · obtain rfl : i = l.length := by omega
      rw [hln.out] at hm
      have hans := hm.nms (.int .i64 0)
      obtain ⟨AE, cE, rfl, _, _, _⟩ := hm.shape strE_length
      replace hans := Lib.hid hans
      clear hm
      go_wp2
      go_ret2
      exact hans.out
end Go.Proofs.YteiekfccfddmjaaDoor
