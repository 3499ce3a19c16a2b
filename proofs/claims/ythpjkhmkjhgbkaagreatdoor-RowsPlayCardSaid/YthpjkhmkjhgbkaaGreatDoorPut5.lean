/- RowsPut: rows that were put are told, rising, and rows that are gone are not. -/
import Derived.Test.YthpjkhmkjhgbkaaGreatDoorOrder5
import Derived.Laws.Cover1
namespace Go.Proofs.YthpjkhmkjhgbkaaGreatDoor
open Go.RowKit Go.Maps

theorem less_before : ∀ a b : List UInt8, Op.bytesLess a b = bytesBefore a b
  | [], [] => by simp [Op.bytesLess, bytesBefore]
  | [], _ :: _ => by simp [Op.bytesLess, bytesBefore]
  | _ :: _, [] => by simp [Op.bytesLess, bytesBefore]
  | a :: r, b :: s => by
    rw [Op.bytesLess, bytesBefore, less_before r s]

/-! What the lists say of a key. -/
def seeF (key : List UInt8) (st : List UInt8 × Bool) (c : Ch) : List UInt8 × Bool := if c.key == key then (c.val, !c.gone) else st
def seeL (key : List UInt8) (st : List UInt8 × Bool) (l : List Ch) : List UInt8 × Bool := l.foldl (seeF key) st
theorem seeL_take (key : List UInt8) (st : List UInt8 × Bool) (l : List Ch) (k : Nat) (h : k < l.length) : seeL key st (l.take (k + 1)) = seeF key (seeL key st (l.take k)) l[k] := by
  rw [List.take_add_one, List.getElem?_eq_getElem h]
  unfold seeL
  rw [List.foldl_append]
  rfl
theorem see_none (key : List UInt8) : ∀ (l : List Ch) (st : List UInt8 × Bool), (∀ c ∈ l, c.key ≠ key) → seeL key st l = st
  | [], _, _ => rfl
  | x :: r, st, h => by
    have hx : seeF key st x = st := by rw [seeF, if_neg (by simpa using h x (by simp))]
    show seeL key (seeF key st x) r = st
    rw [hx]
    exact see_none key r st fun c hc => h c (by simp [hc])
theorem see_some (key : List UInt8) : ∀ (l : List Ch) (st : List UInt8 × Bool) (c : Ch), (l.Pairwise fun a b => a.key ≠ b.key) → c ∈ l → c.key = key → seeL key st l = (c.val, !c.gone)
  | x :: r, st, c, h, hc, hk => by
    obtain ⟨h1, h2⟩ := List.pairwise_cons.1 h
    show seeL key (seeF key st x) r = _
    rcases List.mem_cons.1 hc with rfl | hc
    · rw [see_none key r _ fun y hy => by rw [← hk]; exact (h1 y hy).symm]
      rw [seeF, if_pos (by simpa using hk)]
    · exact see_some key r _ c h2 hc hk
def Sees (g : Option (List UInt8)) (st : List UInt8 × Bool) : Prop := st.2 = g.isSome ∧ ∀ v, g = some v → st.1 = v
theorem see_after {l : List Ch} (hl : Fits l) {M : List Rw} {key : List UInt8} {st : List UInt8 × Bool} (h : Sees (getR M key) st) : Sees (afterK l M key) (seeL key st l) := by
  unfold afterK
  cases hh : hitL l key with
  | none => rw [see_none key l st (hitL_none hh)]; exact h
  | some c =>
    obtain ⟨hc, hk⟩ := hitL_some hh
    rw [see_some key l st c hl.keys hc hk]
    simp only
    cases hg : c.gone with
    | true => exact ⟨rfl, fun v hv => by simp at hv⟩
    | false => exact ⟨rfl, fun v hv => by simpa using hv⟩
theorem any_get (M : List Rw) (key : List UInt8) : (M.map chOf).any (fun c => c.key == key) = (getR M key).isSome := by
  rw [Bool.eq_iff_iff]
  simp [getR, findR, chOf]
theorem anyk_take (key : List UInt8) (l : List Ch) (k : Nat) (h : k < l.length) : (l.take (k + 1)).any (fun c => c.key == key) = ((l.take k).any (fun c => c.key == key) || (l[k].key == key)) := by
  rw [List.take_add_one, List.getElem?_eq_getElem h, List.any_append]
  simp only [Option.toList_some, List.any_cons, List.any_nil, Bool.or_false]
theorem str_toList (a : List UInt8) : (strOf a).toList = a := ByteArray.toList_mk _
theorem rows_get {N : Nat} {M : List Rw} (h : Good N M) (i : Nat) (x : Ch) (hx : (M.map chOf)[i]? = some x) : getR M x.key = some x.val ∧ x.gone = false ∧ x.key.length ≤ 1048576 := by
  rw [List.getElem?_map] at hx
  obtain ⟨r, hr, rfl⟩ := Option.map_eq_some_iff.1 hx
  have hm := List.mem_of_getElem? hr
  refine ⟨?_, rfl, ?_⟩
  · show getR M r.key = some r.val
    rw [getR, findR_of h.sorted hm]
    rfl
  · have := (h.small _ hm).2.1
    show r.key.length ≤ 1048576
    omega
theorem rows_rise {N : Nat} {M : List Rw} (h : Good N M) (i : Nat) (x y : Ch) (hx : (M.map chOf)[i]? = some x) (hy : (M.map chOf)[i + 1]? = some y) : bytesBefore x.key y.key = true := by
  rw [List.getElem?_map] at hx hy
  obtain ⟨r, hr, rfl⟩ := Option.map_eq_some_iff.1 hx
  obtain ⟨s, hs, rfl⟩ := Option.map_eq_some_iff.1 hy
  obtain ⟨h1, rfl⟩ := List.getElem?_eq_some_iff.1 hr
  obtain ⟨h2, rfl⟩ := List.getElem?_eq_some_iff.1 hs
  exact List.pairwise_iff_getElem.1 h.sorted i (i + 1) h1 h2 (by omega)
theorem puts_ok {N : Nat} {M M' : List Rw} {l : List Ch} (h : Puts N M l 0 M') : Fits l ∧ Good N M' ∧ ∀ k, getR M' k = afterK l M k := by
  rcases h with ⟨_, h, _⟩ | ⟨_, _, h, _⟩ | ⟨h1, _, _, h2, h3⟩
  · exact absurd h (by decide)
  · exact absurd h (by decide)
  · exact ⟨fits_of h1, h2, h3⟩

set_option maxRecDepth 100000 in
set_option maxHeartbeats 4000000 in
theorem rowsPut_walk (w : World) (A B : Option Addr) (c d : Nat) (l m : List Ch) (ky : ByteArray) (hA : Els chE 3 w A l) (hok : okayC l) (hl : l.length ≤ 9223372036854775807) (hc : l.length ≤ c)
    (hB : Els chE 3 w B m) (hokm : okayC m) (hm : m.length ≤ 9223372036854775807) (hd : m.length ≤ d) (hks : ky.size ≤ 9223372036854775807) :
    Calls Tryz.prog 5 #[.slice A l.length c, .slice B m.length d, .string ky] w fun e w' => e = .returned (.bool true) ∧ Only [] w w' := by
  obtain ⟨key, rfl⟩ : ∃ key, ky = strOf key := ⟨ky.data.toList, (strOf_toList ky).symm⟩
  rw [strOf_size] at hks
  have hksz : (strOf key).size = key.length := strOf_size _
  have hbe := fun x : List UInt8 => beq_toList x key
  have halive := fun W => alive_any W
  have hlong := fun W (k : Only [] w W) => long_any W A c l (hA.kept k (by simp)) hl
  have hlong2 := fun W (k : Only [] w W) => long_any W B d m (hB.kept k (by simp)) hm
  have hgetK := fun (w w1 : World) (F : List Nat) (rp mb lp p N : Nat) (M : List Rw) (c : Nat) (h : Rows5 w w1 F rp mb lp p N M c) (hk : key.length ≤ 200) => h.get key (by omega)
  generalize hkb : strOf key = kb at *
  replace hkb := Lib.hid hkb
  replace hbe := Lib.hid hbe
  replace halive := Lib.hid halive
  replace hlong := Lib.hid hlong
  replace hlong2 := Lib.hid hlong2
  replace hgetK := Lib.hid hgetK
  replace hl := Lib.hid hl
  replace hm := Lib.hid hm
  go_enter Tryz.func5, Tryz.ntmps5
  go_wp2_with fail
  refine (halive.out _).mono ?_
  rintro e w1 ⟨rfl, k1⟩
  go_wp2_with fail
  refine (hlong.out w1 k1).mono ?_
  rintro e w2 ⟨⟨r1, rfl, q1⟩, k2⟩
  have k12 := k1.trans k2
  clear k1 k2
  cases r1 with
  | true =>
    clear q1
    go_wp2_with fail
    refine (halive.out _).mono ?_
    rintro e w3 ⟨rfl, k3⟩
    have kend := k12.trans k3
    go_wp2
    go_ret
    exact ⟨rfl, kend⟩
  | false =>
  have hsh := q1 rfl
  replace hsh := Lib.hid hsh
  clear q1
  go_wp2_with fail
  refine (hlong2.out w2 k12).mono ?_
  rintro e w3 ⟨⟨r2, rfl, q2⟩, k3⟩
  have k13 := k12.trans k3
  clear k12 k3
  cases r2 with
  | true =>
    clear q2
    go_wp2_with fail
    refine (halive.out _).mono ?_
    rintro e w4 ⟨rfl, k4⟩
    have kend := k13.trans k4
    go_wp2
    go_ret
    exact ⟨rfl, kend⟩
  | false =>
  have hshm := q2 rfl
  replace hshm := Lib.hid hshm
  clear q2
  by_cases hbig : (200 : Int) < (kb.size : Int)
  · replace hksz := Lib.hid hksz
    go_wp2_with fail
    refine (halive.out _).mono ?_
    rintro e w4 ⟨rfl, k4⟩
    have kend := k13.trans k4
    go_wp2
    go_ret
    exact ⟨rfl, kend⟩
  have hkey : key.length ≤ 200 := by omega
  have hl80 : (l.length : Int) ≤ 80 := by have := hsh.out.1; omega
  have hm80 : (m.length : Int) ≤ 80 := by have := hshm.out.1; omega
  have hA3 := hA.kept k13 (by simp)
  have hB3 := hB.kept k13 (by simp)
  have hnew := ownNew_any w3 w3 100 (by decide) (by decide) (Only.refl _ _)
  replace hnew := Lib.hid hnew
  replace hksz := Lib.hid hksz
  replace hkey := Lib.hid hkey
  go_wp2_with fail
  refine hnew.out.mono ?_
  rintro e w4 ⟨p, F, rfl, hd4, _, _⟩
  go_wp2_with fail
  refine (hd4.rows5 (N := 59) rfl (by decide)).mono ?_
  rintro e w5 ⟨rp, mb, lp, F5, rfl, h5, _, _, _, _, _⟩
  clear hd4 hnew
  go_wp2_with fail
  refine (h5.put A c l (by decide) (hA3.kept h5.only (by simp)) hok hl.out hc).mono ?_
  rintro e w6 ⟨x1, M1, F6, rfl, hp1, h6, _, _⟩
  clear h5
  by_cases hx1 : x1 = 0
  case neg =>
    have kend := k13.trans h6.only
    clear hp1 h6
    go_wp2_with fail
    refine (halive.out _).mono ?_
    rintro e w7 ⟨rfl, k7⟩
    have kend2 := kend.trans k7
    go_wp2
    go_ret
    exact ⟨rfl, kend2⟩
  subst hx1
  go_wp2_with fail
  refine (h6.put B d m (by decide) (hB3.kept h6.only (by simp)) hokm hm.out hd).mono ?_
  rintro e w7 ⟨x2, M2, F7, rfl, hp2, h7, _, _⟩
  clear h6
  by_cases hx2 : x2 = 0
  case neg =>
    have kend := k13.trans h7.only
    clear hp1 hp2 h7
    go_wp2_with fail
    refine (halive.out _).mono ?_
    rintro e w8 ⟨rfl, k8⟩
    have kend2 := kend.trans k8
    go_wp2
    go_ret
    exact ⟨rfl, kend2⟩
  subst hx2
  obtain ⟨hf1, _, hg1⟩ := puts_ok hp1
  obtain ⟨hf2, hgood, hg2⟩ := puts_ok hp2
  have hs1 : Sees (getR M1 key) (seeL key ([], false) l) := by rw [hg1]; exact see_after (M := []) hf1 ⟨rfl, fun v hv => by cases hv⟩
  have hs2 : Sees (getR M2 key) (seeL key (seeL key ([], false) l) m) := by rw [hg2]; exact see_after hf2 hs1
  have hA7 := hA3.kept h7.only (by simp)
  have hB7 := hB3.kept h7.only (by simp)
  have hn0 : ([], false) = seeL key ([], false) (l.take 0) := rfl
  generalize hS1 : seeL key ([], false) l = S1 at *
  generalize hS2 : seeL key S1 m = S2 at *
  replace hp1 := Lib.hid hp1
  replace hp2 := Lib.hid hp2
  replace hs1 := Lib.hid hs1
  replace hs2 := Lib.hid hs2
  replace hf1 := Lib.hid hf1
  replace hf2 := Lib.hid hf2
  replace hg1 := Lib.hid hg1
  replace hg2 := Lib.hid hg2
  replace hS1 := Lib.hid hS1
  replace hS2 := Lib.hid hS2
  replace hgood := Lib.hid hgood
  clear hA hB hA3 hB3 hn0
  go_wp2_with fail
  go_loopw [9, 10, 11] (fun a b i wr => ∃ k : Nat, k ≤ l.length ∧ a = .string (strOf (seeL key ([], false) (l.take k)).1) ∧ b = .bool (seeL key ([], false) (l.take k)).2 ∧ i = .int .i64 k ∧ Only [] w7 wr) (fun _ _ i _ => l.length - (intOf i).toNat)
  case atStart => exact ⟨0, Nat.zero_le _, rfl, rfl, rfl, Only.refl _ _⟩
  case round =>
    obtain ⟨k, hk, rfl, rfl, rfl, honly⟩ := hrel
    by_cases hlt : k < l.length
    · obtain ⟨g, o, rfl, hg, hat⟩ := hA7.get hlt
      obtain ⟨c0, c1, c2⟩ := chs_at (hat.kept honly (by simp)) hlt
      have hst := seeL_take key ([], false) l k hlt
      have hbx := hbe.out l[k].key
      generalize hT : seeL key ([], false) (l.take (k + 1)) = T at *
      generalize seeL key ([], false) (l.take k) = st at *
      generalize l[k] = x at *
      obtain ⟨xk, xv, xg⟩ := x
      simp only at c0 c1 c2 hbx
      replace hT := Lib.hid hT
      by_cases he : xk = key
      · have hst2 : T = (xv, !xg) := by rw [hst, seeF, if_pos (by simpa using he)]
        have hb : ((strOf xk).toList == kb.toList) = true := by rw [hbx]; simpa using he
        generalize strOf xk = ks at *
        replace hbx := Lib.hid hbx
        replace hst := Lib.hid hst
        replace hst2 := Lib.hid hst2
        replace he := Lib.hid he
        clear hat
        go_wp2
        go_roundw
        case rel => exact ⟨k + 1, by omega, by rw [hT.out, hst2.out], by rw [hT.out, hst2.out], by go_num, honly⟩
        case measure => simp [intOf]; omega
      · have hst2 : T = st := by rw [hst, seeF, if_neg (by simpa using he)]
        have hb : ((strOf xk).toList == kb.toList) = false := by rw [hbx]; simpa using he
        generalize strOf xk = ks at *
        replace hbx := Lib.hid hbx
        replace hst := Lib.hid hst
        replace hst2 := Lib.hid hst2
        replace he := Lib.hid he
        clear hat
        go_wp2
        go_roundw
        case rel => exact ⟨k + 1, by omega, by rw [hT.out, hst2.out], by rw [hT.out, hst2.out], by go_num, honly⟩
        case measure => simp [intOf]; omega
    · have hge : (l.length : Int) ≤ k := by omega
      have hkl : l.take k = l := List.take_of_length_le (by omega)
      rw [hkl, hS1.out]
      obtain ⟨wq, rfl⟩ : ∃ wq, wq = wr := ⟨wr, rfl⟩
      have h8 := h7.keep honly
      have hB8 := hB7.kept honly (by simp)
      replace hkl := Lib.hid hkl
      clear h7 hA7 hB7 honly
      go_wp2_with fail
      go_loopw [9, 10, 12] (fun a b i wr => ∃ k : Nat, k ≤ m.length ∧ a = .string (strOf (seeL key S1 (m.take k)).1) ∧ b = .bool (seeL key S1 (m.take k)).2 ∧ i = .int .i64 k ∧ Only [] wq wr) (fun _ _ i _ => m.length - (intOf i).toNat)
      case atStart => exact ⟨0, Nat.zero_le _, rfl, rfl, rfl, Only.refl _ _⟩
      case round =>
        obtain ⟨k', hk', rfl, rfl, rfl, honly⟩ := hrel
        by_cases hlt' : k' < m.length
        · obtain ⟨g, o, rfl, hg, hat⟩ := hB8.get hlt'
          obtain ⟨c0, c1, c2⟩ := chs_at (hat.kept honly (by simp)) hlt'
          have hst := seeL_take key S1 m k' hlt'
          have hbx := hbe.out m[k'].key
          generalize hT : seeL key S1 (m.take (k' + 1)) = T at *
          generalize seeL key S1 (m.take k') = st at *
          generalize m[k'] = x at *
          obtain ⟨xk, xv, xg⟩ := x
          simp only at c0 c1 c2 hbx
          replace hT := Lib.hid hT
          by_cases he : xk = key
          · have hst2 : T = (xv, !xg) := by rw [hst, seeF, if_pos (by simpa using he)]
            have hb : ((strOf xk).toList == kb.toList) = true := by rw [hbx]; simpa using he
            generalize strOf xk = ks at *
            replace hbx := Lib.hid hbx
            replace hst := Lib.hid hst
            replace hst2 := Lib.hid hst2
            replace he := Lib.hid he
            clear hat
            go_wp2
            go_roundw
            case rel => exact ⟨k' + 1, by omega, by rw [hT.out, hst2.out], by rw [hT.out, hst2.out], by go_num, honly⟩
            case measure => simp [intOf]; omega
          · have hst2 : T = st := by rw [hst, seeF, if_neg (by simpa using he)]
            have hb : ((strOf xk).toList == kb.toList) = false := by rw [hbx]; simpa using he
            generalize strOf xk = ks at *
            replace hbx := Lib.hid hbx
            replace hst := Lib.hid hst
            replace hst2 := Lib.hid hst2
            replace he := Lib.hid he
            clear hat
            go_wp2
            go_roundw
            case rel => exact ⟨k' + 1, by omega, by rw [hT.out, hst2.out], by rw [hT.out, hst2.out], by go_num, honly⟩
            case measure => simp [intOf]; omega
        · have hge' : (m.length : Int) ≤ k' := by omega
          have hkm : m.take k' = m := List.take_of_length_le (by omega)
          rw [hkm, hS2.out]
          have h9 := h8.keep honly
          have hget := hgetK.out _ _ _ _ _ _ _ _ _ _ h9 hkey.out
          have hanyg := any_get M2 key
          obtain ⟨hs2a, hs2b⟩ := hs2.out
          obtain ⟨W2, T2⟩ := S2
          simp only at hs2a hs2b
          have hgot : (getR M2 key).isSome = T2 := hs2a.symm
          have hval : T2 = true → strOf ((getR M2 key).getD []) = strOf W2 := fun h => by
            rw [h] at hgot
            obtain ⟨v, hv⟩ := Option.isSome_iff_exists.1 hgot
            rw [hv, hs2b v hv]
            rfl
          have hval2 : T2 = false → strOf ((getR M2 key).getD []) = (⟨#[]⟩ : ByteArray) := fun h => by
            rw [h] at hgot
            have hv : getR M2 key = none := by simpa using hgot
            rw [hv]
            rfl
          rw [hgot] at hget hanyg
          obtain ⟨wz, rfl⟩ : ∃ wz, wz = wr := ⟨wr, rfl⟩
          generalize strOf ((getR M2 key).getD []) = gv at *
          generalize hW2 : strOf W2 = wv at *
          replace hget := Lib.hid hget
          replace hs2a := Lib.hid hs2a
          replace hs2b := Lib.hid hs2b
          replace hgot := Lib.hid hgot
          replace hanyg := Lib.hid hanyg
          replace hkm := Lib.hid hkm
          replace hW2 := Lib.hid hW2
          clear h8 hB8 honly
          go_wp2_with fail
          refine hget.out.mono ?_
          rintro e w10 ⟨rfl, k10⟩
          have h10 := h9.keep k10
          clear h9 k10 hget
          cases T2 with
          | false =>
            have hgv := hval2 rfl
            subst hgv
            clear hval hval2
            go_wp2_with fail
            refine h10.all.mono ?_
            rintro e w11 ⟨v11, rfl, A11, c11, rfl, hc11, he11, k11, _⟩
            have h11 := h10.keep k11
            have hrg := rows_get hgood.out
            have hri := rows_rise hgood.out
            have hLl : ((M2.map chOf).length : Int) = (M2.length : Int) := by simp
            have hL59 : ((M2.map chOf).length : Int) ≤ 59 := by have := hgood.out.length; simp; omega
            generalize M2.map chOf = L at *
            replace hrg := Lib.hid hrg
            replace hri := Lib.hid hri
            clear h10 k11
            go_wp2_with fail
            go_loopw [16, 17] (fun f i wr => ∃ k : Nat, k ≤ L.length ∧ f = .bool ((L.take k).any fun c => c.key == key) ∧ i = .int .i64 k ∧ Only [] w11 wr) (fun _ i _ => L.length - (intOf i).toNat)
            case atStart => exact ⟨0, Nat.zero_le _, rfl, rfl, Only.refl _ _⟩
            case round =>
              obtain ⟨k3, hk3, rfl, rfl, honly⟩ := hrel
              by_cases hlt3 : k3 < L.length
              · obtain ⟨g, o, rfl, hg, hat⟩ := he11.get hlt3
                have hat' := hat.kept honly (by simp)
                obtain ⟨c0, c1, c2⟩ := chs_at hat' hlt3
                obtain ⟨r1, r2, r3⟩ := hrg.out k3 _ (List.getElem?_eq_getElem hlt3)
                have hgk := (h11.keep honly).get L[k3].key r3
                rw [r1] at hgk
                simp only [Option.getD_some, Option.isSome_some] at hgk
                have hst := anyk_take key L k3 hlt3
                have hbx := hbe.out L[k3].key
                have hri3 := fun j y (hj : j + 1 = k3) (hy : L[j]? = some y) => hri.out j y _ hy (by rw [hj]; exact List.getElem?_eq_getElem hlt3)
                rcases Nat.eq_zero_or_pos k3 with rfl | hpos
                · clear hri3
                  generalize hT : (L.take (0 + 1)).any (fun c => c.key == key) = T at *
                  generalize (L.take 0).any (fun c => c.key == key) = st at *
                  generalize L[0] = x at *
                  obtain ⟨xk, xv, xg⟩ := x
                  simp only [Nat.zero_mul, Nat.add_zero] at c0 c1 c2 hbx r1 r2 r3 hst hgk
                  subst r2
                  generalize (xk == key) = eq at *
                  generalize strOf xk = ks at *
                  generalize strOf xv = vs at *
                  replace hgk := Lib.hid hgk
                  replace hT := Lib.hid hT
                  replace hst := Lib.hid hst
                  clear hat hat' r1
                  go_wp2_with fail
                  refine hgk.out.mono ?_
                  rintro e w13 ⟨rfl, k13'⟩
                  have honly' := honly.trans k13'
                  have d0 := k13'.cell c0 (by simp)
                  have d1 := k13'.cell c1 (by simp)
                  have d2 := k13'.cell c2 (by simp)
                  clear c0 c1 c2 honly k13' hgk
                  cases st
                  all_goals
                    go_wp2
                    go_quiet (fail)
                    go_wp2
                    go_roundw
                    case rel => exact ⟨0 + 1, by omega, by rw [hT.out, hst.out]; first | rfl | (rw [hbx]; rfl) | (simp only [Bool.true_or]), by go_num, honly'.drewN _⟩
                    case measure => simp [intOf]; omega
                · obtain ⟨j, rfl⟩ : ∃ j, k3 = j + 1 := ⟨k3 - 1, by omega⟩
                  have hjl : j < L.length := by omega
                  obtain ⟨p0, _, _⟩ := chs_at hat' hjl
                  have hrise := hri3 j _ rfl (List.getElem?_eq_getElem hjl)
                  clear hri3
                  generalize hT : (L.take (j + 1 + 1)).any (fun c => c.key == key) = T at *
                  generalize (L.take (j + 1)).any (fun c => c.key == key) = st at *
                  generalize L[j + 1] = x at *
                  generalize L[j] = y at *
                  obtain ⟨xk, xv, xg⟩ := x
                  obtain ⟨yk, yv, yg⟩ := y
                  simp only at c0 c1 c2 hbx r1 r2 r3 hst hgk p0 hrise
                  subst r2
                  have hless : Op.bytesLess (strOf yk).toList (strOf xk).toList = true := by rw [str_toList, str_toList, less_before]; exact hrise
                  generalize (xk == key) = eq at *
                  generalize strOf xk = ks at *
                  generalize strOf xv = vs at *
                  generalize strOf yk = yks at *
                  replace hgk := Lib.hid hgk
                  replace hT := Lib.hid hT
                  replace hst := Lib.hid hst
                  clear hat hat' r1 hrise
                  go_wp2_with fail
                  refine hgk.out.mono ?_
                  rintro e w13 ⟨rfl, k13'⟩
                  have honly' := honly.trans k13'
                  have d0 := k13'.cell c0 (by simp)
                  have d1 := k13'.cell c1 (by simp)
                  have d2 := k13'.cell c2 (by simp)
                  have d3 := k13'.cell p0 (by simp)
                  clear c0 c1 c2 p0 honly k13' hgk
                  cases st
                  all_goals
                    go_wp2
                    go_quiet (fail)
                    go_wp2
                    go_roundw
                    case rel => exact ⟨j + 1 + 1, by omega, by rw [hT.out, hst.out]; first | rfl | (rw [hbx]; rfl) | (simp only [Bool.true_or]), by go_num, honly'.drewN _⟩
                    case measure => simp [intOf]; omega
              · have hge3 : (L.length : Int) ≤ k3 := by omega
                have hkl3 : L.take k3 = L := List.take_of_length_le (by omega)
                rw [hkl3, hanyg.out]
                have hfr := (h11.keep honly).free
                rw [show ((59 : Nat) : Int) - (M2.length : Int) = 59 - (L.length : Int) by omega] at hfr
                have hfr' := fun W (k : Only [] wr W) => ((h11.keep honly).keep k).free
                rw [show ((59 : Nat) : Int) - (M2.length : Int) = 59 - (L.length : Int) by omega] at hfr'
                have kend := k13.trans (h11.keep honly).only
                replace hfr' := Lib.hid hfr'
                clear hfr h11 honly he11
                go_wp2_with fail
                refine (halive.out _).mono ?_
                rintro e w14 ⟨rfl, k14⟩
                go_wp2_with fail
                refine (hfr'.out _ k14).mono ?_
                rintro e w15 ⟨rfl, k15⟩
                have kend2 := (kend.trans k14).trans k15
                clear kend k14 k15
                go_wp2
                go_ret
                exact ⟨rfl, kend2⟩
          | true =>
            have hgv := hval rfl
            subst hgv
            clear hval hval2
            go_wp2_with fail
            refine h10.all.mono ?_
            rintro e w11 ⟨v11, rfl, A11, c11, rfl, hc11, he11, k11, _⟩
            have h11 := h10.keep k11
            have hrg := rows_get hgood.out
            have hri := rows_rise hgood.out
            have hLl : ((M2.map chOf).length : Int) = (M2.length : Int) := by simp
            have hL59 : ((M2.map chOf).length : Int) ≤ 59 := by have := hgood.out.length; simp; omega
            generalize M2.map chOf = L at *
            replace hrg := Lib.hid hrg
            replace hri := Lib.hid hri
            clear h10 k11
            go_wp2_with fail
            go_loopw [16, 17] (fun f i wr => ∃ k : Nat, k ≤ L.length ∧ f = .bool ((L.take k).any fun c => c.key == key) ∧ i = .int .i64 k ∧ Only [] w11 wr) (fun _ i _ => L.length - (intOf i).toNat)
            case atStart => exact ⟨0, Nat.zero_le _, rfl, rfl, Only.refl _ _⟩
            case round =>
              obtain ⟨k3, hk3, rfl, rfl, honly⟩ := hrel
              by_cases hlt3 : k3 < L.length
              · obtain ⟨g, o, rfl, hg, hat⟩ := he11.get hlt3
                have hat' := hat.kept honly (by simp)
                obtain ⟨c0, c1, c2⟩ := chs_at hat' hlt3
                obtain ⟨r1, r2, r3⟩ := hrg.out k3 _ (List.getElem?_eq_getElem hlt3)
                have hgk := (h11.keep honly).get L[k3].key r3
                rw [r1] at hgk
                simp only [Option.getD_some, Option.isSome_some] at hgk
                have hst := anyk_take key L k3 hlt3
                have hbx := hbe.out L[k3].key
                have hri3 := fun j y (hj : j + 1 = k3) (hy : L[j]? = some y) => hri.out j y _ hy (by rw [hj]; exact List.getElem?_eq_getElem hlt3)
                rcases Nat.eq_zero_or_pos k3 with rfl | hpos
                · clear hri3
                  generalize hT : (L.take (0 + 1)).any (fun c => c.key == key) = T at *
                  generalize (L.take 0).any (fun c => c.key == key) = st at *
                  generalize L[0] = x at *
                  obtain ⟨xk, xv, xg⟩ := x
                  simp only [Nat.zero_mul, Nat.add_zero] at c0 c1 c2 hbx r1 r2 r3 hst hgk
                  subst r2
                  generalize (xk == key) = eq at *
                  generalize strOf xk = ks at *
                  generalize strOf xv = vs at *
                  replace hgk := Lib.hid hgk
                  replace hT := Lib.hid hT
                  replace hst := Lib.hid hst
                  clear hat hat' r1
                  go_wp2_with fail
                  refine hgk.out.mono ?_
                  rintro e w13 ⟨rfl, k13'⟩
                  have honly' := honly.trans k13'
                  have d0 := k13'.cell c0 (by simp)
                  have d1 := k13'.cell c1 (by simp)
                  have d2 := k13'.cell c2 (by simp)
                  clear c0 c1 c2 honly k13' hgk
                  cases st
                  all_goals
                    go_wp2
                    go_quiet (fail)
                    go_wp2
                    go_roundw
                    case rel => exact ⟨0 + 1, by omega, by rw [hT.out, hst.out]; first | rfl | (rw [hbx]; rfl) | (simp only [Bool.true_or]), by go_num, honly'.drewN _⟩
                    case measure => simp [intOf]; omega
                · obtain ⟨j, rfl⟩ : ∃ j, k3 = j + 1 := ⟨k3 - 1, by omega⟩
                  have hjl : j < L.length := by omega
                  obtain ⟨p0, _, _⟩ := chs_at hat' hjl
                  have hrise := hri3 j _ rfl (List.getElem?_eq_getElem hjl)
                  clear hri3
                  generalize hT : (L.take (j + 1 + 1)).any (fun c => c.key == key) = T at *
                  generalize (L.take (j + 1)).any (fun c => c.key == key) = st at *
                  generalize L[j + 1] = x at *
                  generalize L[j] = y at *
                  obtain ⟨xk, xv, xg⟩ := x
                  obtain ⟨yk, yv, yg⟩ := y
                  simp only at c0 c1 c2 hbx r1 r2 r3 hst hgk p0 hrise
                  subst r2
                  have hless : Op.bytesLess (strOf yk).toList (strOf xk).toList = true := by rw [str_toList, str_toList, less_before]; exact hrise
                  generalize (xk == key) = eq at *
                  generalize strOf xk = ks at *
                  generalize strOf xv = vs at *
                  generalize strOf yk = yks at *
                  replace hgk := Lib.hid hgk
                  replace hT := Lib.hid hT
                  replace hst := Lib.hid hst
                  clear hat hat' r1 hrise
                  go_wp2_with fail
                  refine hgk.out.mono ?_
                  rintro e w13 ⟨rfl, k13'⟩
                  have honly' := honly.trans k13'
                  have d0 := k13'.cell c0 (by simp)
                  have d1 := k13'.cell c1 (by simp)
                  have d2 := k13'.cell c2 (by simp)
                  have d3 := k13'.cell p0 (by simp)
                  clear c0 c1 c2 p0 honly k13' hgk
                  cases st
                  all_goals
                    go_wp2
                    go_quiet (fail)
                    go_wp2
                    go_roundw
                    case rel => exact ⟨j + 1 + 1, by omega, by rw [hT.out, hst.out]; first | rfl | (rw [hbx]; rfl) | (simp only [Bool.true_or]), by go_num, honly'.drewN _⟩
                    case measure => simp [intOf]; omega
              · have hge3 : (L.length : Int) ≤ k3 := by omega
                have hkl3 : L.take k3 = L := List.take_of_length_le (by omega)
                rw [hkl3, hanyg.out]
                have hfr := (h11.keep honly).free
                rw [show ((59 : Nat) : Int) - (M2.length : Int) = 59 - (L.length : Int) by omega] at hfr
                have hfr' := fun W (k : Only [] wr W) => ((h11.keep honly).keep k).free
                rw [show ((59 : Nat) : Int) - (M2.length : Int) = 59 - (L.length : Int) by omega] at hfr'
                have kend := k13.trans (h11.keep honly).only
                replace hfr' := Lib.hid hfr'
                clear hfr h11 honly he11
                go_wp2_with fail
                refine (halive.out _).mono ?_
                rintro e w14 ⟨rfl, k14⟩
                go_wp2_with fail
                refine (hfr'.out _ k14).mono ?_
                rintro e w15 ⟨rfl, k15⟩
                have kend2 := (kend.trans k14).trans k15
                clear kend k14 k15
                go_wp2
                go_ret
                exact ⟨rfl, kend2⟩
end Go.Proofs.YthpjkhmkjhgbkaaGreatDoor
