/- The document's Data and Parse. -/
import Derived.Test.YthpjkhmkjhgbkaaGreatDoorPs5
import Derived.Test.YthpjkhmkjhgbkaaGreatDoorFr5
namespace Go.Proofs.YthpjkhmkjhgbkaaGreatDoor
open Go.RowKit Go.Maps

theorem partL_pad (k v : List UInt8) (n : Nat) (h : n ≤ 248 - (rowL k v).length) (h2 : 248 ≤ (rowL k v).length + n) : partL (rowL k v) n = padD k v := by
  have : n = 248 - (rowL k v).length := by omega
  unfold partL padD
  rw [this, rep_zeros]

set_option maxRecDepth 100000 in
set_option maxHeartbeats 2000000 in
theorem rdata_any (w : World) (k v : List UInt8) (hk : k.length ≤ 16) (hv : v.length ≤ 200) :
    Calls Tryz.prog 93 #[.string (strOf k), .string (strOf v)] w fun e w' => e = .returned (.string (strOf (padD k v))) ∧ Only [] w w' := by
  have h1 := fun W => ftext_list W k (by omega)
  have h2 := fun W => ftext_list W v (by omega)
  have hn := fun W => fnumber_any W 1 1 rfl (by decide)
  have hrow : be4 1 ++ (encT k ++ encT v) = rowL k v := by rw [← List.append_assoc]; rfl
  have hle := rowL_le hk hv
  have hek := encT_length k
  have hev := encT_length v
  have hpk := padN_le k.length
  have hpv := padN_le v.length
  have hpad := partL_pad k v
  generalize strOf k = ks at *
  generalize strOf v = vs at *
  generalize padD k v = P at *
  replace h1 := Lib.hid h1
  replace h2 := Lib.hid h2
  replace hn := Lib.hid hn
  replace hrow := Lib.hid hrow
  replace hpad := Lib.hid hpad
  have hb4 : (be4 1).length = 4 := rfl
  generalize hB : be4 1 = B at *
  generalize hE : encT k = E at *
  generalize hU : encT v = U at *
  replace hB := Lib.hid hB
  replace hE := Lib.hid hE
  replace hU := Lib.hid hU
  have hl1 : B.length + E.length ≤ 9223372036854775807 := by omega
  have hl2 : (B ++ E).length + U.length ≤ 9223372036854775807 := by rw [List.length_append]; omega
  replace hb4 := Lib.hid hb4
  replace hek := Lib.hid hek
  replace hev := Lib.hid hev
  go_enter Tryz.func93, Tryz.ntmps93
  go_wp2_with fail
  refine (hn.out _).mono ?_
  rintro e w1 ⟨rfl, k1⟩
  go_wp2_with fail
  refine (h1.out _).mono ?_
  rintro e w2 ⟨rfl, k2⟩
  go_wp2_with (refine wpList_concat _ rfl 9 9 (.tmp 6) (.tmp 8) rfl B E rfl rfl (by first | exact hl1 | omega) ?_)
  refine (h2.out _).mono ?_
  rintro e w3 ⟨rfl, k3⟩
  go_wp2_with (refine wpList_concat _ rfl 9 9 (.tmp 9) (.tmp 11) rfl (B ++ E) U rfl rfl (by first | exact hl2 | omega) ?_)
  rw [hrow.out]
  have k03 := (k1.trans k2).trans k3
  clear k1 k2 k3 hl1 hl2
  generalize rowL k v = R at *
  go_loopw [5] (fun s wr => ∃ n : Nat, n ≤ 248 - R.length ∧ s = .string (strOf (partL R n)) ∧ wr = w3) (fun s _ => 248 - strLen s)
  case atStart => exact ⟨0, Nat.zero_le _, by rw [partL_zero], rfl⟩
  case round =>
    obtain ⟨n, hn', rfl, hwr⟩ := hrel
    subst hwr
    have hsz : (strOf (partL R n)).size = R.length + n := by rw [strOf_size, partL_length]
    have hlen := partL_length R n
    by_cases hlt : R.length + n < 248
    · have hcat := Lib.hid (partL_snoc R n)
      have hmk := partL_length R (n + 1)
      generalize hy : partL R n = y at *
      replace hy := Lib.hid hy
      have hlt' : (y.length : Int) < 248 := by omega
      have hsz' : ((strOf y).size : Int) < 248 := by omega
      replace hlen := Lib.hid hlen
      replace hsz := Lib.hid hsz
      replace hmk := Lib.hid hmk
      replace hn' := Lib.hid hn'
      replace hlt := Lib.hid hlt
      go_wp2_with (refine wpList_concat _ rfl 9 9 (.tmp 16) (.const (.string ⟨#[0]⟩)) rfl y [0] rfl rfl (by have := hlen.out; have := hlt.out; simp; omega) ?_)
      go_roundw
      case rel => exact ⟨n + 1, by have := hn'.out; have := hlt.out; omega, by rw [hcat.out], by trivial⟩
      case measure => have := hlen.out; have := hlt.out; simp only [strLen, strOf_size, List.length_append, List.length_cons, List.length_nil]; omega
    · have hge : (248 : Int) ≤ (strOf (partL R n)).size := by omega
      have hp := hpad.out n hn' (by omega)
      rw [hp] at hge ⊢
      obtain ⟨y, hy⟩ : ∃ y, y = strOf P := ⟨_, rfl⟩
      rw [← hy] at hge ⊢
      replace hy := Lib.hid hy
      replace hp := Lib.hid hp
      clear hsz hlen hlt
      go_wp2
      go_ret
      exact ⟨by rw [← hy.out]; rfl, k03⟩

theorem isZero_take (s : List UInt8) (k : Nat) (h : k < s.length) : isZeroL (s.take (k + 1)) = (isZeroL (s.take k) && s[k] == 0) := by
  rw [List.take_add_one, List.getElem?_eq_getElem h]
  unfold isZeroL
  rw [List.all_append]
  simp
theorem str_toL (a : List UInt8) : (strOf a).toList = a := ByteArray.toList_mk _

set_option maxRecDepth 100000 in
set_option maxHeartbeats 2000000 in
theorem rparse_any (w : World) (s : List UInt8) (hs : s.length = 248) :
    Calls Tryz.prog 59 #[.string (strOf s)] w fun e w' => e = .returned (parseV s) ∧ Only [] w w' := by
  have hsz : (strOf s).size = s.length := strOf_size s
  have hlI : (s.length : Int) = 248 := by omega
  have hidx := fun i (h : i < s.length) => index_strOf5 (P := Tryz.prog) 9 Tryz.underlying9 s i (i : Int) .i64 rfl h
  have hpz := parse_zero (s := s)
  have hp2 := parse_two (s := s)
  have hpr := parse_row (s := s)
  have hgi := good_iff (s := s) hs
  have hgn := good_no (s := s)
  have hpart := scan_parts (s := s)
  have hn := fun W p h => gnum_any W p s 0 h
  have ht := fun W p h => gtext_any W p (scanR s).2.1 (scanR s).2.2 16 (by have := rNumber_len s 0; show (rNumber s 0).2.1.length ≤ _; omega) h
  have hu := fun W p h => gtext_any W p (scanK s).2.1 (scanK s).2.2 200 (by have := rNumber_len s 0; have := rText_len 16 (scanR s).2.1 (scanR s).2.2; have e : (scanR s).2.1.length ≤ 248 := (by show (rNumber s 0).2.1.length ≤ _; omega); show (rText 16 (scanR s).2.1 (scanR s).2.2).2.1.length ≤ _; omega) h
  have hdat := fun W (h : (scanV s).2.2 = 0) => rdata_any W (scanK s).1 (scanV s).1 (hpart h).2.1 (hpart h).2.2
  change ∀ W p, Rf W p s 0 → Calls _ _ _ W (FTook W p (.int .u32 ((scanR s).1 : Int)) (scanR s).2.1 (scanR s).2.2) at hn
  change ∀ W p, Rf W p (scanR s).2.1 (scanR s).2.2 → Calls _ _ _ W (FTook W p (.string (strOf (scanK s).1)) (scanK s).2.1 (scanK s).2.2) at ht
  change ∀ W p, Rf W p (scanK s).2.1 (scanK s).2.2 → Calls _ _ _ W (FTook W p (.string (strOf (scanV s).1)) (scanV s).2.1 (scanV s).2.2) at hu
  have hR0 : 0 ≤ ((scanR s).1 : Int) := by omega
  have htl : ∀ x : List UInt8, ((strOf x).toList == (strOf s).toList) = (x == s) := fun x => by rw [str_toL, str_toL]
  have hke : ((strOf (scanK s).1).toList = []) ↔ (scanK s).1 = [] := by rw [str_toL]
  have hrf : ∀ W : World, Rf (W.alloc (.cells #[.string (strOf s), .int .i64 0] 164)) W.heap.size s 0 := fun W => by exact Blk.new W 164 #[.string (strOf s), .int .i64 0]
  have hzl := isZero_take s
  have hall : s.take s.length = s := List.take_length
  generalize parseV s = PV at *
  generalize scanR s = R at *
  generalize scanK s = K at *
  generalize scanV s = V at *
  obtain ⟨n, r1, e1⟩ := R
  obtain ⟨k, r2, e2⟩ := K
  obtain ⟨v, r3, e3⟩ := V
  simp only at *
  generalize hgd : goodD s = gd at *
  replace hgd := Lib.hid hgd
  generalize strOf k = ks at *
  generalize strOf v = vs at *
  generalize hss : strOf s = ss at *
  replace hss := Lib.hid hss
  replace hidx := Lib.hid hidx
  replace hpz := Lib.hid hpz
  replace hp2 := Lib.hid hp2
  replace hpr := Lib.hid hpr
  replace hgi := Lib.hid hgi
  replace hgn := Lib.hid hgn
  replace hn := Lib.hid hn
  replace ht := Lib.hid ht
  replace hu := Lib.hid hu
  replace hdat := Lib.hid hdat
  replace htl := Lib.hid htl
  replace hke := Lib.hid hke
  replace hrf := Lib.hid hrf
  replace hzl := Lib.hid hzl
  replace hall := Lib.hid hall
  clear hpart
  go_enter Tryz.func59, Tryz.ntmps59
  go_wp2_with fail
  go_loopw [5, 6] (fun b i wr => ∃ j : Nat, j ≤ s.length ∧ i = .int .i64 j ∧ b = .bool (isZeroL (s.take j)) ∧ Only [] w wr) (fun _ i _ => s.length - (intOf i).toNat)
  case atStart => exact ⟨0, Nat.zero_le _, rfl, rfl, Only.refl _ _⟩
  case round =>
    obtain ⟨j, hj, rfl, rfl, hk⟩ := hrel
    by_cases hlt : j < s.length
    · have hi := hidx.out j hlt
      have hz := hzl.out j hlt
      have hltI : (j : Int) < 248 := by omega
      generalize s[j] = b at *
      generalize hz2 : isZeroL (s.take (j + 1)) = z2 at *
      replace hz2 := Lib.hid hz2
      generalize isZeroL (s.take j) = z1 at *
      have hb : ((b.toNat : Int) == 0) = (b == 0) := by
        by_cases h0 : b = 0
        · subst h0; rfl
        · have h1 : (b == 0) = false := by simpa using h0
          have h2 : b.toNat ≠ 0 := fun e => h0 (UInt8.toNat_inj.1 (by simpa using e))
          rw [h1]
          simp
          omega
      cases z1 with
      | false =>
        have hz' : z2 = false := by rw [hz]; rfl
        subst hz'
        clear hz hb hi
        go_wp2
        go_roundw
        case rel => exact ⟨j + 1, by omega, by go_num, by rw [hz2.out], hk⟩
        case measure => simp [intOf]; omega
      | true =>
        have hz' : z2 = (b == 0) := by rw [hz]; rfl
        rw [← hz'] at hb
        clear hz hz'
        cases z2 <;>
        · go_wp2
          go_roundw
          case rel => exact ⟨j + 1, by omega, by go_num, by rw [hz2.out], hk⟩
          case measure => simp [intOf]; omega
    · obtain rfl : j = s.length := by omega
      rw [hall.out]
      have hge : ¬ (s.length : Int) < 248 := by omega
      cases hz : isZeroL s with
      | true =>
        have hp := hpz.out hz
        replace hz := Lib.hid hz
        replace hp := Lib.hid hp
        go_wp2
        go_ret3
        exact ⟨by rw [hp.out]; rfl, hk⟩
      | false =>
        have hz1 : ¬ isZeroL s = true := by rw [hz]; decide
        replace hz := Lib.hid hz
        replace hz1 := Lib.hid hz1
        go_wp2_with fail
        obtain ⟨q, hq⟩ : ∃ q, q = wr.heap.size := ⟨_, rfl⟩
        have hr0 := hrf.out wr
        have ka := (Only.refl [] wr).alloc (.cells #[.string ss, .int .i64 0] 164)
        rw [← hq] at hr0
        simp only [← hq]
        have hqw : w.heap.size ≤ q := by have := hk.size; omega
        generalize wr.alloc (.cells #[.string ss, .int .i64 0] 164) = w1 at *
        have k1 := hk.trans ka
        clear ka
        replace hq := Lib.hid hq
        refine (hn.out _ q hr0).mono ?_
        rintro e w3 ⟨rfl, hr3, k3⟩
        go_wp2_with fail
        refine (ht.out _ q hr3).mono ?_
        rintro e w4 ⟨rfl, hr4, k4⟩
        go_wp2_with fail
        refine (hu.out _ q hr4).mono ?_
        rintro e w5 ⟨rfl, hr5, k5⟩
        have kend : Only [] w w5 := ((k1.then k3 (by simp; omega)).then k4 (by simp; omega)).then k5 (by simp; omega)
        have c1 := hr5.c1
        clear hr0 hr3 hr4 hr5 k1 k3 k4 k5 hk
        by_cases h3 : e3 = 0
        · subst h3
          by_cases hk0 : k = []
          · have hkt : ks.toList = [] := hke.out.2 hk0
            have hg := hgn.out (.inr hk0)
            have hp := hp2.out hz1.out hg
            replace hp := Lib.hid hp
            replace hk0 := Lib.hid hk0
            replace hg := Lib.hid hg
            go_wp2
            go_ret3
            exact ⟨by rw [hp.out]; rfl, kend⟩
          · have hkt : ¬ ks.toList = [] := fun h => hk0 (hke.out.1 h)
            have hd := hdat.out w5 rfl
            have hgg := hgi.out rfl hk0
            have htd := htl.out (padD k v)
            have hkt2 : ks.toList.isEmpty = false := by simpa using hkt
            replace hk0 := Lib.hid hk0
            by_cases hps : padD k v = s
            · have hg : gd = true := hgg.2 hps
              have hp := hpr.out hz1.out hg
              rw [hps, hss.out] at hd
              replace hp := Lib.hid hp
              replace hg := Lib.hid hg
              replace hps := Lib.hid hps
              replace hd := Lib.hid hd
              clear hgg htd
              go_wp2_with fail
              refine hd.out.mono ?_
              rintro e w6 ⟨rfl, k6⟩
              have kend6 := kend.trans k6
              clear kend k6 c1
              go_wp2
              go_ret3
              exact ⟨by rw [hp.out]; rfl, kend6⟩
            · have hg : gd = false := Bool.eq_false_iff.2 fun h => hps (hgg.1 h)
              have hp := hp2.out hz1.out hg
              have htf : ((strOf (padD k v)).toList == ss.toList) = false := by rw [htd]; simpa using hps
              generalize strOf (padD k v) = ps at *
              replace hp := Lib.hid hp
              replace hg := Lib.hid hg
              replace hps := Lib.hid hps
              replace hd := Lib.hid hd
              clear hgg htd
              go_wp2_with fail
              refine hd.out.mono ?_
              rintro e w6 ⟨rfl, k6⟩
              have kend6 := kend.trans k6
              clear kend k6 c1
              go_wp2
              go_ret3
              exact ⟨by rw [hp.out]; rfl, kend6⟩
        · have h3' : ((e3 : Int) != 0) = true := by simp; omega
          have hg := hgn.out (.inl h3)
          have hp := hp2.out hz1.out hg
          replace hp := Lib.hid hp
          replace hg := Lib.hid hg
          generalize (e3 : Int) = y3 at *
          go_wp2
          go_ret3
          exact ⟨by rw [hp.out]; rfl, kend⟩
end Go.Proofs.YthpjkhmkjhgbkaaGreatDoor
