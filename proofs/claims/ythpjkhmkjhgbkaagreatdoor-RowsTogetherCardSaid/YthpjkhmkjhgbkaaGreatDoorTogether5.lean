/- RowsTogether: wherever a commit dies, what is opened has the rows ahead of it or those behind it. -/
import Derived.Test.YthpjkhmkjhgbkaaGreatDoorTog5
namespace Go.Proofs.YthpjkhmkjhgbkaaGreatDoor
open Go.RowKit Go.Maps

theorem Els.kept2 {α : Type} {enc : α → List Value} {k : Nat} {w w' : World} {A : Option Addr} {l : List α} {S : List Nat} (h : Els enc k w A l) (kk : Only S w w') (hA : ∀ a, A = some a → l = [] ∨ a.block ∉ S) : Els enc k w' A l := by
  rcases h with h | ⟨g, o, rfl, hg, hc⟩
  · exact .inl h
  · rcases hA _ rfl with h | h
    · exact .inl h
    · exact .inr ⟨g, o, rfl, Nat.lt_of_lt_of_le hg kk.size, hc.kept kk h⟩
theorem els_span {α : Type} {enc : α → List Value} {k : Nat} {w w' : World} {A : Option Addr} {l : List α} (h : Els enc k w' A l) (hn : ∀ a, A = some a → w.heap.size ≤ a.block) : ∀ a, A = some a → l = [] ∨ (w.heap.size ≤ a.block ∧ a.block < w'.heap.size) := fun a ha => by
  rcases h with h | ⟨g, o, e, hg, _⟩
  · exact .inl h
  · have := hn a ha
    rw [e] at ha
    injection ha with ha
    subst ha
    exact .inr ⟨this, hg⟩

set_option maxRecDepth 100000 in
set_option maxHeartbeats 4000000 in
theorem rowsTogether_walk (w : World) (A B : Option Addr) (c d : Nat) (l m : List Ch) (fuse keep : Int) (hA : Els chE 3 w A l) (hok : okayC l) (hl : l.length ≤ 9223372036854775807) (hc : l.length ≤ c)
    (hB : Els chE 3 w B m) (hokm : okayC m) (hm : m.length ≤ 9223372036854775807) (hd : m.length ≤ d) (hfu : 0 ≤ fuse ∧ fuse ≤ 255) (hke : 0 ≤ keep ∧ keep ≤ 18446744073709551615) :
    Calls Tryz.prog 4 #[.slice A l.length c, .slice B m.length d, .int .u8 fuse, .int .u64 keep] w fun e w' => e = .returned (.bool true) ∧ Only [] w w' := by
  obtain ⟨kn, rfl⟩ : ∃ kn : Nat, keep = (kn : Int) := ⟨keep.toNat, by omega⟩
  have hkn : kn < 18446744073709551616 := by omega
  have hrem := Int.tmod_lt_of_pos fuse (show (0 : Int) < 24 by decide)
  have hrem0 := Int.tmod_nonneg 24 hfu.1
  have halive := fun W => alive_any W
  have hlong := fun W (k : Only [] w W) => long_any W A c l (hA.kept k (by simp)) hl
  have hlong2 := fun W (k : Only [] w W) => long_any W B d m (hB.kept k (by simp)) hm
  replace halive := Lib.hid halive
  replace hlong := Lib.hid hlong
  replace hlong2 := Lib.hid hlong2
  replace hl := Lib.hid hl
  replace hm := Lib.hid hm
  replace hkn := Lib.hid hkn
  go_enter Tryz.func4, Tryz.ntmps4
  go_wp2_with fail
  refine (halive.out _).mono ?_
  rintro e w1 ⟨rfl, k1⟩
  go_wp2_with fail
  refine (hlong.out w1 k1).mono ?_
  rintro e w2 ⟨⟨r1, rfl, q1⟩, k2⟩
  have k12 := k1.trans k2
  clear k1 k2
  cases r1 with
  | true =>
    clear q1
    go_wp2_with fail
    refine (halive.out _).mono ?_
    rintro e w3 ⟨rfl, k3⟩
    have kend := k12.trans k3
    go_wp2
    go_ret
    exact ⟨rfl, kend⟩
  | false =>
  have hsh := q1 rfl
  replace hsh := Lib.hid hsh
  clear q1
  go_wp2_with fail
  refine (hlong2.out w2 k12).mono ?_
  rintro e w3 ⟨⟨r2, rfl, q2⟩, k3⟩
  have k13 := k12.trans k3
  clear k12 k3
  cases r2 with
  | true =>
    clear q2
    go_wp2_with fail
    refine (halive.out _).mono ?_
    rintro e w4 ⟨rfl, k4⟩
    have kend := k13.trans k4
    go_wp2
    go_ret
    exact ⟨rfl, kend⟩
  | false =>
  have hshm := q2 rfl
  replace hshm := Lib.hid hshm
  clear q2
  have hA3 := hA.kept k13 (by simp)
  have hB3 := hB.kept k13 (by simp)
  have hnewA := fun W (h : Only [] w3 W) => ownNew_any w3 W 47 (by decide) (by decide) h
  replace hnewA := Lib.hid hnewA
  clear hA hB
  go_wp2_with fail
  refine (hnewA.out w3 (Only.refl _ _)).mono ?_
  rintro e w4 ⟨p1, F1, rfl, hd1, _, _⟩
  go_wp2_with fail
  refine (hnewA.out w4 hd1.only).mono ?_
  rintro e w5 ⟨p2, F2, rfl, hd2, kn2, hF2⟩
  have hd1' := hd1.keep kn2
  have hF1lt : ∀ i ∈ F1, i < w4.heap.size := fun i hi => (hd1.new i hi).2
  have hF2lt : ∀ i ∈ F2, i < w5.heap.size := fun i hi => (hd2.new i hi).2
  have h45 := kn2.size
  clear hd1 kn2
  go_wp2_with fail
  refine (hd1'.rows6 (N := 6) rfl (by decide)).mono ?_
  rintro e w6 ⟨rp1, mb1, lp1, F6, rfl, hX6, kX6, hF6, a1, a2, a3⟩
  have hd2' := hd2.beside kX6 hX6.five.only (dis_symm (dis_high hF2 hF1lt))
  have h56 := kX6.size
  have hT1F2 : ∀ i ∈ rp1 :: mb1 :: lp1 :: F6, i ∉ F2 := fun i hi hm' => by
    have h2 := hF2lt i hm'
    have h3 := hF2 i hm'
    simp only [List.mem_cons] at hi
    rcases hi with rfl | rfl | rfl | hi
    · omega
    · omega
    · omega
    · rcases hF6 i hi with h | h
      · have := hF1lt i h; omega
      · omega
  have hT1lt : ∀ i ∈ rp1 :: mb1 :: lp1 :: F6, i < w6.heap.size := fun i hi => (hX6.five.lt i hi).2
  clear hd1' hd2 kX6
  go_wp2_with fail
  refine (hd2'.rows5 (N := 6) rfl (by decide)).mono ?_
  rintro e w7 ⟨rp2, mb2, lp2, F7, rfl, hY7, kY7, hF7, b1, b2, b3⟩
  have hX7 := hX6.beside kY7 hY7.only (dis_symm hT1F2)
  have hdis : ∀ i ∈ rp2 :: mb2 :: lp2 :: F7, i ∉ rp1 :: mb1 :: lp1 :: F6 := fun i hi hm' => by
    have h1 := hT1lt i hm'
    have h2 := hT1F2 i hm'
    simp only [List.mem_cons] at hi
    rcases hi with rfl | rfl | rfl | hi
    · omega
    · omega
    · omega
    · rcases hF7 i hi with h | h
      · exact h2 h
      · omega
  clear hd2' hX6 kY7
  go_wp2_with fail
  refine (hX7.put A c l (by decide) (hA3.kept hX7.five.only (by simp)) hok hl.out hc).mono ?_
  rintro e w8 ⟨x1, M1, F8, rfl, hp1, hX8, kX8, hF8⟩
  have hY8 := hY7.beside kX8 hX8.five.only (dis_sub (dis_symm hdis))
  have hdis1 := dis_grow (dis_symm hdis) (fun i hi => (hY7.lt i hi).2) hF8
  clear hX7 hY7 kX8
  go_wp2_with fail
  refine (hY8.put A c l (by decide) (hA3.kept hY8.only (by simp)) hok hl.out hc).mono ?_
  rintro e w9 ⟨x2, M2, F9, rfl, hp2, hY9, kY9, hF9⟩
  have hX9 := hX8.beside kY9 hY9.only (dis_sub (dis_symm hdis1))
  have hdis2 := dis_grow (dis_symm hdis1) (fun i hi => (hX8.five.lt i hi).2) hF9
  obtain ⟨rfl, hsame⟩ := puts_perm (List.Perm.refl l) hp1 hp2
  have hG1 := hX9.five.good
  have hG2 := hY9.good
  have hT1lt9 : ∀ i ∈ rp1 :: mb1 :: lp1 :: F8, i < w9.heap.size := fun i hi => (hX9.five.lt i hi).2
  have hT2lt9 : ∀ i ∈ rp2 :: mb2 :: lp2 :: F9, i < w9.heap.size := fun i hi => (hY9.lt i hi).2
  replace hp1 := Lib.hid hp1
  replace hp2 := Lib.hid hp2
  replace hG1 := Lib.hid hG1
  replace hG2 := Lib.hid hG2
  replace hsame := Lib.hid hsame
  clear hX8 hY8 kY9
  have hwas := hX9.five.all
  generalize hLw : M1.map chOf = Lw at hwas
  replace hLw := Lib.hid hLw
  replace hwas := Lib.hid hwas
  go_wp2_with fail
  refine hwas.out.mono ?_
  rintro e w10 ⟨v10, rfl, A10, c10, rfl, _, he10, k10, hn10⟩
  have hs10 := els_span he10 hn10
  have hX10 := hX9.keep k10
  have hY10 := hY9.keep k10
  have h910 := k10.size
  replace hn10 := Lib.hid hn10
  clear hX9 hY9 k10
  go_wp2_with fail
  refine (hX10.fuse _ (by omega) (by omega)).mono ?_
  rintro e w11 ⟨rfl, hX11, kX11⟩
  have hY11 := hY10.beside kX11 hX11.only (fun i hi hm' => hdis2 i hm' (by simp [hi]))
  have he11 := he10.kept2 kX11 (fun a ha => (hs10 a ha).imp id (fun h hm' => by have := hT1lt9 a.block (by simp [hm']); omega))
  have h1011 := kX11.size
  clear hX10 hY10 he10 kX11
  go_wp2_with fail
  refine (hX11.put (by decide) B d m (by decide) (hB3.kept hX11.only (by simp)) hokm hm.out hd).mono ?_
  rintro e w12 ⟨g, F12, rfl, hT12, kw12, kX12, hF12⟩
  have hY12 := hY11.beside kX12 kw12 (dis_sub (dis_symm hdis2))
  have he12 := he11.kept2 kX12 (fun a ha => (hs10 a ha).imp id (fun h hm' => by have := hT1lt9 a.block (by simp only [List.mem_cons] at hm' ⊢; exact .inr hm'); omega))
  have hF12lt : ∀ i ∈ F12, i < w12.heap.size := fun i hi => by
    obtain ⟨s, hD, _⟩ := hT12
    exact (hD.new i hi).2
  clear hX11 hY11 he11 kX12
  go_wp2_with fail
  refine (hY12.put B d m (by decide) (hB3.kept kw12 (by simp)) hokm hm.out hd).mono ?_
  rintro e w13 ⟨h, M13, F13, rfl, hp13, hY13, kY13, _⟩
  have hT13 := hT12.beside kY13 hY13.only (fun i hi hm' => by
    have h1 := hT2lt9 i (by simp only [List.mem_cons] at hi ⊢; exact .inr hi)
    rcases hF12 i hm' with h' | h'
    · exact hdis2 i (by simp only [List.mem_cons] at hi ⊢; exact .inr hi) (by simp [h'])
    · omega)
  have he13 := he12.kept2 kY13 (fun a ha => (hs10 a ha).imp id (fun h hm' => by have := hT2lt9 a.block (by simp only [List.mem_cons] at hm' ⊢; exact .inr hm'); omega))
  have h1213 := kY13.size
  clear hT12 hY12 he12 kw12 kY13
  have hnext := hY13.all
  generalize hLn : M13.map chOf = Ln at hnext
  replace hLn := Lib.hid hLn
  replace hnext := Lib.hid hnext
  go_wp2_with fail
  refine hnext.out.mono ?_
  rintro e w14 ⟨v14, rfl, A14, c14, rfl, _, he14, k14, hn14⟩
  have hs14 := els_span he14 hn14
  have hT14 := hT13.beside k14 (hY13.only.trans k14) (by simp)
  have he13' := he13.kept k14 (by simp)
  replace hn14 := Lib.hid hn14
  obtain ⟨s, hD, hfl, hopen⟩ := hT14
  obtain ⟨o1, Mo, o2, o3, o4⟩ := hopen kn
  obtain ⟨hq, hrr⟩ := opens_puts hG1.out hG2.out hsame.out o3 o4 hp13
  rw [hLn.out, hLw.out] at hrr
  have hsp10 : ∀ a, A10 = some a → Lw = [] ∨ a.block ∉ F12 := fun a ha => (hs10 a ha).imp id (fun h hm' => by
    rcases hF12 _ hm' with h' | h'
    · have := hT1lt9 a.block (by simp [h']); omega
    · omega)
  have hsp14 : ∀ a, A14 = some a → Ln = [] ∨ a.block ∉ F12 := fun a ha => (hs14 a ha).imp id (fun h hm' => by have := hF12lt _ hm'; omega)
  replace hp13 := Lib.hid hp13
  replace o4 := Lib.hid o4
  clear hY13 hT13 he13 hopen k14
  go_wp2_with fail
  refine (hD.crash kn hkn.out).mono ?_
  rintro e w15 ⟨rfl, hD15, k15⟩
  have g13 := he13'.kept2 k15 hsp10
  have g14 := he14.kept2 k15 hsp14
  clear hD he13' he14 k15
  go_wp2_with fail
  refine (hD15.opens5 (by show 0 + 40 ≤ 1048576; decide)).mono ?_
  rintro e w16 ⟨F16, k16, _, hcase⟩
  rcases hcase with ⟨x, hf, _⟩ | ⟨rp3, mb3, lp3, Mo', e0, e1, rfl, h16, _⟩
  · exfalso
    rcases hf with ⟨h1, _⟩ | ⟨_, h1, _⟩
    · exact h1 o1
    · rw [o2] at h1; cases h1
  rw [o2] at e1
  injection e1 with e1
  subst e1
  have i13 := g13.kept2 k16 hsp10
  have i14 := g14.kept2 k16 hsp14
  have hfl2 : (openSt (crashed s kn)).firm.length = 47 := by rw [(open_alive o1).2.2, crash_len, hfl]
  have hMl := o3.length
  have hfree := fun W (k : Only [] w16 W) => free_any W rp3 mb3 lp3 p1 _ _ F16 _ Mo (h16.keep k).rows (h16.keep k).own.log (h16.keep k).own.dev (by omega)
  have hall := all_any w16 rp3 mb3 lp3 Mo h16.rows o3.sorted (by omega)
  have hLl : ((Mo.map chOf).length : Int) = (Mo.length : Int) := by simp
  have hL6 : ((Mo.map chOf).length : Int) ≤ 6 := by rw [hLl]; omega
  rw [hfl2, show ((47 : Nat) : Int) - 41 - (Mo.length : Int) = 6 - ((Mo.map chOf).length : Int) by rw [hLl]; omega] at hfree
  have kall : Only [] w w16 := k13.trans h16.own.only
  generalize Mo.map chOf = Lo at *
  replace hfree := Lib.hid hfree
  replace hall := Lib.hid hall
  replace hsp10 := Lib.hid hsp10
  replace hsp14 := Lib.hid hsp14
  replace hs10 := Lib.hid hs10
  replace hs14 := Lib.hid hs14
  replace hrr := Lib.hid hrr
  replace hLl := Lib.hid hLl
  replace o1 := Lib.hid o1
  replace o2 := Lib.hid o2
  replace o3 := Lib.hid o3
  clear g13 g14 k16 h16 hD15
  by_cases hgh : g = h
  · subst hgh
    clear hq
    go_wp2_with fail
    refine hall.out.mono ?_
    rintro e w17 ⟨v17, rfl, ⟨A17, c17, rfl, _, he17, k17, _⟩, _⟩
    go_wp2_with fail
    refine (halive.out _).mono ?_
    rintro e w18 ⟨rfl, k18⟩
    have k168 := k17.trans k18
    go_wp2_with fail
    refine (same5_any w18 A17 A14 c17 c14 Lo Ln (he17.kept k18 (by simp)) (i14.kept k168 (by simp)) (by omega)).mono ?_
    rintro e w19 ⟨⟨r, rfl, hr⟩, k19⟩
    have k169 := k168.trans k19
    have he19 := (he17.kept k18 (by simp)).kept k19 (by simp)
    have i19 := i13.kept k169 (by simp)
    clear he17 i13 i14 k17 k18 k19 k168
    cases r with
    | true =>
      clear hr he19 i19
      go_wp2_with fail
      refine (hfree.out _ k169).mono ?_
      rintro e w20 ⟨rfl, k20⟩
      have kend := (kall.trans k169).trans k20
      clear k20 k169 kall
      go_wp2
      go_ret
      exact ⟨rfl, kend⟩
    | false =>
      have hne : ¬ Lo = Ln := fun h => by have := hr.2 h; cases this
      obtain ⟨hg5, hLw⟩ := hrr.out.resolve_left hne
      try subst hg5
      replace hne := Lib.hid hne
      replace hLw := Lib.hid hLw
      clear hr
      go_wp2_with fail
      refine (same5_any w19 A17 A10 c17 c10 Lo Lw he19 i19 (by omega)).mono ?_
      rintro e w20 ⟨⟨r, rfl, hr⟩, k20⟩
      obtain rfl : r = true := hr.2 hLw.out
      have k1620 := k169.trans k20
      clear he19 i19 hr k20 k169
      go_wp2_with fail
      refine (hfree.out _ k1620).mono ?_
      rintro e w21 ⟨rfl, k21⟩
      have kend := (kall.trans k1620).trans k21
      clear k21 k1620 kall
      go_wp2
      go_ret
      exact ⟨rfl, kend⟩
  · have hg5' := hq.resolve_left hgh
    clear hq
    subst hg5'
    go_wp2_with fail
    refine hall.out.mono ?_
    rintro e w17 ⟨v17, rfl, ⟨A17, c17, rfl, _, he17, k17, _⟩, _⟩
    go_wp2_with fail
    refine (halive.out _).mono ?_
    rintro e w18 ⟨rfl, k18⟩
    have k168 := k17.trans k18
    go_wp2_with fail
    refine (same5_any w18 A17 A14 c17 c14 Lo Ln (he17.kept k18 (by simp)) (i14.kept k168 (by simp)) (by omega)).mono ?_
    rintro e w19 ⟨⟨r, rfl, hr⟩, k19⟩
    have k169 := k168.trans k19
    have he19 := (he17.kept k18 (by simp)).kept k19 (by simp)
    have i19 := i13.kept k169 (by simp)
    clear he17 i13 i14 k17 k18 k19 k168
    cases r with
    | true =>
      clear hr he19 i19
      go_wp2_with fail
      refine (hfree.out _ k169).mono ?_
      rintro e w20 ⟨rfl, k20⟩
      have kend := (kall.trans k169).trans k20
      clear k20 k169 kall
      go_wp2
      go_ret
      exact ⟨rfl, kend⟩
    | false =>
      have hne : ¬ Lo = Ln := fun h => by have := hr.2 h; cases this
      obtain ⟨hg5, hLw⟩ := hrr.out.resolve_left hne
      try subst hg5
      replace hne := Lib.hid hne
      replace hLw := Lib.hid hLw
      clear hr
      go_wp2_with fail
      refine (same5_any w19 A17 A10 c17 c10 Lo Lw he19 i19 (by omega)).mono ?_
      rintro e w20 ⟨⟨r, rfl, hr⟩, k20⟩
      obtain rfl : r = true := hr.2 hLw.out
      have k1620 := k169.trans k20
      clear he19 i19 hr k20 k169
      go_wp2_with fail
      refine (hfree.out _ k1620).mono ?_
      rintro e w21 ⟨rfl, k21⟩
      have kend := (kall.trans k1620).trans k21
      clear k21 k1620 kall
      go_wp2
      go_ret
      exact ⟨rfl, kend⟩
end Go.Proofs.YthpjkhmkjhgbkaaGreatDoor
