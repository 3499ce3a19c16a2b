/- DserverOnce: the walk. -/
import Derived.Test.YtmelaiefbpdifaaGreatDoorELike13
import Derived.Test.YtmelaiefbpdifaaGreatDoorEDeaf13
namespace Go.Proofs.YtmelaiefbpdifaaGreatDoor.Srv
open Go.RowKit Go.Maps
open Pgs (Pg pgE)
theorem like_new {N : Nat} {M M' : List Rw} (h : Good N M) (h' : Good N M') (g : ∀ k, getR M k = afterK (boCh 1) [] k) (g' : ∀ k, getR M' k = afterK (boCh 1) [] k) : Like (srv0 N 1 1 M) (srv0 N 1 1 M') :=
  ⟨rfl, rfl, rfl, rfl, chs_ext h.sorted h'.sorted fun k => (g k).trans (g' k).symm, rfl, rfl, h, h'⟩
set_option maxRecDepth 100000 in
set_option maxHeartbeats 8000000 in
theorem dserverOnce_walk (w : World) (A : Option Addr) (c : Nat) (l : List Ac) (hA : Els acE 23 w A l) (hok : okayA l) (m : Int) :
    Calls Tryz.prog 6 #[.slice A l.length c, .int .i64 m] w fun e w' => e = .returned (.bool true) ∧ Only [] w w' := by
  obtain ⟨n, hn⟩ : ∃ n, n = l.length := ⟨_, rfl⟩
  rw [← hn]
  replace hn := Lib.hid hn
  replace hok := Lib.hid hok
  go_enter Tryz.func6, Tryz.ntmps6
  go_wp2_with fail
  refine (alive_any _).mono ?_; rintro e w1 ⟨rfl, k01⟩
  have hA1 := hA.kept k01 (by simp)
  have hnew := ownNew_any w1 w1 140 (by decide) (by decide) (Only.refl _ _)
  replace hnew := Lib.hid hnew
  clear hA
  go_wp2_with fail
  refine hnew.out.mono ?_; rintro e w2 ⟨dp, F, rfl, hd1, _, _⟩
  clear hnew
  go_wp2_with fail
  refine (OwnD.startL (N := 99) hd1 (by decide) (by decide) 1 ⟨by decide, by decide⟩).mono ?_
  rintro e w3 ⟨sb, R0, M0, rfl, hl0, _, _, hG, hM⟩
  clear hd1
  have hnew := ownNew_any w1 w3 140 (by decide) (by decide) hl0.only
  replace hnew := Lib.hid hnew
  replace hG := Lib.hid hG
  replace hM := Lib.hid hM
  go_wp2_with fail
  refine hnew.out.mono ?_; rintro e w4 ⟨dq, E, rfl, hd2, k34, hE⟩
  clear hnew
  have hl4 := hl0.keep k34
  have hR0 : ∀ j ∈ R0, j < w3.heap.size := fun j hj => (hl0.new j hj).2
  have h34 := k34.size
  clear hl0
  go_wp2_with fail
  refine (OwnD.startL (N := 99) hd2 (by decide) (by decide) 1 ⟨by decide, by decide⟩).mono ?_
  rintro e w5 ⟨tb, T0, M1, rfl, ht0, k45, hT0, hG1, hM1⟩
  clear hd2
  have hs0 := hl4.beside k45 ht0.only (fun i hi hm => by have := hE i hi; have := hR0 i hm; omega)
  have hap : ∀ i ∈ R0, i ∉ T0 := fun i hi hm => by
    have := hR0 i hi
    rcases hT0 i hm with h | h
    · have := hE i h; omega
    · omega
  have hlike := like_new hG.out hG1 hM.out hM1
  generalize srv0 99 1 1 M0 = σ0 at *
  generalize srv0 99 1 1 M1 = τ0 at *
  clear hG hM hG1 hM1 hl4 hR0 hE hT0 k34 k45 h34
  replace hap := Lib.hid hap
  replace hlike := Lib.hid hlike
  go_upto_block 0 with fail
  go_cut [9] (fun s9 wx => ∃ (k : Nat) (R T : List Nat) (σ τ : Sv), k ≤ 40 ∧ s9 = .int .i64 k ∧ SrvL w1 wx R sb dp σ (2 * k) ∧ SrvL w1 wx T tb dq τ k ∧ Hid (∀ i ∈ R, i ∉ T) ∧ Hid (Like σ τ))
  case first =>
    go_wp2_with fail
    go_loopg [9] n (fun gh i wr => ∃ (k : Nat) (R T : List Nat) (σ τ : Sv), k ≤ n ∧ gh = n - k ∧ k ≤ 40 ∧ i = .int .i64 k ∧ SrvL w1 wr R sb dp σ (2 * k) ∧ SrvL w1 wr T tb dq τ k ∧ Hid (∀ i ∈ R, i ∉ T) ∧ Hid (Like σ τ))
    case atStart => exact ⟨0, R0, T0, σ0, τ0, Nat.zero_le _, rfl, Nat.zero_le _, rfl, hs0, ht0, hap, hlike⟩
    case round =>
      obtain ⟨k, R, T, σ, τ, hk, rfl, hk40, rfl, hσ, hτ, hap, hli⟩ := hrel
      have kr := hσ.only
      by_cases hgo : k < n ∧ k < 40
      · obtain ⟨hlt, h20⟩ := hgo
        have hkl : k < l.length := by have := hn.out; omega
        obtain ⟨g, o, rfl, hr⟩ := act_pk (hA1.kept kr (by simp)) hkl
        have hpo := p1_ok (hok.out l[k] (List.getElem_mem _))
        generalize l[k] = x at *
        obtain ⟨_, _, _, x⟩ := x
        simp only at hr hpo
        have z1 := boxed_pk wr
        have kz : Only [] wr (wr.alloc (.cells zPkA 53)) := (Only.refl [] wr).alloc _
        go_wp2_with (first
          | (refine wpList_load_mid rfl 53 (.tmp 43) rfl g (o + k * 23 + 3) rfl (pkA x).toList _ hr Tryz.underlying53 rfl size_pk ?_)
          | (refine wpList_store_pk x zPk rfl (.tmp 10) (.tmp 44) rfl wr.heap.size rfl rfl z1 ?_; intro w4 b4 k4; have c5 : w4.cell? ⟨wr.heap.size, 5, none⟩ = some (.int .u32 x.asked) := (b4.cell 5).trans rfl; have b5 : Blk (w4.setCell ⟨wr.heap.size, 5, none⟩ (.int .u32 1)) wr.heap.size 53 (pkA (p1 x)) := b4.set 5 _; have f5 := b4.free 5)
          | (refine wpList_load_pk (p1 x) rfl (.tmp 10) rfl wr.heap.size rfl b5 ?_))
        have kq : Only [] wr (w4.setCell ⟨wr.heap.size, 5, none⟩ (.int .u32 1)) := kz.then (k4.setCell (p := ⟨wr.heap.size, 5, none⟩) (.inl (by simp)) _) (fun j hj => .inr (by simp at hj; omega))
        clear c5 f5 k4 b4 kz z1
        generalize w4.setCell ⟨wr.heap.size, 5, none⟩ (.int .u32 1) = v0 at *
        have hRlt : ∀ j ∈ R, j < wr.heap.size := fun j hj => (hσ.new j hj).2
        have hTlt : ∀ j ∈ T, j < wr.heap.size := fun j hj => (hτ.new j hj).2
        generalize hqb : wr.heap.size = qb at *
        have hbR : qb ∉ R := fun hm => by have := hRlt _ hm; omega
        have hbT : qb ∉ T := fun hm => by have := hTlt _ hm; omega
        have hwv := kq.size
        have hqv : qb < v0.heap.size := b5.lt
        have hσ0 := hσ.keep kq
        have hτ0 := hτ.keep kq
        clear hσ hτ
        refine (hσ0.handle (by omega) (p1 x) hpo).mono ?_
        rintro e v1 ⟨r1, ok1, σ1, R1, rfl, h1, hσ1, kh1, hR1⟩
        have hok0 := hσ0.ok
        have hτ1 := hτ0.beside kh1 hσ1.only hap.out
        have b6 := b5.kept kh1 hbR
        have hap1 : ∀ i ∈ R1, i ∉ T := fun i hi hm => by
          rcases hR1 i hi with h | h
          · exact hap.out i h hm
          · have := hTlt i hm; omega
        have hbR1 : qb ∉ R1 := out_of hbR hR1 hqv
        have hv1 := kh1.size
        clear hσ0 hτ0 b5 kh1 hR1
        have y1 := boxed_pk v1
        have ky1 : Only [] v1 (v1.alloc (.cells zPkA 53)) := (Only.refl [] v1).alloc _
        have hq1 : ¬ qb = v1.heap.size := by omega
        go_wp2_with (first
          | (refine wpList_store_pk r1 zPk rfl (.tmp 11) (.tmp 50) rfl v1.heap.size rfl rfl y1 ?_; intro v2 c1 kc1; have b7 : Blk v2 qb 53 (pkA (p1 x)) := (b6.kept ky1 (by simp)).kept kc1 (by simpa using hq1))
          | (refine wpList_load_pk (p1 x) rfl (.tmp 10) rfl qb rfl b7 ?_))
        have k12 : Only [] v1 v2 := ky1.then kc1 (fun j hj => .inr (by simp at hj; omega))
        have hσ2 := hσ1.keep k12
        have hτ2 := hτ1.keep k12
        have hR1lt : ∀ j ∈ R1, j < v1.heap.size := fun j hj => (hσ1.new j hj).2
        generalize hqe1 : v1.heap.size = q1 at *
        have hq1R : q1 ∉ R1 := fun hm => by have := hR1lt _ hm; omega
        have hq1T : q1 ∉ T := fun hm => by have := hTlt _ hm; omega
        have h12 := k12.size
        have hqv2 : q1 < v2.heap.size := c1.lt
        clear hσ1 hτ1 b6 y1 ky1 kc1 k12
        refine (hσ2.handle (by omega) (p1 x) hpo).mono ?_
        rintro e v3 ⟨r2, ok2, σ2, R2, rfl, h2, hσ3, kh2, hR2⟩
        obtain ⟨g1, g2, g3⟩ := handled_twice hok0 hpo h1 h2
        subst g1; subst g2; subst g3
        have hτ3 := hτ2.beside kh2 hσ3.only hap1
        have b8 := b7.kept kh2 hbR1
        have c2 := c1.kept kh2 hq1R
        have hap2 : ∀ i ∈ R2, i ∉ T := fun i hi hm => by
          rcases hR2 i hi with h | h
          · exact hap1 i h hm
          · have := hTlt i hm; omega
        have hv3 := kh2.size
        have hR2lt : ∀ j ∈ R2, j < v3.heap.size := fun j hj => (hσ3.new j hj).2
        have y3 := boxed_pk v3
        have ky3 : Only [] v3 (v3.alloc (.cells zPkA 53)) := (Only.refl [] v3).alloc _
        have hq3 : ¬ qb = v3.heap.size ∧ ¬ q1 = v3.heap.size := by omega
        clear hσ2 hτ2 b7 c1 kh2 hR2 hap1 hR1lt hbR1 hq1R h2
        go_wp2_with (first
          | (refine wpList_store_pk r2 zPk rfl (.tmp 13) (.tmp 56) rfl v3.heap.size rfl rfl y3 ?_; intro v4 d1 kd1; have b9 : Blk v4 qb 53 (pkA (p1 x)) := (b8.kept ky3 (by simp)).kept kd1 (by simpa using hq3.1); have c3 : Blk v4 q1 53 (pkA r2) := (c2.kept ky3 (by simp)).kept kd1 (by simpa using hq3.2))
          | (refine wpList_load_pk (p1 x) rfl (.tmp 10) rfl qb rfl b9 ?_))
        have k34 : Only [] v3 v4 := ky3.then kd1 (fun j hj => .inr (by simp at hj; omega))
        have hσ4 := hσ3.keep k34
        have hτ4 := hτ3.keep k34
        generalize hqe2 : v3.heap.size = q2 at *
        have hq2T : q2 ∉ T := fun hm => by have := hTlt _ hm; omega
        have h34 := k34.size
        have hqv4 : q2 < v4.heap.size := d1.lt
        clear hσ3 hτ3 b8 c2 y3 ky3 kd1 k34
        refine (hτ4.handle (by omega) (p1 x) hpo).mono ?_
        rintro e v5 ⟨r3, ok3, τ3, T3, rfl, h3, hτ5, kh3, hT3⟩
        obtain ⟨g1, g2, hli3⟩ := handled_like hli.out h1 h3
        subst g1; subst g2
        have hσ5 := hσ4.beside kh3 hτ5.only (fun i hi hm => hap2 i hm hi)
        have c4 := c3.kept kh3 hq1T
        have d2 := d1.kept kh3 hq2T
        have hap3 : ∀ i ∈ R2, i ∉ T3 := fun i hi hm => by
          rcases hT3 i hm with h | h
          · exact hap2 i hi h
          · have := hR2lt i hi; omega
        have hv5 := kh3.size
        have y5 := boxed_pk v5
        have ky5 : Only [] v5 (v5.alloc (.cells zPkA 53)) := (Only.refl [] v5).alloc _
        have hq5 : ¬ q1 = v5.heap.size ∧ ¬ q2 = v5.heap.size := by omega
        replace hap3 := Lib.hid hap3
        replace hli3 := Lib.hid hli3
        clear hσ4 hτ4 b9 c3 d1 kh3 hT3 hap2 h1 h3 hli hbR hbT hTlt hRlt hR2lt hq1T hq2T
        cases ok2
        all_goals
          go_wp2_with (first
            | (refine wpList_store_pk r2 zPk rfl (.tmp 15) (.tmp 62) rfl v5.heap.size rfl rfl y5 ?_; intro v6 f1 kf1; have c5 : Blk v6 q1 53 (pkA r2) := (c4.kept ky5 (by simp)).kept kf1 (by simpa using hq5.1); have d3 : Blk v6 q2 53 (pkA r2) := (d2.kept ky5 (by simp)).kept kf1 (by simpa using hq5.2))
            | (refine wpList_load_pk r2 rfl (.tmp 11) rfl q1 rfl c5 ?_)
            | (refine wpList_load_pk r2 rfl (.tmp 13) rfl q2 rfl d3 ?_)
            | (refine wpList_load_pk r2 rfl (.tmp 15) rfl v5.heap.size rfl f1 ?_)
            | (refine wpList_neq_pk r2 r2 rfl (.tmp 64) (.tmp 65) _ rfl rfl rfl false (by simp) ?_)
            | (refine wpList_neq_pk r2 r2 rfl (.tmp 86) (.tmp 87) _ rfl rfl rfl false (by simp) ?_))
          have k56 : Only [] v5 v6 := ky5.then kf1 (fun j hj => .inr (by simp at hj; omega))
          have hσ6 := hσ5.keep k56
          have hτ6 := hτ5.keep k56
          go_roundg (n - (k + 1))
          case measure => omega
          case rel => exact ⟨k + 1, R2, T3, _, _, by omega, rfl, by omega, by go_num, hσ6, hτ6, hap3, hli3⟩
      · by_cases hlt : k < n
        · have h20 : ¬ k < 40 := fun h => hgo ⟨hlt, h⟩
          go_wp2_with fail
          go_meet
          exact ⟨k, R, T, σ, τ, hk40, rfl, hσ, hτ, hap, hli⟩
        · go_wp2_with fail
          go_meet
          exact ⟨k, R, T, σ, τ, hk40, rfl, hσ, hτ, hap, hli⟩
  case rest =>
    obtain ⟨kk, R, T, σ, τ, hk40, rfl, hσ, hτ, hap, hli⟩ := hcut
    generalize wc = wa at *
    clear hap hs0 ht0 hlike
    go_wp2_with fail
    go_loopw [17] (fun i wx => ∃ k : Nat, k ≤ 6 ∧ i = .int .u32 k ∧ Only [] wa wx) (fun i _ => 6 - (intOf i).toNat)
    case atStart => exact ⟨0, by omega, rfl, Only.refl [] _⟩
    case round =>
      obtain ⟨k, hk, rfl, kx⟩ := hrel
      have hl := hli.out
      by_cases hlt : k < 6
      · have s9 := hσ.keep kx
        have t9 := hτ.keep kx
        have hlo := Pgs.right_len (obj_right s9.ok k)
        have hls : (sureL σ.M k).length ≤ 32 := Pgs.right_len (sure_right _ k)
        have e1 := fun W (kk : Only [] wr W) => (s9.keep kk).epoch (k : Int) (by unfold U; omega)
        have e2 := fun W (kk : Only [] wr W) => (t9.keep kk).epoch (k : Int) (by unfold U; omega)
        have o1 := fun W (kk : Only [] wr W) => (s9.keep kk).object (k : Int) k rfl (by omega)
        have o2 := fun W (kk : Only [] wr W) => (t9.keep kk).object (k : Int) k rfl (by omega)
        have u1 := fun W (kk : Only [] wr W) => (s9.keep kk).sure (k : Int) k rfl (by omega)
        have u2 := fun W (kk : Only [] wr W) => (t9.keep kk).sure (k : Int) k rfl (by omega)
        simp only [Int.toNat_natCast] at e1 e2
        rw [← hl.epN] at e2
        rw [← hl.obj] at o2
        rw [← hl.sure] at u2
        clear s9 t9 hl
        generalize epN σ.M k = en at *
        generalize objL σ k = ob at *
        generalize sureL σ.M k = su at *
        replace e1 := Lib.hid e1
        replace e2 := Lib.hid e2
        replace o1 := Lib.hid o1
        replace o2 := Lib.hid o2
        replace u1 := Lib.hid u1
        replace u2 := Lib.hid u2
        go_wp2_with fail
        refine (e1.out _ (Only.refl [] _)).mono ?_; rintro e v1 ⟨rfl, k1⟩
        go_wp2_with fail
        refine (e2.out _ k1).mono ?_; rintro e v2 ⟨rfl, k2⟩
        have k12 := k1.trans k2
        go_wp2_with fail
        refine (o1.out _ k12).mono ?_; rintro e v3 ⟨v, rfl, B, d, rfl, _, hB, k3, _⟩
        have k13 := k12.trans k3
        go_wp2_with fail
        refine (o2.out _ k13).mono ?_; rintro e v4 ⟨v, rfl, C, f, rfl, _, hC, k4, _⟩
        have k14 := k13.trans k4
        go_wp2_with fail
        refine (Pgs.same_yes _ B C d f _ _ ob rfl rfl (hB.kept k4 (by simp)) hC (by omega)).mono ?_; rintro e v5 ⟨rfl, k5⟩
        have k15 := k14.trans k5
        go_wp2_with fail
        refine (u1.out _ k15).mono ?_; rintro e v6 ⟨v, rfl, B', d', rfl, _, hB', k6, _⟩
        have k16 := k15.trans k6
        go_wp2_with fail
        refine (u2.out _ k16).mono ?_; rintro e v7 ⟨v, rfl, C', f', rfl, _, hC', k7, _⟩
        have k17 := k16.trans k7
        go_wp2_with fail
        refine (Pgs.same_yes _ B' C' d' f' _ _ su rfl rfl (hB'.kept k7 (by simp)) hC' (by omega)).mono ?_; rintro e v8 ⟨rfl, k8⟩
        have k18 := k17.trans k8
        go_wp2_with fail
        go_roundw
        case rel => exact ⟨k + 1, by omega, by go_num, kx.trans k18⟩
        case measure => simp [intOf]; omega
      · obtain rfl : k = 6 := by omega
        have kend := k01.trans (hσ.keep kx).only
        have r1 := fun W (kk : Only [] wr W) => ((hσ.keep kx).keep kk).room
        have r2 := fun W (kk : Only [] wr W) => ((hτ.keep kx).keep kk).room
        rw [← hl.room] at r2
        clear hl
        generalize roomI σ = ri at *
        replace r1 := Lib.hid r1
        replace r2 := Lib.hid r2
        go_wp2_with fail
        refine (alive_any _).mono ?_; rintro e v1 ⟨rfl, k1⟩
        go_wp2_with fail
        refine (r1.out _ k1).mono ?_; rintro e v2 ⟨rfl, k2⟩
        have k12 := k1.trans k2
        go_wp2_with fail
        refine (r2.out _ k12).mono ?_; rintro e v3 ⟨rfl, k3⟩
        have k13 := k12.trans k3
        go_wp2_with fail
        go_ret
        exact ⟨rfl, kend.trans k13⟩
end Go.Proofs.YtmelaiefbpdifaaGreatDoor.Srv
