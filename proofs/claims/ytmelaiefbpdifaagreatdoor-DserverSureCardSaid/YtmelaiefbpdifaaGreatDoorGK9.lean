/- Joined: Su13, Sw13 -/
import Derived.Test.YtmelaiefbpdifaaGreatDoorGK8
import Derived.Test.YtmelaiefbpdifaaGreatDoorGK7
namespace Go.Proofs.YtmelaiefbpdifaaGreatDoor.Srv
open Go.RowKit Go.Maps
open Pgs (Pg pgE)
def Ran (l : List Ac) : Nat → Sv → Prop
 | 0, σ => ∃ M, Good 99 M ∧ (∀ k, getR M k = afterK (boCh 1) [] k) ∧ σ = srv0 99 1 1 M
 | k + 1, σ' => ∃ σ r ok x, Ran l k σ ∧ l[k]? = some x ∧ Handled (Puts σ.N) σ (p1 x.p) r ok σ'
theorem ran_like {l : List Ac} : ∀ (k : Nat) {σ τ : Sv}, Ran l k σ → Ran l k τ → Like σ τ
 | 0, _, _, ⟨M, h1, h2, rfl⟩, ⟨M', g1, g2, rfl⟩ => like_new h1 g1 h2 g2
 | k + 1, _, _, ⟨σ, r, ok, x, h1, h2, h3⟩, ⟨τ, r', ok', x', g1, g2, g3⟩ => by
  rw [h2] at g2
  injection g2 with g2
  subst g2
  exact (handled_like (ran_like k h1 g1) h3 g3).2.2
theorem ran_num {l : List Ac} : ∀ (k : Nat) {σ : Sv}, Ran l k σ → σ.N = 99 ∧ σ.me = 1 ∧ σ.boot = 1
 | 0, _, ⟨_, _, _, rfl⟩ => ⟨rfl, rfl, rfl⟩
 | k + 1, _, ⟨_, _, _, _, h1, _, h3⟩ => by
  obtain ⟨a1, a2, a3⟩ := ran_num k h1
  obtain ⟨b1, b2, b3⟩ := handled_same h3
  exact ⟨b1.trans a1, b2.trans a2, b3.trans a3⟩
section
variable {σ σ' τ τ' : Sv} {p r r' : Pk} {ok ok' : Bool} {c b : Nat} {P P' : List Rw → Prop}
theorem handled_false (h : Handled (Puts σ.N) σ p r false σ') : σ' = σ := by
 rcases h with ⟨_, _, _, h⟩ | ⟨_, _, _, h, _⟩ | ⟨_, _, _, h⟩ | ⟨_, _, _, _, _, h⟩ | ⟨_, _, _, _, _, h⟩
 ·exact h
 ·cases h
 ·obtain ⟨_, _, _, _, _, h, _⟩ := exec_live h
  cases h
 ·exact h
 ·exact h
theorem handled_sane (hk : σ.Ok c) (hp : p.Ok) (hs : Sane σ.M b) (h : Handled (Puts σ.N) σ p r ok σ') : Sane σ'.M b := by
 rcases h with ⟨_, _, _, rfl⟩ | ⟨_, _, _, _, rfl⟩ | ⟨⟨_, ht⟩, _, _, h⟩ | ⟨_, _, _, _, _, rfl⟩ | ⟨_, _, _, _, _, rfl⟩
 ·exact hs
 ·exact hs
 ·obtain ⟨d, e, σ1, q1, _, _, rfl⟩ := exec_live h
  exact (did_done hk hp ht.2.2.2 hs q1).sane
 ·exact hs
 ·exact hs
theorem Like.judge (h : Like σ τ) (p : Pk) : judgeP σ p = judgeP τ p := by unfold judgeP; rw [h.seat]
theorem Like.takes (h : Like σ τ) (p : Pk) : takes σ p ↔ takes τ p := by unfold Srv.takes; rw [h.me]
def Files (M M' : List Rw) : Prop := ∀ y, y < 4294967296 → epN M y = epN M' y ∧ sureL M y = sureL M' y
theorem Like.files (h : Like σ τ) : Files σ.M τ.M := fun y _ => ⟨h.epN y, h.sure y⟩
theorem sure_rows (hl : Like σ τ) (hk : σ.Ok c) (hp : p.Ok) (ha : p.asked = σ.boot) (hs : Sane σ.M b) (hu : σ.up = true) (h : StepQ false σ p r ok σ' P P') (h2 : Handled (Puts τ.N) τ p r' ok' τ') :
  ∀ Mo, P' Mo → Sane Mo b ∧ (Files Mo σ.M ∨ (ok' = true ∧ Files Mo τ'.M)) := fun Mo hMo => by
 rcases h with ⟨hh, _, hP, _⟩ | ⟨_, _, ht, _, hj, _, _, _, rfl⟩
 ·rw [hP hu] at hMo
  subst hMo
  obtain ⟨_, rfl, hl'⟩ := handled_like hl hh h2
  refine ⟨handled_sane hk hp hs hh, ?_⟩
  cases ok with
  | true => exact .inr ⟨rfl, hl'.files⟩
  | false =>
   rw [handled_false hh]
   exact .inl fun _ _ => ⟨rfl, rfl⟩
 ·rcases hMo with rfl | ⟨σ2, q1, rfl⟩
  ·exact ⟨hs, .inl fun _ _ => ⟨rfl, rfl⟩⟩
  ·refine ⟨(did_done hk hp ht.2.2.2 hs q1).sane, .inr ?_⟩
   obtain ⟨d, e, τ1, g1, _, rfl, rfl⟩ := exec_live (handled_new h2 (hl.up.symm.trans hu) ((hl.takes p).1 ht) (ha.trans hl.boot) ((hl.judge p).symm.trans hj))
   obtain ⟨_, _, hl2⟩ := did_like hl q1 g1
   exact ⟨rfl, hl2.files⟩
theorem files_anew {Mo M' : List Rw} {N n : Nat} (hs : Sane Mo b) (hG : Good N M') (hM : ∀ k, getR M' k = afterK (boCh n) Mo k) : Files M' Mo := by
 obtain ⟨b1, _, _, b4⟩ := boot_ok hs.snd hG hM
 exact fun y hy => ⟨ep_of (b4 (eK y) (eK_ne_bK y)), b1 y hy⟩
end
end Go.Proofs.YtmelaiefbpdifaaGreatDoor.Srv
namespace Go.Proofs.YtmelaiefbpdifaaGreatDoor.Srv
open Go.RowKit Go.Maps
open Pgs (Pg pgE)
structure Both (l : List Ac) (w wx : World) (sb dp tb dq q k : Nat) (R T : List Nat) (σ τ : Sv) : Prop where
 s : SrvQ true w wx R sb dp σ k (k + 1) (fun M => M = σ.M)
 t : SrvL w wx T tb dq τ k
 apart : ∀ i ∈ R, i ∉ T
 out : q ∉ R ∧ q ∉ T
 ran : Ran l k σ ∧ Ran l k τ
 sane : Sane σ.M 1
structure Three (l : List Ac) (w wx : World) (nb dp tb dq ub du k c : Nat) (V T X : List Nat) (ν τ υ : Sv) : Prop where
 n : ∃ b, SrvQ true w wx V nb dp ν 0 b (fun M => M = ν.M)
 t : SrvL w wx T tb dq τ c
 u : SrvL w wx X ub du υ k
 apart : ∀ i ∈ X, i ∉ V ∧ i ∉ T
 ran : Ran l k υ
def ends (k n : Nat) : Prop := k ≤ n ∧ k ≤ 30 ∧ (k = n ∨ k = 30)
set_option maxRecDepth 100000 in
set_option maxHeartbeats 8000000 in
theorem dserverSure_walk (w : World) (A : Option Addr) (c : Nat) (l : List Ac) (hA : Els acE 23 w A l) (hok : okayA l) (p : Pk) (hp : p.Ok) (fuse keep : Int) (hfu : 0 ≤ fuse ∧ fuse ≤ 255) (hke : 0 ≤ keep ∧ keep ≤ 18446744073709551615) :
  Calls Tryz.prog 5 #[.slice A l.length c, pkV p, .int .u8 fuse, .int .u64 keep] w fun e w' => e = .returned (.bool true) ∧ Only [] w w' := by
 obtain ⟨n, hn⟩ : ∃ n, n = l.length := ⟨_, rfl⟩
 rw [← hn]
 replace hn := Lib.hid hn
 replace hok := Lib.hid hok
 obtain ⟨kn, rfl⟩ : ∃ kn : Nat, keep = (kn : Int) := ⟨keep.toNat, by omega⟩
 have hkn : kn < 18446744073709551616 := by omega
 have hrem := Int.tmod_lt_of_pos fuse (show (0 : Int) < 30 by decide)
 have hrem0 := Int.tmod_nonneg 30 hfu.1
 replace hkn := Lib.hid hkn
 clear hke
 go_enter Tryz.func5, Tryz.ntmps5
 go_wp2_with fail
 refine (alive_any _).mono ?_; rintro e w1 ⟨rfl, k1⟩
 have b1 := (Blk.new w 53 (pkA p)).kept k1 (by simp)
 have k01 := ((Only.refl [] w).alloc (.cells (pkA p) 53)).trans k1
 have hnew := ownNew_any w w1 140 (by decide) (by decide) k01
 replace hnew := Lib.hid hnew
 clear k1
 obtain ⟨q, hq⟩ : ∃ q, q = w.heap.size := ⟨_, rfl⟩
 rw [← hq] at b1
 simp only [← hq]
 have hq1 := b1.lt
 replace hq := Lib.hid hq
 go_wp2_with fail
 refine hnew.out.mono ?_; rintro e w2 ⟨dp, F, rfl, hd1, k12, hF⟩
 have h12 := k12.size
 clear hnew
 go_wp2_with fail
 refine ((OwnD.devQ (N := 99) hd1 (by decide)).start (bt := 0) (by decide) (by decide) (by decide) (fun Mo h _ => new_rows (by decide) Mo h)).mono ?_
 rintro e w3 ⟨sb, R0, Mo0, M0, rfl, _, hMo0, hG, hM, hs3, k23, hR0⟩
 replace hMo0 : Mo0 = [] := hMo0
 subst hMo0
 have hqF : q ∉ F := fun hm => by have := hF _ hm; omega
 have b3 := (b1.kept k12 (by simp)).kept k23 hqF
 have hran0 : Ran l 0 (srv0 99 1 (((0 : Nat) : Int) + 1) M0) := ⟨M0, hG, hM, rfl⟩
 have hsane0 : Sane (srv0 99 1 (((0 : Nat) : Int) + 1) M0).M 1 := sane_new hG hM
 generalize hσ0 : srv0 99 1 (((0 : Nat) : Int) + 1) M0 = σ0 at *
 have hs3' : SrvQ true w w3 R0 sb dp σ0 0 (0 + 1) (fun M => M = σ0.M) := by
  have e : σ0.M = M0 := by rw [← hσ0]; rfl
  rw [e]
  exact hs3
 have hqR0 : q ∉ R0 := fun hm => by
  rcases hR0 _ hm with h | h
  ·have := hF _ h; omega
  ·omega
 have hnew := ownNew_any w w3 140 (by decide) (by decide) hs3'.only
 replace hnew := Lib.hid hnew
 have h23 := k23.size
 replace hran0 := Lib.hid hran0
 replace hsane0 := Lib.hid hsane0
 clear hd1 hs3 hσ0 hG hM hF hR0 hqF b1 k12 k23
 go_wp2_with fail
 refine hnew.out.mono ?_; rintro e w4 ⟨dq, E, rfl, hd2, k34, hE⟩
 clear hnew
 have hs4 := hs3'.keep k34
 have hqE : q ∉ E := fun hm => by have := hE _ hm; omega
 have b4 := b3.kept k34 (by simp)
 have hR0 : ∀ j ∈ R0, j < w3.heap.size := fun j hj => (hs3'.new j hj).2
 have h34 := k34.size
 clear hs3'
 go_wp2_with fail
 refine (OwnD.startL (N := 99) hd2 (by decide) (by decide) 1 ⟨by decide, by decide⟩).mono ?_
 rintro e w5 ⟨tb, T0, M1, rfl, ht0, k45, hT0, hG1, hM1⟩
 clear hd2
 have hs0 := hs4.beside k45 ht0.only (fun i hi hm => by have := hE i hi; have := hR0 i hm; omega)
 have hap : ∀ i ∈ R0, i ∉ T0 := fun i hi hm => by
  have := hR0 i hi
  rcases hT0 i hm with h | h
  ·have := hE i h; omega
  ·omega
 have hqT0 : q ∉ T0 := fun hm => by
  rcases hT0 _ hm with h | h
  ·have := hE _ h; omega
  ·omega
 have hB0 : Both l w w5 sb dp tb dq q 0 R0 T0 σ0 (srv0 99 1 1 M1) := ⟨hs0, ht0, hap, ⟨hqR0, hqT0⟩, ⟨hran0.out, M1, hG1, hM1, rfl⟩, hsane0.out⟩
 have b5 := b4.kept k45 hqE
 generalize srv0 99 1 1 M1 = τ0 at *
 replace hB0 := Lib.hid hB0
 clear b3 b4 hran0 hsane0 hap hqT0 hqR0 hs0 ht0 hs4 hR0 hE hT0 k34 k45 h34 h23 h12 hG1 hM1 hqE
 have hq0 : w.heap.size ≤ q := by have := hq.out; omega
 clear hq
 go_upto_block 0 with fail
 go_cut [15] (fun s15 wx => ∃ (k : Nat) (R T : List Nat) (σ τ : Sv), s15 = .int .i64 k ∧ Hid (ends k n) ∧ Hid (Both l w wx sb dp tb dq q k R T σ τ) ∧ Blk wx q 53 (pkA p))
 case first =>
  go_wp2_with fail
  go_loopg [15] n (fun gh i wr => ∃ (k : Nat) (R T : List Nat) (σ τ : Sv), k ≤ n ∧ gh = n - k ∧ k ≤ 30 ∧ i = .int .i64 k ∧ Hid (Both l w wr sb dp tb dq q k R T σ τ) ∧ Blk wr q 53 (pkA p))
  case atStart => exact ⟨0, R0, T0, σ0, τ0, Nat.zero_le _, rfl, Nat.zero_le _, rfl, hB0, b5⟩
  case round =>
   obtain ⟨k, R, T, σ, τ, hk, rfl, hk40, rfl, hB, bq⟩ := hrel
   by_cases hgo : k < n ∧ k < 30
   ·obtain ⟨hlt, h20⟩ := hgo
    have hkl : k < l.length := by have := hn.out; omega
    obtain ⟨hσ, hτ, hap, ⟨hqR, hqT⟩, ⟨hr1, hr2⟩, hsa⟩ := hB.out
    have kr := hσ.only
    obtain ⟨g, o, rfl, hr⟩ := act_pk (hA.kept kr (by simp)) hkl
    have hpo := p1_ok ((hok.out l[k] (List.getElem_mem _)).1)
    have hx := List.getElem?_eq_getElem hkl
    generalize l[k] = x at *
    have z1 := boxed_pk wr
    have kz : Only [] wr (wr.alloc (.cells zPkA 53)) := (Only.refl [] wr).alloc _
    replace hr1 := Lib.hid hr1
    replace hr2 := Lib.hid hr2
    replace hsa := Lib.hid hsa
    replace hx := Lib.hid hx
    clear hB
    go_wp2_with (first
     | (refine wpList_load_mid rfl 53 (.tmp 55) rfl g (o + k * 23 + 3) rfl (pkA x.p).toList _ hr Tryz.underlying53 rfl size_pk ?_)
     | (refine wpList_store_pk x.p zPk rfl (.tmp 16) (.tmp 56) rfl wr.heap.size rfl rfl z1 ?_; intro w4 b4 k4; have c5 : w4.cell? ⟨wr.heap.size, 5, none⟩ = some (.int .u32 x.p.asked) := (b4.cell 5).trans rfl; have b5 : Blk (w4.setCell ⟨wr.heap.size, 5, none⟩ (.int .u32 1)) wr.heap.size 53 (pkA (p1 x.p)) := b4.set 5 _; have f5 := b4.free 5)
     | (refine wpList_load_pk (p1 x.p) rfl (.tmp 16) rfl wr.heap.size rfl b5 ?_))
    have kq : Only [] wr (w4.setCell ⟨wr.heap.size, 5, none⟩ (.int .u32 1)) := kz.then (k4.setCell (p := ⟨wr.heap.size, 5, none⟩) (.inl (by simp)) _) (fun j hj => .inr (by simp at hj; omega))
    clear c5 f5 k4 b4 kz z1
    generalize w4.setCell ⟨wr.heap.size, 5, none⟩ (.int .u32 1) = v0 at *
    have hRlt : ∀ j ∈ R, j < wr.heap.size := fun j hj => (hσ.new j hj).2
    have hTlt : ∀ j ∈ T, j < wr.heap.size := fun j hj => (hτ.new j hj).2
    have hqw := bq.lt
    generalize hqb : wr.heap.size = qb at *
    have hbR : qb ∉ R := fun hm => by have := hRlt _ hm; omega
    have hbT : qb ∉ T := fun hm => by have := hTlt _ hm; omega
    have hwv := kq.size
    have hqv : qb < v0.heap.size := b5.lt
    have hσ0 := hσ.keep kq
    have hτ0 := hτ.keep kq
    have bq0 := bq.kept kq (by simp)
    clear hσ hτ bq
    refine (hσ0.handle (by omega) (by omega) (p1 x.p) hpo).mono ?_
    rintro e v1 ⟨r1, ok1, σ1, R1, P1, rfl, hst, hσ1, kh1, hR1⟩
    obtain ⟨hu1, hP1⟩ := hσ1.live
    have h1 : Handled (Puts σ.N) σ (p1 x.p) r1 ok1 σ1 := by
     rcases hst with ⟨h, _⟩ | ⟨h, _⟩
     ·exact h
     ·cases h
    have hsa1 := handled_sane hσ0.ok hpo hsa.out h1
    subst hP1
    have hτ1 := hτ0.beside kh1 hσ1.only hap
    have b6 := b5.kept kh1 hbR
    have bq1 := bq0.kept kh1 hqR
    have hap1 : ∀ i ∈ R1, i ∉ T := fun i hi hm => by
     rcases hR1 i hi with h | h
     ·exact hap i h hm
     ·have := hTlt i hm; omega
    have hqR1 : q ∉ R1 := out_of hqR hR1 (by omega)
    have hR1lt : ∀ j ∈ R1, j < v1.heap.size := fun j hj => (hσ1.new j hj).2
    have hv1 := kh1.size
    clear hσ0 hτ0 b5 kh1 hR1 bq0 hst
    go_wp2_with (refine wpList_load_pk (p1 x.p) rfl (.tmp 16) rfl qb rfl b6 ?_)
    refine (hτ1.handle (by omega) (p1 x.p) hpo).mono ?_
    rintro e v3 ⟨r2, ok2, τ1, T1, rfl, h2, hτ3, kh2, hT1⟩
    have hσ3 := hσ1.beside kh2 hτ3.only (fun i hi hm => hap1 i hm hi)
    have bq3 := bq1.kept kh2 hqT
    have hB3 : Both l w v3 sb dp tb dq q (k + 1) R1 T1 σ1 τ1 := ⟨hσ3, hτ3, fun i hi hm => by
     rcases hT1 i hm with h | h
     ·exact hap1 i hi h
     ·have := hR1lt i hi; omega, ⟨hqR1, out_of hqT hT1 (by omega)⟩, ⟨⟨σ, r1, ok1, x, hr1.out, hx.out, h1⟩, ⟨τ, r2, ok2, x, hr2.out, hx.out, h2⟩⟩, hsa1⟩
    clear hσ1 hτ1 hσ3 hτ3 kh2 b6 bq1 h1 h2 hT1
    go_wp2_with fail
    go_roundg (n - (k + 1))
    case measure => omega
    case rel => exact ⟨k + 1, R1, T1, σ1, τ1, by omega, rfl, by omega, by go_num, Lib.hid hB3, bq3⟩
   ·by_cases hlt : k < n
    ·have h20 : ¬ k < 30 := fun h => hgo ⟨hlt, h⟩
     go_wp2_with fail
     go_meet
     exact ⟨k, R, T, σ, τ, rfl, Lib.hid ⟨hk, hk40, .inr (by omega)⟩, hB, bq⟩
    ·go_wp2_with fail
     go_meet
     exact ⟨k, R, T, σ, τ, rfl, Lib.hid ⟨hk, hk40, .inl (by omega)⟩, hB, bq⟩
 case rest =>
  obtain ⟨kk, R, T, σ, τ, rfl, hends, hB, bq⟩ := hcut
  generalize wc = wa at *
  obtain ⟨hσ, hτ, hap, ⟨hqR, hqT⟩, ⟨hr1, hr2⟩, hsa⟩ := hB.out
  have hlk := ran_like kk hr1 hr2
  obtain ⟨hN, _, hbo⟩ := ran_num kk hr1
  have hpo := p1_ok hp
  have hkk30 : kk ≤ 30 := hends.out.2.1
  have hu := hσ.live.1
  replace hr1 := Lib.hid hr1
  replace hlk := Lib.hid hlk
  replace hN := Lib.hid hN
  replace hbo := Lib.hid hbo
  replace hsa := Lib.hid hsa
  clear hB hB0 hr2 b5
  go_wp2_with fail
  refine (hσ.fuse _ (by omega) (by omega)).mono ?_; rintro e w5 ⟨rfl, hσ5, k5⟩
  have hτ5 := hτ.beside k5 hσ5.only hap
  have bq5 := bq.kept k5 hqR
  have c5 : w5.cell? ⟨q, 5, none⟩ = some (.int .u32 p.asked) := (bq5.cell 5).trans rfl
  have f5 := bq5.free 5
  clear hσ hτ bq k5
  go_upto_region 16 with fail
  have b6 : Blk (w5.setCell ⟨q, 5, none⟩ (.int .u32 1)) q 53 (pkA (p1 p)) := bq5.set 5 _
  have k6 : Only [q] w5 (w5.setCell ⟨q, 5, none⟩ (.int .u32 1)) := (Only.refl [q] w5).setCell (p := ⟨q, 5, none⟩) (.inl (by simp)) _
  have kw6 : Only [] w (w5.setCell ⟨q, 5, none⟩ (.int .u32 1)) := hσ5.only.then k6 (fun i hi => .inr (by simp at hi; omega))
  have hσ6 := hσ5.beside k6 kw6 (fun i hi => by simp at hi; rw [hi]; exact hqR)
  have hτ6 := hτ5.beside k6 kw6 (fun i hi => by simp at hi; rw [hi]; exact hqT)
  clear c5 f5 hσ5 hτ5 bq5 k6 kw6
  generalize w5.setCell ⟨q, 5, none⟩ (.int .u32 1) = w6 at *
  have hTlt : ∀ j ∈ T, j < w6.heap.size := fun j hj => (hτ6.new j hj).2
  go_wp2_with (refine wpList_load_pk (p1 p) rfl (.tmp 5) rfl q rfl b6 ?_)
  refine (hσ6.handle (by omega) (by omega) (p1 p) hpo).mono ?_
  rintro e w7 ⟨r1, ok1, σ7, R7, P7, rfl, hst, hσ7, k7, hR7⟩
  have hN7 : σ7.N = 99 := (stepQ_num hst).trans hN.out
  have hsure := fun r' ok' τ' (h2 : Handled (Puts τ.N) τ (p1 p) r' ok' τ') => sure_rows hlk.out hσ6.ok hpo hbo.out.symm hsa.out hu hst h2
  have hτ7 := hτ6.beside k7 hσ7.only hap
  have b7 := b6.kept k7 hqR
  have hap7 : ∀ i ∈ R7, i ∉ T := fun i hi hm => by
   rcases hR7 i hi with h | h
   ·exact hap i h hm
   ·have := hTlt i hm; omega
  have hR7lt : ∀ j ∈ R7, j < w7.heap.size := fun j hj => (hσ7.new j hj).2
  replace hN7 := Lib.hid hN7
  replace hsure := Lib.hid hsure
  clear hσ6 hτ6 b6 k7 hR7 hst
  go_wp2_with (refine wpList_load_pk (p1 p) rfl (.tmp 5) rfl q rfl b7 ?_)
  refine (hτ7.handle (by omega) (p1 p) hpo).mono ?_
  rintro e w8 ⟨r2, ok2, τ8, T8, rfl, h2, hτ8, k8, hT8⟩
  have hrows := hsure.out r2 ok2 τ8 h2
  have hσ8 := hσ7.beside k8 hτ8.only (fun i hi hm => hap7 i hm hi)
  have hap8 : ∀ i ∈ R7, i ∉ T8 := fun i hi hm => by
   rcases hT8 i hm with h | h
   ·exact hap7 i hi h
   ·have := hR7lt i hi; omega
  have y8 := boxed_pk w8
  have ky8 : Only [] w8 (w8.alloc (.cells zPkA 53)) := (Only.refl [] w8).alloc _
  replace hrows := Lib.hid hrows
  clear hσ7 hτ7 b7 k8 hT8 h2 hsure
  go_wp2_with (refine wpList_store_pk r2 zPk rfl (.tmp 17) (.tmp 77) rfl w8.heap.size rfl rfl y8 ?_; intro w9 b9 kb9)
  have k89 : Only [] w8 w9 := ky8.then kb9 (fun j hj => .inr (by simp at hj; omega))
  have hσ9 := hσ8.keep k89
  have hτ9 := hτ8.keep k89
  clear hσ8 hτ8 b9 kb9 ky8 y8
  refine (hσ9.crash (by rw [hN7.out]; decide) kn hkn.out).mono ?_
  rintro e w10 ⟨F, rfl, hdev, _, _, hFR, _, k10⟩
  rw [hN7.out] at hdev
  have hFT : ∀ i ∈ F, i ∉ T8 := fun i hi => hap8 i (hFR i hi)
  have hτ10 := hτ9.beside k10 hdev.only hFT
  have hT8lt : ∀ j ∈ T8, j < w10.heap.size := fun j hj => (hτ10.new j hj).2
  clear hσ9 hτ9 k10 k89
  go_wp2_with fail
  refine (hdev.start (bt := 1) (by decide) (by omega) (by decide) (fun Mo hMo hG => (hrows.out Mo hMo).1.begins (by decide) hG)).mono ?_
  rintro e w11 ⟨nb, V, Mo, M', rfl, _, hMo, hG', hM', hν, k11, hV⟩
  obtain ⟨hsMo, hfi⟩ := hrows.out Mo hMo
  have hfn := files_anew hsMo hG' hM'
  have hτ11 := hτ10.beside k11 hν.only hFT
  have hVT : ∀ i ∈ V, i ∉ T8 := fun i hi hm => by
   rcases hV i hi with h | h
   ·exact hFT i h hm
   ·have := hT8lt i hm; omega
  have hVlt : ∀ j ∈ V, j < w11.heap.size := fun j hj => (hν.new j hj).2
  have hobj : ∀ y, objL (srv0 99 1 (((1 : Nat) : Int) + 1) M') y = sureL M' y := fun y => rfl
  have hboot := hν.boot
  rw [show (srv0 99 1 (((1 : Nat) : Int) + 1) M').boot = 2 from rfl] at hboot
  have hνM : (srv0 99 1 (((1 : Nat) : Int) + 1) M').M = M' := rfl
  generalize srv0 99 1 (((1 : Nat) : Int) + 1) M' = ν at *
  subst hνM
  have hnew := ownNew_any w w11 140 (by decide) (by decide) hν.only
  replace hnew := Lib.hid hnew
  replace hfn := Lib.hid hfn
  replace hfi := Lib.hid hfi
  replace hobj := Lib.hid hobj
  have h1011 := k11.size
  clear hdev hrows hsMo hG' hM' hMo k11 hV hτ10 hFR hFT hap8 hap7 hap
  go_wp2_with fail
  refine hboot.mono ?_; rintro e w12 ⟨rfl, rfl⟩
  clear hboot
  go_wp2_with fail
  refine hnew.out.mono ?_; rintro e w13 ⟨du, G, rfl, hd3, k13, hG3⟩
  have hν13 := hν.keep k13
  have hτ13 := hτ11.keep k13
  have h1113 := k13.size
  clear hν hτ11 k13 hnew
  go_wp2_with fail
  refine (OwnD.startL (N := 99) hd3 (by decide) (by decide) 1 ⟨by decide, by decide⟩).mono ?_
  rintro e w14 ⟨ub, X0, M2, rfl, hu0, k14, hX0, hG2, hM2⟩
  have hT0 : Three l w w14 nb dp tb dq ub du 0 (kk + 1) V T8 X0 ν τ8 (srv0 99 1 1 M2) := by
   refine ⟨⟨_, hν13.beside k14 hu0.only (fun i hi hm => ?_)⟩, hτ13.beside k14 hu0.only (fun i hi hm => ?_), hu0, fun i hi => ?_, M2, hG2, hM2, rfl⟩
   ·have := hG3 i hi; have := hVlt i hm; omega
   ·have := hG3 i hi; have := hT8lt i hm; omega
   ·rcases hX0 i hi with h | h
    ·have := hG3 i h
     exact ⟨fun hm => by have := hVlt i hm; omega, fun hm => by have := hT8lt i hm; omega⟩
    ·exact ⟨fun hm => by have := hVlt i hm; omega, fun hm => by have := hT8lt i hm; omega⟩
  generalize srv0 99 1 1 M2 = υ0 at *
  replace hT0 := Lib.hid hT0
  clear hd3 hν13 hτ13 hu0 k14 hX0 hG2 hM2 hG3 hVlt hT8lt hR7lt hTlt hVT h1113 h1011
  go_upto_block 2 with fail
  go_cut [25] (fun s25 wx => ∃ (k : Nat) (X : List Nat) (υ : Sv), s25 = .int .i64 k ∧ Hid (ends k n) ∧ Hid (Three l w wx nb dp tb dq ub du k (kk + 1) V T8 X ν τ8 υ))
  case first =>
   go_wp2_with fail
   go_loopg [25] n (fun gh i wr => ∃ (k : Nat) (X : List Nat) (υ : Sv), k ≤ n ∧ gh = n - k ∧ k ≤ 30 ∧ i = .int .i64 k ∧ Hid (Three l w wr nb dp tb dq ub du k (kk + 1) V T8 X ν τ8 υ))
   case atStart => exact ⟨0, X0, υ0, Nat.zero_le _, rfl, Nat.zero_le _, rfl, hT0⟩
   case round =>
    obtain ⟨k, X, υ, hk, rfl, hk40, rfl, hT⟩ := hrel
    by_cases hgo : k < n ∧ k < 30
    ·obtain ⟨hlt, h20⟩ := hgo
     have hkl : k < l.length := by have := hn.out; omega
     obtain ⟨⟨cb, hν⟩, hτ, hυ, hapx, hru⟩ := hT.out
     have kr := hυ.only
     obtain ⟨g, o, rfl, hr⟩ := act_pk (hA.kept kr (by simp)) hkl
     have hpx := p1_ok ((hok.out l[k] (List.getElem_mem _)).1)
     have hx := List.getElem?_eq_getElem hkl
     generalize l[k] = x at *
     have z1 := boxed_pk wr
     have kz : Only [] wr (wr.alloc (.cells zPkA 53)) := (Only.refl [] wr).alloc _
     replace hru := Lib.hid hru
     replace hx := Lib.hid hx
     replace hapx := Lib.hid hapx
     clear hT
     go_wp2_with (first
      | (refine wpList_load_mid rfl 53 (.tmp 112) rfl g (o + k * 23 + 3) rfl (pkA x.p).toList _ hr Tryz.underlying53 rfl size_pk ?_)
      | (refine wpList_store_pk x.p zPk rfl (.tmp 26) (.tmp 113) rfl wr.heap.size rfl rfl z1 ?_; intro w4 b4 k4; have c5 : w4.cell? ⟨wr.heap.size, 5, none⟩ = some (.int .u32 x.p.asked) := (b4.cell 5).trans rfl; have b5 : Blk (w4.setCell ⟨wr.heap.size, 5, none⟩ (.int .u32 1)) wr.heap.size 53 (pkA (p1 x.p)) := b4.set 5 _; have f5 := b4.free 5)
      | (refine wpList_load_pk (p1 x.p) rfl (.tmp 26) rfl wr.heap.size rfl b5 ?_))
     have kq : Only [] wr (w4.setCell ⟨wr.heap.size, 5, none⟩ (.int .u32 1)) := kz.then (k4.setCell (p := ⟨wr.heap.size, 5, none⟩) (.inl (by simp)) _) (fun j hj => .inr (by simp at hj; omega))
     clear c5 f5 k4 b4 kz z1 b5
     generalize w4.setCell ⟨wr.heap.size, 5, none⟩ (.int .u32 1) = v0 at *
     have hν0 := hν.keep kq
     have hτ0 := hτ.keep kq
     have hυ0 := hυ.keep kq
     have hVlt : ∀ j ∈ V, j < v0.heap.size := fun j hj => (hν0.new j hj).2
     have hTlt : ∀ j ∈ T8, j < v0.heap.size := fun j hj => (hτ0.new j hj).2
     clear hν hτ hυ
     refine (hυ0.handle (by omega) (p1 x.p) hpx).mono ?_
     rintro e v1 ⟨r3, ok3, υ1, X1, rfl, h3, hυ1, kh, hX1⟩
     have hT1 : Three l w v1 nb dp tb dq ub du (k + 1) (kk + 1) V T8 X1 ν τ8 υ1 := ⟨⟨_, hν0.beside kh hυ1.only (fun i hi => (hapx.out i hi).1)⟩, hτ0.beside kh hυ1.only (fun i hi => (hapx.out i hi).2), hυ1, fun i hi => by
      rcases hX1 i hi with h | h
      ·exact hapx.out i h
      ·exact ⟨fun hm => by have := hVlt i hm; omega, fun hm => by have := hTlt i hm; omega⟩, ⟨υ, r3, ok3, x, hru.out, hx.out, h3⟩⟩
     clear hν0 hτ0 hυ0 hυ1 kh hX1 h3
     go_wp2_with fail
     go_roundg (n - (k + 1))
     case measure => omega
     case rel => exact ⟨k + 1, X1, υ1, by omega, rfl, by omega, by go_num, Lib.hid hT1⟩
    ·by_cases hlt : k < n
     ·have h20 : ¬ k < 30 := fun h => hgo ⟨hlt, h⟩
      go_wp2_with fail
      go_meet
      exact ⟨k, X, υ, rfl, Lib.hid ⟨hk, hk40, .inr (by omega)⟩, hT⟩
     ·go_wp2_with fail
      go_meet
      exact ⟨k, X, υ, rfl, Lib.hid ⟨hk, hk40, .inl (by omega)⟩, hT⟩
  case rest =>
   obtain ⟨k3, X, υ, rfl, hends3, hT⟩ := hcut
   generalize wc = wz at *
   obtain ⟨⟨cb, hν⟩, hτ, hυ, _, hru⟩ := hT.out
   obtain rfl : k3 = kk := by
    obtain ⟨a1, a2, a3⟩ := hends.out
    obtain ⟨b1, b2, b3⟩ := hends3.out
    omega
   have hlu := (ran_like k3 hr1.out hru).files
   have hfin : Files ν.M υ.M ∨ (ok2 = true ∧ Files ν.M τ8.M) := by
    have hf := hfn.out
    rcases hfi.out with h | ⟨h0, h⟩
    ·exact .inl fun y hy => ⟨(hf y hy).1.trans ((h y hy).1.trans (hlu y hy).1), (hf y hy).2.trans ((h y hy).2.trans (hlu y hy).2)⟩
    ·exact .inr ⟨h0, fun y hy => ⟨(hf y hy).1.trans (h y hy).1, (hf y hy).2.trans (h y hy).2⟩⟩
   replace hfin := Lib.hid hfin
   have kend0 : Only [] w wz := hν.only
   clear hT hT0 hru hlu hfn hfi hr1 hlk hN hbo hsa hN7
   go_wp2_with fail
   go_loopw [27, 21, 22] (fun i s21 s22 wx => ∃ (k : Nat) (o x : Bool), k ≤ 6 ∧ i = .int .u32 k ∧ s21 = .bool o ∧ s22 = .bool x ∧ Hid (Files ν.M υ.M → o = true) ∧ Hid (Files ν.M τ8.M → x = true) ∧ Only [] wz wx) (fun i _ _ _ => 6 - (intOf i).toNat)
   case atStart => exact ⟨0, true, true, by omega, rfl, rfl, rfl, Lib.hid fun _ => rfl, Lib.hid fun _ => rfl, Only.refl [] _⟩
   case round =>
    obtain ⟨k, o, x, hk, rfl, rfl, rfl, hAo, hBx, kx⟩ := hrel
    by_cases hlt : k < 6
    ·have s9 := hν.keep kx
     have t9 := hτ.keep kx
     have u9 := hυ.keep kx
     have hls : (sureL ν.M k).length ≤ 32 := Pgs.right_len (sure_right _ k)
     have e0 := fun W (kk : Only [] wr W) => (s9.keep kk).epoch (k : Int) (by unfold U; omega)
     have e1 := fun W (kk : Only [] wr W) => (u9.keep kk).epoch (k : Int) (by unfold U; omega)
     have e2 := fun W (kk : Only [] wr W) => (t9.keep kk).epoch (k : Int) (by unfold U; omega)
     have u0 := fun W (kk : Only [] wr W) => (s9.keep kk).sure (k : Int) k rfl (by omega)
     have u1 := fun W (kk : Only [] wr W) => (u9.keep kk).sure (k : Int) k rfl (by omega)
     have u2 := fun W (kk : Only [] wr W) => (t9.keep kk).sure (k : Int) k rfl (by omega)
     have o0 := fun W (kk : Only [] wr W) => (s9.keep kk).object (k : Int) k rfl (by omega)
     simp only [Int.toNat_natCast] at e0 e1 e2
     simp only [hobj.out] at o0
     have hAk : Files ν.M υ.M → epN ν.M k = epN υ.M k ∧ sureL ν.M k = sureL υ.M k := fun h => h k (by omega)
     have hBk : Files ν.M τ8.M → epN ν.M k = epN τ8.M k ∧ sureL ν.M k = sureL τ8.M k := fun h => h k (by omega)
     clear s9 t9 u9
     generalize epN ν.M k = n0 at *
     generalize epN υ.M k = n1 at *
     generalize epN τ8.M k = n2 at *
     generalize sureL ν.M k = l0 at *
     generalize sureL υ.M k = l1 at *
     generalize sureL τ8.M k = l2 at *
     replace e0 := Lib.hid e0
     replace e1 := Lib.hid e1
     replace e2 := Lib.hid e2
     replace u0 := Lib.hid u0
     replace u1 := Lib.hid u1
     replace u2 := Lib.hid u2
     replace o0 := Lib.hid o0
     replace hAk := Lib.hid hAk
     replace hBk := Lib.hid hBk
     go_upto_region 34 with fail
     go_cut [21] (fun s wx => ∃ o' : Bool, s = .bool o' ∧ Hid (Files ν.M υ.M → o' = true) ∧ Only [] wr wx)
     case first =>
      cases o with
      | false =>
       go_wp2_with fail
       go_meet
       exact ⟨false, rfl, hAo, Only.refl [] _⟩
      | true =>
       go_wp2_with fail
       refine (e0.out _ (Only.refl [] _)).mono ?_; rintro e v1 ⟨rfl, k1⟩
       go_wp2_with fail
       refine (e1.out _ k1).mono ?_; rintro e v2 ⟨rfl, k2⟩
       have k12 := k1.trans k2
       by_cases hne : n0 = n1
       ·have hq2 : ((n0 : Int) == (n1 : Int)) = true := by rw [beq_iff_eq, hne]
        go_wp2_with fail
        refine (u0.out _ k12).mono ?_; rintro e v3 ⟨v, rfl, B, d, rfl, _, hB, k3, _⟩
        have k13 := k12.trans k3
        go_wp2_with fail
        refine (u1.out _ k13).mono ?_; rintro e v4 ⟨v, rfl, C, ff, rfl, _, hC, k4, _⟩
        have k14 := k13.trans k4
        go_wp2_with fail
        refine (Pgs.same_any _ B C d ff _ _ l0 l1 rfl rfl (hB.kept k4 (by simp)) hC (by omega)).mono ?_
        rintro e v5 ⟨⟨r, rfl, hr⟩, m, rfl⟩
        have k15 := k14.trans ((Only.refl [] v4).drewN m)
        go_wp2_with fail
        go_meet
        exact ⟨r, rfl, Lib.hid fun h => hr.2 (hAk.out h).2, k15⟩
       ·have hq2 : ((n0 : Int) == (n1 : Int)) = false := by rw [beq_eq_false_iff_ne]; omega
        go_wp2_with fail
        go_meet
        exact ⟨false, rfl, Lib.hid fun h => absurd (hAk.out h).1 hne, k12⟩
     case rest =>
      obtain ⟨o', rfl, hAo', kw⟩ := hcut
      generalize wc = wb at *
      go_upto_region 35 with fail
      go_cut [22] (fun s wx => ∃ x' : Bool, s = .bool x' ∧ Hid (Files ν.M τ8.M → x' = true) ∧ Only [] wr wx)
      case first =>
       cases x with
       | false =>
        go_wp2_with fail
        go_meet
        exact ⟨false, rfl, hBx, kw⟩
       | true =>
        go_wp2_with fail
        refine (e0.out _ kw).mono ?_; rintro e v1 ⟨rfl, k1⟩
        replace k1 := kw.trans k1
        go_wp2_with fail
        refine (e2.out _ k1).mono ?_; rintro e v2 ⟨rfl, k2⟩
        have k12 := k1.trans k2
        by_cases hne : n0 = n2
        ·have hq2 : ((n0 : Int) == (n2 : Int)) = true := by rw [beq_iff_eq, hne]
         go_wp2_with fail
         refine (u0.out _ k12).mono ?_; rintro e v3 ⟨v, rfl, B, d, rfl, _, hB, k3, _⟩
         have k13 := k12.trans k3
         go_wp2_with fail
         refine (u2.out _ k13).mono ?_; rintro e v4 ⟨v, rfl, C, ff, rfl, _, hC, k4, _⟩
         have k14 := k13.trans k4
         go_wp2_with fail
         refine (Pgs.same_any _ B C d ff _ _ l0 l2 rfl rfl (hB.kept k4 (by simp)) hC (by omega)).mono ?_
         rintro e v5 ⟨⟨r, rfl, hr⟩, m, rfl⟩
         have k15 := k14.trans ((Only.refl [] v4).drewN m)
         go_wp2_with fail
         go_meet
         exact ⟨r, rfl, Lib.hid fun h => hr.2 (hBk.out h).2, k15⟩
        ·have hq2 : ((n0 : Int) == (n2 : Int)) = false := by rw [beq_eq_false_iff_ne]; omega
         go_wp2_with fail
         go_meet
         exact ⟨false, rfl, Lib.hid fun h => absurd (hBk.out h).1 hne, k12⟩
      case rest =>
       obtain ⟨x', rfl, hBx', kw2⟩ := hcut
       generalize wc = wd at *
       go_wp2_with fail
       refine (u0.out _ kw2).mono ?_; rintro e v3 ⟨v, rfl, B, d, rfl, _, hB, k3, _⟩
       have k13 := kw2.trans k3
       go_wp2_with fail
       refine (o0.out _ k13).mono ?_; rintro e v4 ⟨v, rfl, C, ff, rfl, _, hC, k4, _⟩
       have k14 := k13.trans k4
       go_wp2_with fail
       refine (Pgs.same_yes _ B C d ff _ _ l0 rfl rfl (hB.kept k4 (by simp)) hC (by omega)).mono ?_; rintro e v5 ⟨rfl, k5⟩
       have k15 := k14.trans k5
       go_wp2_with fail
       go_roundw
       case rel => exact ⟨k + 1, o', x', by omega, by go_num, rfl, rfl, hAo', hBx', kx.trans k15⟩
       case measure => simp [intOf]; omega
    ·obtain rfl : k = 6 := by omega
     have kend := kend0.trans kx
     clear hν hτ hυ
     go_wp2_with fail
     refine (alive_any _).mono ?_; rintro e v1 ⟨rfl, k1⟩
     have kend1 := kend.trans k1
     by_cases hA1 : o = true
     ·subst hA1
      go_wp2_with fail
      go_ret
      exact ⟨rfl, kend1⟩
     ·obtain ⟨rfl, hf⟩ : ok2 = true ∧ Files ν.M τ8.M := by
       rcases hfin.out with h | h
       ·exact absurd (hAo.out h) hA1
       ·exact h
      obtain rfl : x = true := hBx.out hf
      obtain rfl : o = false := by cases o with
       | true => exact absurd rfl hA1
       | false => rfl
      go_wp2_with fail
      go_ret
      exact ⟨rfl, kend1⟩
end Go.Proofs.YtmelaiefbpdifaaGreatDoor.Srv
