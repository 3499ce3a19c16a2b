/- The document's Make. -/
import Derived.Test.YteiekfccfddmjaaDoorAbv10
namespace Go.Proofs.YteiekfccfddmjaaDoor
open Go.RowKit

theorem Tree.kids_le {t : List Nd} (h : Tree t) {d : Int} (hd : 1 ≤ d) : kidsN t d ≤ 12 := by
  apply Decidable.byContradiction
  intro hn
  have hp : 0 < kidsN t d := by omega
  obtain ⟨x, hx, hxd⟩ := List.countP_pos_iff.1 hp
  have hxd : x.par = d := by simpa using hxd
  rcases h.mem hx with rfl | hx
  · simp [rootN] at hxd; omega
  · have := h.kids x hx
    rw [hxd] at this
    omega
theorem spotR_name {t : List Nd} {names : List (List UInt8)} (h : (spotR t names).2.2 = 0) : ∃ q, names = q ++ [(spotR t names).2.1] := by
  rcases List.eq_nil_or_concat names with rfl | ⟨q, s, rfl⟩
  · rw [spotR_nil] at h; cases h
  · rw [List.concat_eq_append] at h ⊢
    refine ⟨q, ?_⟩
    rw [spotR_last] at h ⊢
    by_cases h1 : (walkR t rootN q).2 = 0
    · rw [if_pos h1] at h ⊢
      by_cases h2 : (walkR t rootN q).1.dir = true
      · rw [if_pos h2]
      · rw [if_neg h2] at h; cases h
    · rw [if_neg h1] at h; exact absurd h h1
set_option maxRecDepth 100000 in
set_option maxHeartbeats 8000000 in
theorem rmake_any (w : World) (A : Option Addr) (c : Nat) (l : List Nd) (p : List UInt8) (id : Int) (dir : Bool) (hb : Els ndE 5 w A l) (hc : l.length ≤ c) (hl : l.length ≤ 1000) (hp : p.length ≤ 1048576) :
    Calls Tryd.prog 25 #[.slice A l.length c, .string (strOf p), .int .u32 id, .bool dir] w fun e w' => PairAns w w' e (makeR l p id dir).1 (.int .i64 (makeR l p id dir).2) := by
  have hlI : (l.length : Int) ≤ 1000 := by omega
  have hS := fun W => rsplit_any W p hp
  obtain ⟨R, hR⟩ : ∃ R, R = makeR l p id dir := ⟨_, rfl⟩
  rw [← hR]
  unfold makeR at hR
  by_cases hT : Tree l
  rotate_left
  · have hRR := rright_bool w A c l hb (by omega) false (bool_no hT)
    have e2 : errOf l p = 1 := by rw [errOf, if_neg hT]
    rw [e2, if_pos (by decide)] at hR
    subst hR
    replace hRR := Lib.hid hRR
    replace hS := Lib.hid hS
    clear hT e2
    go_enter Tryd.func25, Tryd.ntmps25
    go_wp2_with fail
    refine hRR.out.mono ?_; rintro e w1 ⟨rfl, k1⟩
    go_wp2
    go_ret2
    exact PairAns.no k1
  have hRR := rright_bool w A c l hb (by omega) true (bool_yes hT)
  replace hRR := Lib.hid hRR
  cases hsp : splitL p with
  | none =>
    have e2 : errOf l p = 9 := by rw [errOf, if_pos hT, hsp]; rfl
    rw [e2, if_pos (by decide)] at hR
    subst hR
    rw [hsp] at hS
    simp only [Option.isSome_none, Option.getD_none] at hS
    replace hS := Lib.hid hS
    clear hT e2 hsp
    go_enter Tryd.func25, Tryd.ntmps25
    go_wp2_with fail
    refine hRR.out.mono ?_; rintro e w1 ⟨rfl, k1⟩
    go_wp2_with fail
    refine (hS.out _).mono ?_; rintro e w2 ⟨B, d, rfl, h1, h2, k2⟩
    go_wp2
    go_ret2
    exact PairAns.no (k1.trans k2)
  | some ns =>
  have hle := splitL_le hsp
  have e2 : errOf l p = 0 := by rw [errOf, if_pos hT, hsp]; rfl
  have e3 : namesOf l p = ns := by rw [namesOf, if_pos hT, hsp]; rfl
  rw [e2, if_neg (by decide), e3] at hR
  rw [hsp] at hS
  simp only [Option.isSome_some, Option.getD_some] at hS
  have hAb := fun W B d (k : Only [] w W) hB hd => above_any W A B c d l ns (hb.kept k (by simp)) (by omega) hT hB (by omega) hd
  have hnm := spotR_name (t := l) (names := ns)
  have hme := spotR_mem hT ns
  clear e2 e3 hsp
  generalize spotR l ns = S at *
  obtain ⟨⟨y0, y1, y2, y3, y4⟩, nm, es⟩ := S
  simp only at hR hnm hme
  replace hS := Lib.hid hS
  by_cases he : es = 0
  rotate_left
  · rw [if_pos he] at hR
    have heb : (es != 0) = true := by simpa using he
    subst hR
    replace hAb := Lib.hid hAb
    clear hnm hme hT
    go_enter Tryd.func25, Tryd.ntmps25
    go_wp2_with fail
    refine hRR.out.mono ?_; rintro e w1 ⟨rfl, k1⟩
    go_wp2_with fail
    refine (hS.out _).mono ?_; rintro e w2 ⟨B, d, rfl, h1, h2, k2⟩
    have hk2 := k1.trans k2
    go_wp2_with fail
    refine (hAb.out _ _ _ hk2 h2 h1).mono ?_; rintro e w3 ⟨k, rfl, _, k3⟩
    have hk3 := hk2.trans k3
    simp only
    go_wp2
    go_ret2
    exact PairAns.no hk3
  subst he
  rw [if_neg (by decide)] at hR
  obtain ⟨q, hq⟩ := hnm rfl
  obtain ⟨hmem, -⟩ := hme rfl
  clear hnm hme
  have hy1 : 1 ≤ y0 := hT.pos hmem
  have hl0 := List.length_pos_iff.2 (show l ≠ [] from fun h => by have := hT.head; rw [h] at this; cases this)
  have hKd := fun W (k : Only [] w W) => rkid_any W A c l y0 nm (hb.kept k (by simp)) (by omega) (by omega)
  have hKs := fun W (k : Only [] w W) => rkids_any W A c l y0 (hb.kept k (by simp)) (by omega) (by omega)
  have hG := fun W (k : Only [] w W) => rget_any W A c l id (hb.kept k (by simp)) (by omega)
  have hWi := fun W (k : Only [] w W) => with_any W A c l ⟨id, y0, nm, dir, 0⟩ (hb.kept k (by simp)) hc hl hT.rise
  have hkx := hT.kidX_kid hy1 nm
  have hks := kids1_eq hT.head (d := y0) (by omega)
  have hkl := hT.kids_le hy1
  have hgi := idxI_get (t := l) (i := id)
  have hgs := fun m => idxI_some (t := l) (i := id) (k := m)
  have hkxs := fun m => kidX_some (t := l) (d := y0) (s := nm) (k := m)
  rw [hks] at hKs
  simp only at hWi
  have hyv : ndV ⟨id, y0, nm, dir, 0⟩ = .agg #[.int .u32 id, .int .u32 y0, .string (strOf nm), .bool dir, .int .u32 0] := rfl
  rw [hyv] at hWi
  clear hks
  generalize kidsN l y0 = kn at *
  have hknI : (kn : Int) ≤ 12 := by omega
  have hcy : ∀ (k : Nat), l[k]? = some ⟨y0, y1, y2, y3, y4⟩ → Hid (∃ g o, A = some ⟨g, o, none⟩ ∧ k < l.length ∧ ∀ W, Only [] w W → W.cell? ⟨g, o + k * 5, none⟩ = some (.int .u32 y0)) := fun k h => by
    have h1 := (List.getElem?_eq_some_iff.1 h).1
    have h2 : l[k] = _ := (List.getElem?_eq_some_iff.1 h).2
    obtain ⟨g, o, hA, _, hat⟩ := hb.get h1
    refine ⟨g, o, hA, h1, fun W kk => ?_⟩
    have := (nds_at (hat.kept kk (by simp)) h1).1
    rwa [h2] at this
  replace hAb := Lib.hid hAb
  replace hKd := Lib.hid hKd
  replace hKs := Lib.hid hKs
  replace hG := Lib.hid hG
  replace hWi := Lib.hid hWi
  replace hR := Lib.hid hR
  have hnl : (ns.length : Int) - 1 = (q.length : Int) := by rw [hq]; simp
  have hww : IntKind.i64.wrap (ns.length - 1) = (ns.length : Int) - 1 := by rw [hnl]; exact wrap_nat q.length (by rw [hq] at hle; simp at hle; omega)
  have hqn : (q.length : Int) < (ns.length : Int) := by rw [hq]; simp; omega
  have hcs : ∀ W B, Els strE 1 W B ns → Hid (∃ g o, B = some ⟨g, o, none⟩ ∧ W.cell? ⟨g, o + q.length, none⟩ = some (.string (strOf nm))) := fun W B hs => by
    have hs' : Els strE 1 W B (q ++ [nm]) := by rw [← hq]; exact hs
    obtain ⟨g, o, hB, hg, hat⟩ := hs'.get (i := q.length) (by simp)
    have := strs_at hat (i := q.length) (by simp)
    simp at this
    exact ⟨g, o, hB, this⟩
  have hll : Hid (ns.length ≤ 6) := hle
  obtain ⟨nl, hnl0⟩ : ∃ nl, nl = ns.length := ⟨_, rfl⟩
  obtain ⟨ql, hql⟩ : ∃ ql, ql = q.length := ⟨_, rfl⟩
  have hnb : nl ≤ 1048576 := by have := hll.out; omega
  rw [← hnl0] at hnl hww hqn
  rw [← hql] at hnl hqn hcs
  have hnl0' := Lib.hid hnl0
  replace hql := Lib.hid hql
  replace hq := Lib.hid hq
  replace hmem := Lib.hid hmem
  have hTh := Lib.hid hT
  clear hT hb hle
  go_enter Tryd.func25, Tryd.ntmps25
  go_wp2_with fail
  refine hRR.out.mono ?_; rintro e w1 ⟨rfl, k1⟩
  go_wp2_with fail
  refine (hS.out _).mono ?_; rintro e w2 ⟨B, d, rfl, h1, h2, k2⟩
  have hk2 := k1.trans k2
  have hABW := hAb.out _ _ _ hk2 h2 h1
  rw [← hnl0] at hABW ⊢
  clear hnl0
  replace hABW := Lib.hid hABW
  go_wp2_with fail
  refine hABW.out.mono ?_; rintro e w3 ⟨k, rfl, hk, k3⟩
  have hk3 := hk2.trans k3
  have hky := hk rfl
  simp only at hky ⊢
  obtain ⟨g, o, rfl, hkl0, hcell⟩ := (hcy k hky).out
  obtain ⟨gb, ob, rfl, hcb⟩ := (hcs _ _ (h2.kept k3 (by simp))).out
  have hkI : (k : Int) < (l.length : Int) := by omega
  have hcell3 := hcell _ hk3
  replace hcell := Lib.hid hcell
  replace hky := Lib.hid hky
  clear hk hABW hcs hcy hAb h1 h2
  go_wp2_with fail
  refine (hKd.out _ hk3).mono ?_; rintro e w4 ⟨rfl, k4⟩
  have hk4 := hk3.trans k4
  clear hcell3 hcb
  have hcell4 := hcell.out _ hk4
  cases hx : kidX l y0 nm with
  | some m =>
    rw [hx] at hkx
    obtain ⟨_, x, hx1, _⟩ := hkxs m hx
    rw [Option.bind_some, hx1] at hkx
    have hr : R = ([], 8) := by rw [hR.out, if_pos (by rw [← hkx]; rfl)]
    subst hr
    have hm0 : (0 : Int) ≤ (m : Int) := by omega
    simp only [idxV]
    clear hkx hkxs hx hx1
    go_wp2
    go_ret2
    exact PairAns.no hk4
  | none =>
  rw [hx] at hkx
  rw [Option.bind_none] at hkx
  have hkx' := Lib.hid hkx
  clear hkx hkxs hx
  simp only [idxV]
  by_cases h40 : l.length = 40
  · have hr : R = ([], 16) := by rw [hR.out, if_neg (by rw [← hkx'.out]; simp), if_pos (.inl h40)]
    have h40b : ((l.length : Int) == 40) = true := by simp [h40]
    subst hr
    replace h40 := Lib.hid h40
    go_wp2
    go_ret2
    exact PairAns.no hk4
  have h40b : ((l.length : Int) == 40) = false := by rw [beq_eq_false_iff_ne]; omega
  go_wp2_with fail
  refine (hKs.out _ hk4).mono ?_; rintro e w5 ⟨rfl, k5⟩
  have hk5 := hk4.trans k5
  clear hcell4
  have hcell5 := hcell.out _ hk5
  by_cases h12 : 12 ≤ kn
  · have hr : R = ([], 16) := by rw [hR.out, if_neg (by rw [← hkx'.out]; simp), if_pos (.inr h12)]
    have h12b : ((kn : Int) == 12) = true := by simp; omega
    subst hr
    go_wp2
    go_ret2
    exact PairAns.no hk5
  have h12b : ((kn : Int) == 12) = false := by rw [beq_eq_false_iff_ne]; omega
  by_cases hid1 : id ≤ 1
  · have hr : R = ([], 1) := by rw [hR.out, if_neg (by rw [← hkx'.out]; simp), if_neg (by intro h; rcases h with h | h; exact h40 h; exact h12 h), if_pos (.inl hid1)]
    have hidb : decide (id ≤ 1) = true := decide_eq_true hid1
    subst hr
    replace h12 := Lib.hid h12
    go_wp2
    go_ret2
    exact PairAns.no hk5
  have hidb : decide (id ≤ 1) = false := decide_eq_false hid1
  have h12' := Lib.hid h12
  clear h12
  go_wp2_with fail
  refine (hG.out _ hk5).mono ?_; rintro e w6 ⟨rfl, k6⟩
  have hk6 := hk5.trans k6
  clear hcell5
  have hcell6 := hcell.out _ hk6
  cases hgx : idxI l id with
  | some m =>
    obtain ⟨x, _, _, hg⟩ := hgs m hgx
    have hr : R = ([], 1) := by rw [hR.out, if_neg (by rw [← hkx'.out]; simp), if_neg (by intro h; rcases h with h | h; exact h40 h; exact h12'.out h), if_pos (.inr (by rw [hg]; rfl))]
    subst hr
    have hm0 : (0 : Int) ≤ (m : Int) := by omega
    simp only [idxV]
    clear hgi hgs hgx
    go_wp2
    go_ret2
    exact PairAns.no hk6
  | none =>
  rw [hgx, Option.bind_none] at hgi
  have hr : Hid (R = (l.take (posN l id) ++ ⟨id, y0, nm, dir, 0⟩ :: l.drop (posN l id), 0)) := by rw [hR.out, if_neg (by rw [← hkx'.out]; simp), if_neg (by intro h; rcases h with h | h; exact h40 h; exact h12'.out h), if_neg (by intro h; rcases h with h | h; omega; rw [← hgi] at h; cases h)]; exact rfl
  clear hgi hgs hgx
  simp only [idxV]
  generalize posN l id = po at *
  go_wp2_with fail
  refine (hWi.out _ hk6).mono ?_; rintro e w7 ⟨v, rfl, m7⟩
  have hmf := Mine.from hk6 m7
  have hr' := hr.out
  subst hr'
  replace hmf := Lib.hid hmf
  go_wp2
  go_ret2
  exact ⟨_, rfl, hmf.out⟩
end Go.Proofs.YteiekfccfddmjaaDoor
