/- What alive asks, as plain functions. -/
import Derived.Test.YtmelaiefbpdifaaGreatDoorFLv13
namespace Go.Proofs.YtmelaiefbpdifaaGreatDoor.Srv
open Go.RowKit Go.Maps
open Pgs (Pg keyB headB find allZ chgL)
def opP (code file epoch off len size : Int) (data : ByteArray) : Pk := ⟨0, 0, 0, 0, 0, 0, 0, code, 0, file, epoch, off, len, size, 0, 0, 0, ⟨#[]⟩, ⟨#[]⟩, data⟩
def askP (fr sq bo : Int) (o : Pk) : Pk := ⟨1, fr, 1, 1, sq, bo, 0, o.code, o.err, o.file, o.epoch, o.off, o.len, o.size, o.mode, o.deny, o.handle, o.path, o.other, o.data⟩
def al1 : Pk := askP 0 1 1 (opP 4 7 1 0 0 1024 ⟨#[]⟩)
def al2 : Pk := askP 17 1 1 (opP 1 7 2 0 0 0 ⟨#[120]⟩)
def al3 : Pk := askP 17 2 1 (opP 1 7 1 3 0 0 ⟨#[97, 98, 99]⟩)
def al4 : Pk := askP 17 3 1 (opP 2 7 1 2 5 0 ⟨#[]⟩)
theorem len_after {N : Nat} {M M' : List Rw} {l : List Ch} (hM' : Good N M') (h : ∀ k, getR M' k = afterK l M k) : M'.length ≤ M.length + l.length := by
 have hn : (M'.map Rw.key).Nodup := nodup_map_of hM'.sorted.keys
 have := nodup_le (M'.map Rw.key) (M.map Rw.key ++ l.map Ch.key) hn (fun k hk => by
  obtain ⟨r, hr, rfl⟩ := List.mem_map.1 hk
  have hg : getR M' r.key = some r.val := by rw [getR, findR_of hM'.sorted hr]; rfl
  rw [h] at hg
  unfold afterK at hg
  rw [List.mem_append]
  cases hh : hitL l r.key with
  | some c =>
   obtain ⟨hc, hk⟩ := hitL_some hh
   exact .inr (List.mem_map.2 ⟨c, hc, hk⟩)
  | none =>
   rw [hh] at hg
   obtain ⟨r', _, hr', hk', _⟩ := getR_some hg
   exact .inl (List.mem_map.2 ⟨r', hr', hk'⟩))
 simpa using this
theorem handled_new {C : Com} {σ σ' : Sv} {p r : Pk} {ok : Bool} (h : Handled C σ p r ok σ') (hu : σ.up = true) (ht : takes σ p) (ha : p.asked = σ.boot) (hj : judgeP σ p = 1) : Executed C σ p r ok σ' := by
 rcases h with ⟨h1, _⟩ | ⟨_, h1, _⟩ | ⟨_, _, _, h1⟩ | ⟨_, _, h1, _⟩ | ⟨_, _, h1, _⟩
 ·exact absurd ⟨hu, ht⟩ h1
 ·exact absurd ha h1
 ·exact h1
 ·omega
 ·omega
theorem exec_live {σ σ' : Sv} {p r : Pk} {ok : Bool} (h : Executed (Puts σ.N) σ p r ok σ') : ∃ d e σ1, Did (Puts σ.N) σ p d e σ1 ∧ r = replyP σ p d e ∧ ok = true ∧ σ' = setSeat σ1 p.frm.toNat (doneL (σ.seat p.frm.toNat) p.life p.seq (writeS (replyP σ p d e))) := by
 obtain ⟨d, e, σ1, h1, h2⟩ := h
 rcases h2 with ⟨h5, _⟩ | ⟨_, h2⟩
 ·exact absurd h5 (did_not5 (fun x o ch hs => settled_puts5 hs) h1)
 ·exact ⟨d, e, σ1, h1, h2⟩
theorem j11 : judgeL noSeat 1 1 = 1 := by unfold judgeL noSeat; simp
theorem j12 (a : ByteArray) : judgeL ⟨1, 1, a⟩ 1 2 = 1 := by simp [judgeL]
theorem j13 (a : ByteArray) : judgeL ⟨1, 2, a⟩ 1 3 = 1 := by simp [judgeL]
theorem done_one (b : ByteArray) : doneL noSeat 1 1 b = ⟨1, 1, b⟩ := by unfold doneL; rw [if_pos j11]
theorem done_two (a b : ByteArray) : doneL ⟨1, 1, a⟩ 1 2 b = ⟨1, 2, b⟩ := by unfold doneL; rw [if_pos (j12 a)]
set_option maxRecDepth 100000 in
theorem right_al : al1.Right ∧ al2.Right ∧ al3.Right ∧ al4.Right := by decide +kernel
theorem alive_pure {M0 : List Rw} {σ1 σ2 σ3 σ4 : Sv} {r1 r2 r3 r4 : Pk} {k1 k2 k3 k4 : Bool} (hG : Good 99 M0) (hM0 : ∀ k, getR M0 k = afterK (boCh 1) [] k)
  (h1 : Handled (Puts 99) (srv0 99 1 1 M0) al1 r1 k1 σ1) (h2 : Handled (Puts σ1.N) σ1 al2 r2 k2 σ2) (h3 : Handled (Puts σ2.N) σ2 al3 r3 k3 σ3) (h4 : Handled (Puts σ3.N) σ3 al4 r4 k4 σ4) :
  (k1 = true ∧ r1.err = 0) ∧ (k2 = true ∧ r2.err = 17) ∧ (k3 = true ∧ r3.err = 0) ∧ (k4 = true ∧ r4.data = ⟨#[0, 97, 98, 99, 0]⟩) ∧ sureL σ4.M 7 = [] ∧ (objL σ4 7).length = 1 ∧ epN σ4.M 7 = 1 := by
 obtain ⟨R1, R2, R3, R4⟩ := right_al
 have hS0 := snd_nil
 obtain ⟨b1, b2, b3, b4⟩ := boot_ok (N := 99) snd_nil hG hM0
 have hl0 : M0.length ≤ 1 := len_after hG hM0
 have he0 : getR M0 (eK 7) = none := by rw [b4 _ (eK_ne_bK 7)]; rfl
 have hs0 : sureL M0 7 = [] := by rw [b1 7 (by decide)]; exact sure_nil0 7
 have x1 := exec_live (handled_new h1 rfl ⟨R1, rfl, rfl, by decide, by decide⟩ rfl (by show judgeL noSeat 1 1 = 1; exact j11))
 obtain ⟨d1, e1, τ1, hd1, hr1, hk1, hσ1⟩ := x1
 have hd1' := hd1
 unfold Did at hd1'
 rw [if_neg (by decide), if_neg (by decide), if_neg (by decide), if_pos (by decide), if_neg (by decide)] at hd1'
 have hep : epN M0 7 = 0 := by unfold epN; rw [he0]; rfl
 obtain ⟨_, hd1'⟩ := hd1'
 change (if al1.epoch < (epN M0 7 : Int) ∨ al1.epoch = 0 then _ else if (epN M0 7 : Int) = al1.epoch then _ else Settled _ (srv0 99 1 1 M0) 7 (Pgs.cutL (objL (srv0 99 1 1 M0) 7) (min 1024 1024)) (feCh al1) e1 τ1) at hd1'
 rw [hep, if_neg (by decide), if_neg (by decide)] at hd1'
 have ho0 : objL (srv0 99 1 1 M0) 7 = [] := hs0
 rw [ho0, show Pgs.cutL [] (min 1024 1024) = [] by decide +kernel] at hd1'
 obtain ⟨M1, hp1, hτ1⟩ := hd1'
 have hc1 : ChOk 7 (feCh al1) := ChOk.fe al1
 have hq1 := set_puts (by rfl) hc1 hp1
 rcases hq1 with ⟨_, _, hfull⟩ | ⟨he1, hG1, hM1⟩
 ·exfalso; change 99 < M0.length + 33 at hfull; omega
 subst he1
 have hS1 := set_ok b2 (by decide) (by rfl) hc1 hG1 hM1
 have hl1 : M1.length ≤ 34 := by
  have := len_after hG1 hM1
  change M1.length ≤ M0.length + (setCh M0 7 [] (feCh al1)).length at this
  have h4 : (setCh M0 7 [] (feCh al1)).length ≤ 33 := by
   unfold setCh
   have := Pgs.chgL_len 7 (sureL M0 7) []
   have := hc1.len
   rw [List.length_append]; omega
  omega
 have he1' : getR M1 (eK 7) = some (be4 1) := by
  rw [hS1.ep]
  show afterK [⟨eK 7, be4 1, false⟩] M0 (eK 7) = some (be4 1)
  unfold afterK hitL
  simp
 have hs1 : sureL M1 7 = [] := hS1.it
 have hcur1 : ∀ e : Int, cur M1 7 e = (1 == e) := fun e => by
  unfold cur epB epN
  rw [he1']
  simp only [Option.isSome_some, Option.getD_some, Bool.true_and]
  rw [numOf_be4 1 (by decide)]
  rfl
 have hσ1' : σ1 = setSeat (turned (srv0 99 1 1 M0) 7 0 M1) 0 (doneL noSeat 1 1 (writeS (replyP (srv0 99 1 1 M0) al1 d1 0))) := by rw [hσ1, hτ1]; rfl
 have x2 := exec_live (handled_new h2 (by rw [hσ1']; rfl) (by rw [hσ1']; exact ⟨R2, rfl, rfl, by decide, by decide⟩) (by rw [hσ1']; rfl) (by rw [hσ1']; show judgeL noSeat 1 1 = 1; exact j11))
 obtain ⟨d2, e2, τ2, hd2, hr2, hk2, hσ2⟩ := x2
 unfold Did at hd2
 rw [if_pos (by decide)] at hd2
 obtain ⟨_, he2, hτ2⟩ := hd2
 have hw2 : wrE σ1 al2 = 17 := by
  unfold wrE
  rw [if_pos]
  rw [hσ1']
  show cur M1 7 2 = false
  rw [hcur1]; rfl
 rw [hw2] at he2
 subst he2
 have hτ2' : τ2 = σ1 := by rw [hτ2]; unfold wrS; rw [if_neg (by rw [hw2]; decide)]
 have hσ2' : σ2 = setSeat σ1 17 (doneL (σ1.seat 17) 1 1 (writeS (replyP σ1 al2 d2 17))) := by rw [hσ2, hτ2']; rfl
 have hs17 : σ1.seat 17 = noSeat := by rw [hσ1']; rfl
 rw [hs17, done_one] at hσ2'
 have x3 := exec_live (handled_new h3 (by rw [hσ2', hσ1']; rfl) (by rw [hσ2', hσ1']; exact ⟨R3, rfl, rfl, by decide, by decide⟩) (by rw [hσ2', hσ1']; rfl) (by rw [hσ2']; exact j12 _))
 obtain ⟨d3, e3, τ3, hd3, hr3, hk3, hσ3⟩ := x3
 unfold Did at hd3
 rw [if_pos (by decide)] at hd3
 obtain ⟨_, he3, hτ3⟩ := hd3
 have hM2 : σ2.M = M1 := by rw [hσ2', hσ1']; rfl
 have hL2 : σ2.L = [] := by rw [hσ2', hσ1']; rfl
 have hN2 : σ2.N = 99 := by rw [hσ2', hσ1']; rfl
 have hwas : wasO σ2 al3 = [] := by
  unfold wasO objL
  rw [hM2, hL2]
  exact hs1
 have hnow : nowO σ2 al3 = Pgs.putL [] 3 [97, 98, 99] := by unfold nowO; rw [hwas]; rfl
 have hn1 : (Pgs.putL [] 3 [97, 98, 99]).length = 1 := by decide +kernel
 have hw3 : wrE σ2 al3 = 0 := by
  unfold wrE
  rw [if_neg, if_neg (by decide), if_neg]
  ·rintro ⟨_, hroom⟩
   have hm : moreI σ2 al3 ≤ 1 := by
    unfold moreI
    rw [hnow, hwas]
    have := fresh_le σ2.M al3.file.toNat (Pgs.putL [] 3 [97, 98, 99])
    omega
   have hr : 1 ≤ roomI σ2 := by
    unfold roomI sumF
    rw [hM2, hL2, hN2]
    simp only [List.map_nil, List.sum_nil]
    omega
   omega
  ·rw [hM2]
   show ¬ cur M1 7 1 = false
   rw [hcur1]; decide
 rw [hw3] at he3
 subst he3
 have hτ3' : τ3 = { σ2 with L := putLo [] 7 (Pgs.putL [] 3 [97, 98, 99]) } := by
  rw [hτ3]
  unfold wrS
  rw [if_pos hw3, hnow, hL2]
  rfl
 have hσ3' : σ3 = setSeat { σ2 with L := putLo [] 7 (Pgs.putL [] 3 [97, 98, 99]) } 17 (doneL (σ2.seat 17) 1 2 (writeS (replyP σ2 al3 d3 0))) := by rw [hσ3, hτ3']; rfl
 have hj2 : σ2.seat 17 = ⟨1, 1, writeS (replyP σ1 al2 d2 17)⟩ := by rw [hσ2']; rfl
 rw [hj2, done_two] at hσ3'
 have hb2 : σ2.boot = 1 ∧ σ2.me = 1 ∧ σ2.up = true := by rw [hσ2', hσ1']; exact ⟨rfl, rfl, rfl⟩
 have x4 := exec_live (handled_new h4 (by rw [hσ3']; exact hb2.2.2) (by rw [hσ3']; exact ⟨R4, rfl, hb2.2.1.symm, by decide, by decide⟩) (by rw [hσ3']; exact hb2.1.symm) (by rw [hσ3']; exact j13 _))
 obtain ⟨d4, e4, τ4, hd4, hr4, hk4, hσ4⟩ := x4
 unfold Did at hd4
 rw [if_neg (by decide), if_pos (by decide)] at hd4
 obtain ⟨hd4, he4, hτ4⟩ := hd4
 have hM3 : σ3.M = M1 := by rw [hσ3']; exact hM2
 have ho3 : objL σ3 7 = Pgs.putL [] 3 [97, 98, 99] := by
  rw [hσ3']
  show (lookL (putLo [] 7 (Pgs.putL [] 3 [97, 98, 99])) 7).getD _ = _
  rw [look_put_same, Option.getD_some]
 have hrE : rdE σ3 al4 = 0 := by
  unfold rdE
  rw [if_neg, if_neg (by decide)]
  rw [hM3]
  show ¬ cur M1 7 1 = false
  rw [hcur1]; decide
 have hdd : d4 = [0, 97, 98, 99, 0] := by
  rw [hd4]
  unfold rdD
  rw [if_pos hrE]
  show Pgs.bytesL (objL σ3 7) 2 5 = _
  rw [ho3]
  decide +kernel
 have hM4 : σ4.M = M1 := by rw [hσ4, hτ4]; exact hM3
 have ho4 : objL σ4 7 = Pgs.putL [] 3 [97, 98, 99] := by rw [hσ4, hτ4]; exact ho3
 refine ⟨⟨hk1, by rw [hr1]; rfl⟩, ⟨hk2, by rw [hr2]; rfl⟩, ⟨hk3, by rw [hr3]; rfl⟩, ⟨hk4, ?_⟩, by rw [hM4]; exact hs1, by rw [ho4]; exact hn1, ?_⟩
 ·rw [hr4, hdd]; rfl
 ·rw [hM4]
  unfold epN
  rw [he1']
  exact numOf_be4 1 (by decide)
end Go.Proofs.YtmelaiefbpdifaaGreatDoor.Srv
