/- The handlers of a data server: commit. -/
import Derived.Test.YtmelaiefbpdifaaGreatDoorFOp13
namespace Go.Proofs.YtmelaiefbpdifaaGreatDoor.Srv
open Go.RowKit Go.Maps
open Pgs (Pg pgE pgE_length keyB headB find okBytes_of okPut_of errB bytesL okBytes okPut okCut cutL)
def NoC : Com := fun _ _ _ _ => False
def C5 (N : Nat) (s : St) (n : Nat) (s' : St) (n' : Nat) (f' : Bool) : Com := fun M l e M' => Commits5 N M s n false l e M' s' n' f'
def DidS (σ : Sv) (s : St) (n : Nat) (p : Pk) (d : List UInt8) (er : Int) (σ' : Sv) (s' : St) (n' : Nat) (f' : Bool) : Prop :=
 (Did NoC σ p d er σ' ∧ s' = s ∧ n' = n ∧ f' = false) ∨ (Did (C5 σ.N s n s' n' f') σ p d er σ' ∧ ∃ l, Commits5 σ.N σ.M s n false l er σ'.M s' n' f')
def DidM (w w1 w' : World) (R : List Nat) (sb dp : Nat) (σ : Sv) (s : St) (n c : Nat) (p : Pk) (e : Ending) : Prop :=
 ∃ d er σ' s' n' f' R', e = .returned (.tuple #[.string (strOf d), .int .i64 er]) ∧ DidS σ s n p d er σ' s' n' f' ∧ SrvM w w' R' sb dp σ' s' n' f' (c + 1) ∧ Only R w1 w' ∧ (∀ j ∈ R', j ∈ R ∨ w1.heap.size ≤ j) ∧ d.length ≤ 128
theorem Sv.Ok.mono {σ : Sv} {c d : Nat} (h : σ.Ok c) (hd : c ≤ d) : σ.Ok d := ⟨h.good, h.few, h.uniq, h.loose, Nat.le_trans h.len hd, h.seat, h.me, h.boot⟩
theorem SrvM.mono {w w1 : World} {R : List Nat} {sb p n c d : Nat} {σ : Sv} {s : St} {f : Bool} (h : SrvM w w1 R sb p σ s n f c) (hd : c ≤ d) (h2 : d ≤ 1000000) : SrvM w w1 R sb p σ s n f d := by
 obtain ⟨rp, mb, lp, lb, F, vs, D, h⟩ := h
 exact ⟨rp, mb, lp, lb, F, vs, D, h.own, h.hdr, h.loose.mono hd, h.lists, h.ap1, h.ap2, h.ap3, h.inR, h.new, h.len, h.ok.mono hd, h2⟩
theorem did_still {w w1 w' : World} {R : List Nat} {sb dp n c : Nat} {σ : Sv} {s : St} {p : Pk} {d : List UInt8} {er : Int} (h : SrvM w w1 R sb dp σ s n false c) (hc : c < 1000000) (k : Only [] w1 w') (hd : Did NoC σ p d er σ) (hl : d.length ≤ 128) : DidM w w1 w' R sb dp σ s n c p (.returned (.tuple #[.string (strOf d), .int .i64 er])) :=
 ⟨d, er, σ, s, n, false, R, rfl, .inl ⟨hd, rfl, rfl, rfl⟩, (h.keep k).mono (by omega) (by omega), k.more (by simp), fun j hj => .inl hj, hl⟩
theorem did_settled {w w1 w5 w' : World} {R : List Nat} {sb dp n c x : Nat} {σ : Sv} {s : St} {p : Pk} {o : List Pg} {ch : List Ch} {er : Int} {e : Ending} (hc : c < 1000000) (k : Only [] w1 w5) (h : SettledM w w5 w' R sb dp σ s n c x o ch e) (he : e = .returned (.int .i64 er))
  (hd : ∀ C : Com, ∀ σ', Settled C σ x o ch er σ' → Did C σ p [] er σ') : DidM w w1 w' R sb dp σ s n c p (.returned (.tuple #[.string ⟨#[]⟩, .int .i64 er])) := by
 obtain ⟨er', M', s', n', f', R', rfl, hcm, hm, kR, hR⟩ := h
 injection he with he
 injection he with _ he
 subst he
 refine ⟨[], er', turned σ x er' M', s', n', f', R', rfl, .inr ⟨hd _ _ ⟨M', hcm, rfl⟩, _, hcm⟩, hm.mono (by omega) (by omega), (k.more (by simp)).then kR (fun i hi => .inl hi), fun j hj => ?_, by simp⟩
 rcases hR j hj with h' | h'
 ·exact .inl h'
 ·exact .inr (Nat.le_trans k.size h')
section
variable {w w1 : World} {R : List Nat} {sb dp n c rp mb lp lb : Nat} {σ : Sv} {s : St} {F : List Nat} {vs : Nat → Value} {D : DataW Value}
set_option maxRecDepth 100000 in
set_option maxHeartbeats 2000000 in
theorem SrvAt.commitH (h : SrvAt w w1 R sb dp σ s n false c rp mb lp lb F vs D) (hcc : c < 1000000) (hn : n < 4294967296) (hlate : s.late.length + 200 ≤ 1048576) (p : Pk) (hp : p.Ok) (hcode : p.code = 3) :
  Calls Tryz.prog 160 #[.pointer (some ⟨sb, 0, none⟩), pkV p] w1 fun e w' => DidM w w1 w' R sb dp σ s n c p e := by
 have hcur := fun W (k : Only [] w1 W) => (h.keep k).current p hp.file
 have hM : SrvM w w1 R sb dp σ s n false c := ⟨rp, mb, lp, lb, F, vs, D, h⟩
 have hgR : w1.heap.size + 1 ∉ R := fun hm => by have := (h.new _ hm).2; omega
 obtain ⟨f0, f1⟩ := hp.file
 have b0 : Blk (w1.alloc (.cells (pkA p) 53)) w1.heap.size 53 (pkA p) := Blk.new w1 _ _
 have k0 : Only [] w1 (w1.alloc (.cells (pkA p) 53)) := (Only.refl [] w1).alloc _
 have z1 : Blk ((w1.alloc (.cells (pkA p) 53)).alloc (.cells zeroOp 51)) (w1.heap.size + 1) 51 zeroOp := by
  have := Blk.new (w1.alloc (.cells (pkA p) 53)) 51 zeroOp
  rwa [show (w1.alloc (.cells (pkA p) 53)).heap.size = w1.heap.size + 1 by simp] at this
 have k1 := k0.alloc (.cells zeroOp 51)
 cases hc : cur σ.M p.file.toNat p.epoch with
 | false =>
  have hd : Did NoC σ p [] 17 σ := by
   unfold Did
   rw [if_neg (by omega), if_neg (by omega), if_pos hcode, if_pos hc]
   exact ⟨rfl, rfl, rfl⟩
  have hfin := fun W (k : Only [] w1 W) => did_still hM hcc k hd (by simp)
  rw [hc] at hcur
  replace hfin := Lib.hid hfin
  clear h hc hd hM hcode
  go_enter Tryz.func160, Tryz.ntmps160
  go_wp2_with (first
   | (refine wpList_load_op p rfl (.tmp 7) rfl w1.heap.size rfl b0 ?_)
   | (refine wpList_store_op p zeroOp rfl rfl (.tmp 6) (.tmp 8) rfl (w1.heap.size + 1) rfl rfl z1 ?_; intro w2 b2 k2)
   | (refine wpList_load_opB p rfl (.tmp 6) rfl (w1.heap.size + 1) rfl b2 ?_))
  have k12 : Only [] w1 w2 := k1.then k2 (fun i hi => .inr (by simp at hi; omega))
  have o2 : OpB w2 (w1.heap.size + 1) p := ⟨b2⟩
  refine (hcur _ k12).mono ?_; rintro e w3 ⟨rfl, k3⟩
  have k13 := k12.trans k3
  have o3 := o2.kept k3 (by simp)
  clear k2 k3 o2 b2 k12 hcur b0 z1 k0 k1
  go_wp2
  go_ret2
  exact hfin.out _ k13
 | true =>
  rw [hc] at hcur
  have hobj := fun W (k : Only [] w1 W) => (h.keep k).object p.file p.file.toNat (by omega) (by omega)
  have hrt := obj_right h.ok p.file.toNat
  have hset := fun W (k : Only [] w1 W) A j (hA : Els pgE 2 W A (objL σ p.file.toNat)) => (h.keep k).settle hn hlate p.file p.file.toNat (by omega) (by omega) A j _ (objL σ p.file.toNat) rfl hA hrt none 0 0 [] rfl (.inl rfl) (by simp) (by simp [okayC])
  have hdid : ∀ (er : Int) (C : Com) σ', Settled C σ p.file.toNat (objL σ p.file.toNat) [] er σ' → Did C σ p [] er σ' := fun er C σ' hs => by
   unfold Did
   rw [if_neg (by omega), if_neg (by omega), if_pos hcode, if_neg (by rw [hc]; simp)]
   exact ⟨rfl, hs⟩
  clear h hc hM hrt hcode
  generalize objL σ p.file.toNat = ob at *
  replace hobj := Lib.hid hobj
  replace hset := Lib.hid hset
  replace hdid := Lib.hid hdid
  go_enter Tryz.func160, Tryz.ntmps160
  go_wp2_with (first
   | (refine wpList_load_op p rfl (.tmp 7) rfl w1.heap.size rfl b0 ?_)
   | (refine wpList_store_op p zeroOp rfl rfl (.tmp 6) (.tmp 8) rfl (w1.heap.size + 1) rfl rfl z1 ?_; intro w2 b2 k2)
   | (refine wpList_load_opB p rfl (.tmp 6) rfl (w1.heap.size + 1) rfl b2 ?_))
  have k12 : Only [] w1 w2 := k1.then k2 (fun i hi => .inr (by simp at hi; omega))
  have o2 : OpB w2 (w1.heap.size + 1) p := ⟨b2⟩
  refine (hcur _ k12).mono ?_; rintro e w3 ⟨rfl, k3⟩
  have k13 := k12.trans k3
  have o3 := o2.kept k3 (by simp)
  clear k2 k3 o2 b2 k12 hcur b0 z1 k0 k1
  obtain ⟨m, hm⟩ : ∃ m, m = ob.length := ⟨_, rfl⟩
  replace hm := Lib.hid hm
  go_wp2_with fail
  have kd : Only [] w1 w3.drew := k13.drew
  have od := o3.kept ((Only.refl [] w3).drew) (by simp)
  generalize w1.heap.size + 1 = g at *
  obtain ⟨c2, _⟩ := od.cells
  refine wp_region_held_drew (S := fun w' => w'.cell? ⟨g, 2, none⟩ = some (.int .u32 p.file)) (by kernel_rfl) c2 (fun hHeld => ?_)
  generalize w3.drew = wd at *
  refine held_take 0 (.pointer (some ⟨sb, 0, none⟩)) rfl (by kernel_rfl) (by kernel_rfl) (by kernel_rfl) (fun _ _ _ h => h) hHeld (Or.inl ⟨by rfl, fun w' hSw => by (try dsimp only at hSw); (try subst hSw); go_simp⟩) ?_
  simp only [Act.put, List.setIfInBounds_toArray, List.set_cons_zero, List.set_cons_succ]
  refine held_take 1 (.pointer (some ⟨g, 2, none⟩)) rfl (by kernel_rfl) (by kernel_rfl) (by kernel_rfl) (fun _ _ _ h => h) hHeld (Or.inl ⟨by rfl, fun w' hSw => by (try dsimp only at hSw); (try subst hSw); go_simp⟩) ?_
  simp only [Act.put, List.setIfInBounds_toArray, List.set_cons_zero, List.set_cons_succ]
  refine held_take 2 (.int .u32 p.file) rfl (by kernel_rfl) (by kernel_rfl) (by kernel_rfl) (fun _ _ _ h => h) hHeld (Or.inl ⟨by rfl, fun w' hSw => by (try dsimp only at hSw); (try subst hSw); go_simp⟩) ?_
  simp only [Act.put, List.setIfInBounds_toArray, List.set_cons_zero, List.set_cons_succ]
  refine held_take 3 (.pointer (some ⟨sb, 0, none⟩)) rfl (by kernel_rfl) (by kernel_rfl) (by kernel_rfl) (fun _ _ _ h => h) hHeld (Or.inl ⟨by rfl, fun w' hSw => by (try dsimp only at hSw); (try subst hSw); go_simp⟩) ?_
  simp only [Act.put, List.setIfInBounds_toArray, List.set_cons_zero, List.set_cons_succ]
  refine held_take 4 (.pointer (some ⟨g, 2, none⟩)) rfl (by kernel_rfl) (by kernel_rfl) (by kernel_rfl) (fun _ _ _ h => h) hHeld (Or.inl ⟨by rfl, fun w' hSw => by (try dsimp only at hSw); (try subst hSw); go_simp⟩) ?_
  simp only [Act.put, List.setIfInBounds_toArray, List.set_cons_zero, List.set_cons_succ]
  refine held_take 5 (.int .u32 p.file) rfl (by kernel_rfl) (by kernel_rfl) (by kernel_rfl) (fun _ _ _ h => h) hHeld (Or.inl ⟨by rfl, fun w' hSw => by (try dsimp only at hSw); (try subst hSw); go_simp⟩) ?_
  simp only [Act.put, List.setIfInBounds_toArray, List.set_cons_zero, List.set_cons_succ]
  refine held_step 6 rfl (by kernel_rfl) (fun K hK => ?_)
  go_simp
  refine (hobj.out _ kd).mono ?_; rintro e w5 ⟨v, rfl, A, k, rfl, _, hE, k5, _⟩
  have x2 := k5.cell c2 (by simp)
  have k15 := kd.trans k5
  rw [← hm.out]
  go_wp2_with fail
  refine hK.out _ _ x2 (fun hHeld => ?_)
  clear hK K
  refine held_step 7 rfl (by kernel_rfl) (fun K hK => ?_)
  go_simp
  rw [hm.out]
  refine (hset.out _ k15 A k hE).mono ?_
  intro e w6 hse
  have hse2 := hse
  obtain ⟨er, _, _, _, _, _, rfl, _, _, kR6, _⟩ := hse2
  have x6 := kR6.cell x2 hgR
  have hfin := did_settled hcc k15 hse rfl (hdid.out er)
  replace hfin := Lib.hid hfin
  clear hse
  clear kR6
  go_wp2_with fail
  refine hK.out _ _ x6 (fun hHeld => ?_)
  clear hK K
  refine held_take 8 (.string ⟨#[]⟩) rfl (by kernel_rfl) (by kernel_rfl) (by kernel_rfl) (fun _ _ _ h => h) hHeld (Or.inl ⟨by rfl, fun w' hSw => by (try dsimp only at hSw); (try subst hSw); go_simp⟩) ?_
  simp only [Act.put, List.setIfInBounds_toArray, List.set_cons_zero, List.set_cons_succ]
  refine held_take 9 (.int .i64 er) rfl (by kernel_rfl) (by kernel_rfl) (by kernel_rfl) (fun _ _ _ h => h) hHeld (Or.inl ⟨by rfl, fun w' hSw => by (try dsimp only at hSw); (try subst hSw); go_simp⟩) ?_
  simp only [Act.put, List.setIfInBounds_toArray, List.set_cons_zero, List.set_cons_succ]
  refine wpAnyH_done (by kernel_rfl) ?_ _
  clear hHeld
  go_wp2
  go_ret2
  exact hfin.out
end
end Go.Proofs.YtmelaiefbpdifaaGreatDoor.Srv
