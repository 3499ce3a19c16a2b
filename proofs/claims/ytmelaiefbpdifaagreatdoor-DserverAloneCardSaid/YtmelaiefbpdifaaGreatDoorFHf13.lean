/- The handlers of a data server: free. -/
import Derived.Test.YtmelaiefbpdifaaGreatDoorFHc13
namespace Go.Proofs.YtmelaiefbpdifaaGreatDoor.Srv
open Go.RowKit Go.Maps
open Pgs (Pg pgE pgE_length keyB headB find okBytes_of okPut_of errB bytesL okBytes okPut okCut cutL)
section
variable {w w1 : World} {R : List Nat} {sb dp n c rp mb lp lb : Nat} {σ : Sv} {s : St} {F : List Nat} {vs : Nat → Value} {D : DataW Value}
theorem chE_new {w : World} {ks vs : ByteArray} {gn : Bool} {kl vl : List UInt8} (h1 : strOf kl = ks) (h2 : strOf vl = vs) : Els chE 3 (w.alloc (.cells #[.string ks, .string vs, .bool gn] 133)) (some ⟨w.heap.size, 0, none⟩) [⟨kl, vl, gn⟩] := by
 refine els_blk (ty := 133) ?_
 have := Blk.new w 133 #[.string ks, .string vs, .bool gn]
 rw [← h1, ← h2] at this
 rw [← h1, ← h2]
 exact this
set_option maxRecDepth 100000 in
set_option maxHeartbeats 2000000 in
theorem SrvAt.freeH (h : SrvAt w w1 R sb dp σ s n false c rp mb lp lb F vs D) (hcc : c < 1000000) (hn : n < 4294967296) (hlate : s.late.length + 200 ≤ 1048576) (p : Pk) (hp : p.Ok) (hcode : p.code = 5) :
  Calls Tryz.prog 162 #[.pointer (some ⟨sb, 0, none⟩), pkV p] w1 fun e w' => DidM w w1 w' R sb dp σ s n c p e := by
 have hM : SrvM w w1 R sb dp σ s n false c := ⟨rp, mb, lp, lb, F, vs, D, h⟩
 obtain ⟨f0, f1⟩ := hp.file
 have b0 : Blk (w1.alloc (.cells (pkA p) 53)) w1.heap.size 53 (pkA p) := Blk.new w1 _ _
 have k0 : Only [] w1 (w1.alloc (.cells (pkA p) 53)) := (Only.refl [] w1).alloc _
 have c1 := b0.cell 1
 have c9 := b0.cell 9
 simp only [List.getElem?_toArray, List.getElem?_cons_zero, List.getElem?_cons_succ] at c1 c9
 by_cases hz : p.frm = 0
 ·have hset := fun W (k : Only [] w1 W) B (hB : Els chE 3 W B (frCh p)) => (h.keep k).settle hn hlate p.file p.file.toNat (by omega) (by omega) none 0 0 [] rfl (.inl rfl) rfl B 1 1 (frCh p) rfl hB (by simp [frCh]) (by simp [okayC, frCh, eK_length])
  have hdid : ∀ (er : Int) (C : Com) σ', Settled C σ p.file.toNat [] (frCh p) er σ' → Did C σ p [] er σ' := fun er C σ' hs => by
   unfold Did
   rw [if_neg (by omega), if_neg (by omega), if_neg (by omega), if_neg (by omega), if_neg (by rw [hz]; simp)]
   exact ⟨rfl, hs⟩
  have hkey := fun W => epochKey_any W p.file p.file.toNat (by omega) (by omega)
  have hfr : frCh p = [⟨eK p.file.toNat, [], true⟩] := rfl
  obtain ⟨ks, hks⟩ : ∃ ks, strOf (eK p.file.toNat) = ks := ⟨_, rfl⟩
  simp only [hks] at hkey
  replace hset := Lib.hid hset
  replace hdid := Lib.hid hdid
  replace hkey := Lib.hid hkey
  replace hfr := Lib.hid hfr
  replace hks := Lib.hid hks
  replace b0 := Lib.hid b0
  clear h hM hcode
  have c1' : (w1.alloc (.cells (pkA p) 53)).cell? ⟨w1.heap.size, 1, none⟩ = some (.int .i64 0) := by rw [c1, hz]
  clear c1 hz
  go_enter Tryz.func162, Tryz.ntmps162
  go_wp2_with fail
  refine (hkey.out _).mono ?_; rintro e w2 ⟨rfl, k2⟩
  have k12 := k0.trans k2
  have k3 : Only [] w1 (w2.alloc (.cells #[.string ks, .string ⟨#[]⟩, .bool true] 133)) := k12.alloc _
  have hE := chE_new (w := w2) (gn := true) hks.out (vl := []) rfl
  rw [← hfr.out] at hE
  replace hE := Lib.hid hE
  clear k2 k12 k0 c1' c9
  go_wp2_with fail
  refine (hset.out _ k3 _ hE.out).mono ?_
  intro e w6 hse
  have hse2 := hse
  obtain ⟨er, _, _, _, _, _, rfl, _, _, kR6, _⟩ := hse2
  have hfin := did_settled hcc k3 hse rfl (hdid.out er)
  replace hfin := Lib.hid hfin
  clear hse kR6
  go_wp2
  go_ret2
  exact hfin.out
 ·have hd : Did NoC σ p [] 1 σ := by
   unfold Did
   rw [if_neg (by omega), if_neg (by omega), if_neg (by omega), if_neg (by omega), if_pos hz]
   exact ⟨rfl, rfl, rfl⟩
  have hfin := did_still hM hcc k0 hd (by simp)
  replace hfin := Lib.hid hfin
  have hz2 : (p.frm != 0) = true := by rw [bne_iff_ne]; exact hz
  clear h hd hM hcode b0
  go_enter Tryz.func162, Tryz.ntmps162
  go_wp2
  go_ret2
  exact hfin.out
end
end Go.Proofs.YtmelaiefbpdifaaGreatDoor.Srv
