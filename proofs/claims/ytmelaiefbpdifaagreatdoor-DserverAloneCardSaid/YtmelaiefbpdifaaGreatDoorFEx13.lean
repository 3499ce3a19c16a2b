/- execute: a new request is done, and its reply is kept. -/
import Derived.Test.YtmelaiefbpdifaaGreatDoorFTk13
import Derived.Test.YtmelaiefbpdifaaGreatDoorFHr13
namespace Go.Proofs.YtmelaiefbpdifaaGreatDoor.Srv
open Go.RowKit Go.Maps
open Pgs (Pg)
theorem commits5_err {N : Nat} {M M' : List Rw} {s s' : St} {n n' : Nat} {f' : Bool} {l : List Ch} {x : Int} (h : Commits5 N M s n false l x M' s' n' f') : 0 ≤ x ∧ x ≤ 25 := by
 rcases h with ⟨_, rfl, _⟩ | ⟨_, _, rfl, _⟩ | ⟨_, _, _, rfl, _⟩ | ⟨_, _, _, ss, _, _, hc, _⟩
 ·decide
 ·decide
 ·decide
 ·rcases hc with ⟨_, hR, _⟩ | ⟨_, _, _, hx⟩
  ·rcases hR with ⟨_, rfl⟩ | ⟨_, _, rfl⟩ | ⟨_, _, _, rfl⟩ | ⟨_, _, _, rfl⟩ <;> decide
  ·rcases hx with ⟨rfl, _⟩ | ⟨rfl, _⟩ <;> decide
theorem settled_err {N : Nat} {s s' : St} {n n' : Nat} {f' : Bool} {σ σ' : Sv} {x : Nat} {o : List Pg} {ch : List Ch} {e : Int} (h : Settled (C5 N s n s' n' f') σ x o ch e σ') : 0 ≤ e ∧ e ≤ 25 := by
 obtain ⟨M', hc, _⟩ := h
 exact commits5_err hc
theorem did_err {C : Com} {σ σ' : Sv} {p : Pk} {d : List UInt8} {e : Int} (hC : ∀ x o ch σ', Settled C σ x o ch e σ' → 0 ≤ e ∧ e ≤ 25) (h : Did C σ p d e σ') : 0 ≤ e ∧ e ≤ 25 := by
 unfold Did at h
 split at h
 ·obtain ⟨_, rfl, _⟩ := h
  unfold wrE
  split
  ·decide
  ·split
   ·decide
   ·split <;> decide
 ·split at h
  ·obtain ⟨_, rfl, _⟩ := h
   unfold rdE
   split
   ·decide
   ·split <;> decide
  ·split at h
   ·obtain ⟨_, h⟩ := h
    split at h
    ·obtain ⟨rfl, _⟩ := h; decide
    ·exact hC _ _ _ _ h
   ·split at h
    ·obtain ⟨_, h⟩ := h
     split at h
     ·obtain ⟨rfl, _⟩ := h; decide
     ·split at h
      ·obtain ⟨rfl, _⟩ := h; decide
      ·split at h
       ·obtain ⟨rfl, _⟩ := h; decide
       ·exact hC _ _ _ _ h
    ·obtain ⟨_, h⟩ := h
     split at h
     ·obtain ⟨rfl, _⟩ := h; decide
     ·exact hC _ _ _ _ h
theorem dids_err {σ σ' : Sv} {s s' : St} {n n' : Nat} {f' : Bool} {p : Pk} {d : List UInt8} {e : Int} (h : DidS σ s n p d e σ' s' n' f') : 0 ≤ e ∧ e ≤ 25 := by
 rcases h with ⟨h, _⟩ | ⟨h, _⟩
 ·exact did_err (fun x o ch σ' hs => by obtain ⟨_, hc, _⟩ := hs; exact hc.elim) h
 ·exact did_err (fun x o ch σ' hs => settled_err hs) h
theorem did_same {C : Com} {σ σ' : Sv} {p : Pk} {d : List UInt8} {e : Int} (h : Did C σ p d e σ') : σ'.N = σ.N ∧ σ'.me = σ.me ∧ σ'.boot = σ.boot ∧ σ'.up = σ.up ∧ σ'.seat = σ.seat := by
 have hs : ∀ x o ch, Settled C σ x o ch e σ' → σ'.N = σ.N ∧ σ'.me = σ.me ∧ σ'.boot = σ.boot ∧ σ'.up = σ.up ∧ σ'.seat = σ.seat := fun x o ch h => by
  obtain ⟨M', _, rfl⟩ := h
  exact ⟨rfl, rfl, rfl, rfl, rfl⟩
 have hi : σ' = σ → σ'.N = σ.N ∧ σ'.me = σ.me ∧ σ'.boot = σ.boot ∧ σ'.up = σ.up ∧ σ'.seat = σ.seat := fun h => by subst h; exact ⟨rfl, rfl, rfl, rfl, rfl⟩
 unfold Did at h
 split at h
 ·obtain ⟨_, _, rfl⟩ := h
  unfold wrS
  split <;> exact ⟨rfl, rfl, rfl, rfl, rfl⟩
 ·split at h
  ·exact hi h.2.2
  ·split at h
   ·obtain ⟨_, h⟩ := h
    split at h
    ·exact hi h.2
    ·exact hs _ _ _ h
   ·split at h
    ·obtain ⟨_, h⟩ := h
     split at h
     ·exact hi h.2
     ·split at h
      ·exact hi h.2
      ·split at h
       ·exact hi h.2
       ·exact hs _ _ _ h
    ·obtain ⟨_, h⟩ := h
     split at h
     ·exact hi h.2
     ·exact hs _ _ _ h
theorem dids_same {σ σ' : Sv} {s s' : St} {n n' : Nat} {f' : Bool} {p : Pk} {d : List UInt8} {e : Int} (h : DidS σ s n p d e σ' s' n' f') : σ'.N = σ.N ∧ σ'.me = σ.me ∧ σ'.boot = σ.boot ∧ σ'.up = σ.up ∧ σ'.seat = σ.seat := by
 rcases h with ⟨h, _⟩ | ⟨h, _⟩ <;> exact did_same h
theorem replyP_ok {σ : Sv} {p : Pk} {c : Nat} (hσ : σ.Ok c) (hp : p.Ok) (d : List UInt8) (er : Int) (h0 : 0 ≤ er ∧ er ≤ 25) : (replyP σ p d er).Ok := by
 have hm := hσ.me
 have hz : U 0 := by unfold U; decide
 have hf : I p.frm := hp.frm
 refine ⟨?_, ?_, ?_, ?_, ?_, ?_, ?_, ?_, ?_, ?_, ?_, ?_, ?_, ?_, ?_, ?_, ?_⟩
 ·show I 2; unfold I; decide
 ·show I σ.me; unfold I; omega
 ·exact hf
 ·exact hp.life
 ·exact hp.seq
 ·exact hp.asked
 ·exact hσ.boot
 ·exact hp.code
 ·show I er; unfold I; omega
 ·exact hp.file
 all_goals exact hz
theorem writeS_size (r : Pk) : (writeS r).size ≤ 400 := by
 unfold writeS
 split
 ·rename_i h
  rw [strOf_size]
  exact bytesP_most r h
 ·decide
theorem rdD_len (σ : Sv) (p : Pk) : (rdD σ p).length ≤ 128 := by
 unfold rdD
 split
 ·rename_i h
  unfold rdE at h
  split at h
  ·omega
  ·split at h
   ·omega
   ·rename_i h1
    unfold Pgs.bytesL
    split
    ·rw [List.length_take]; omega
    ·simp
 ·simp
section
variable {w w1 : World} {R : List Nat} {sb dp n c rp mb lp lb : Nat} {σ : Sv} {s : St} {F : List Nat} {vs : Nat → Value} {D : DataW Value}
theorem SrvAt.handC (h : SrvAt w w1 R sb dp σ s n false c rp mb lp lb F vs D) (hcc : c < 1000000) (hn : n < 4294967296) (hlate : s.late.length + 200 ≤ 1048576) (p : Pk) (hp : p.Ok) (hsz : p.data.size ≤ 128) (h1 : 1 ≤ p.code) (h5 : p.code ≤ 5) :
  ∃ fid : FuncId, (∀ W, (Instr.index 213 (.agg handA) (.int .i64 p.code)).run Tryz.prog W = .ok (fnV fid) W) ∧ (∀ W a b, (callFunc fid #[a, b]).run Tryz.prog W = .ok (.enter fid #[a, b]) W) ∧
   ∀ W, Only [] w1 W → Calls Tryz.prog fid #[.pointer (some ⟨sb, 0, none⟩), pkV p] W fun e w' => DidM w W w' R sb dp σ s n c p e := by
 have hk : p.code = 1 ∨ p.code = 2 ∨ p.code = 3 ∨ p.code = 4 ∨ p.code = 5 := by omega
 rcases hk with hk | hk | hk | hk | hk
 ·exact ⟨158, fun W => by rw [hk]; kernel_rfl, fun W a b => by kernel_rfl, fun W k => (h.keep k).writeH hcc p hp hsz hk⟩
 ·refine ⟨159, fun W => by rw [hk]; kernel_rfl, fun W a b => by kernel_rfl, fun W k => ((h.keep k).read p hp).mono ?_⟩
  rintro e w' ⟨rfl, k2⟩
  refine did_still ⟨rp, mb, lp, lb, F, vs, D, h.keep k⟩ hcc k2 ?_ (rdD_len σ p)
  unfold Did
  rw [if_neg (by omega), if_pos hk]
  exact ⟨rfl, rfl, rfl⟩
 ·exact ⟨160, fun W => by rw [hk]; kernel_rfl, fun W a b => by kernel_rfl, fun W k => (h.keep k).commitH hcc hn hlate p hp hk⟩
 ·exact ⟨161, fun W => by rw [hk]; kernel_rfl, fun W a b => by kernel_rfl, fun W k => (h.keep k).fenceH hcc hn hlate p hp hk⟩
 ·exact ⟨162, fun W => by rw [hk]; kernel_rfl, fun W a b => by kernel_rfl, fun W k => (h.keep k).freeH hcc hn hlate p hp hk⟩
end
end Go.Proofs.YtmelaiefbpdifaaGreatDoor.Srv
