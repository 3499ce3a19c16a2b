/- Joined: Ex13, Ey13, Ez13 -/
import Derived.Test.YtmelaiefbpdifaaGreatDoorGTk13
import Derived.Test.YtmelaiefbpdifaaGreatDoorGK3
namespace Go.Proofs.YtmelaiefbpdifaaGreatDoor.Srv
open Go.RowKit Go.Maps
open Pgs (Pg)
theorem commits5_err {N : Nat} {M M' : List Rw} {s s' : St} {n n' : Nat} {f' : Bool} {l : List Ch} {x : Int} (h : Commits5 N M s n false l x M' s' n' f') : 0 ≤ x ∧ x ≤ 25 := by
 rcases h with ⟨_, rfl, _⟩ | ⟨_, _, rfl, _⟩ | ⟨_, _, _, rfl, _⟩ | ⟨_, _, _, ss, _, _, hc, _⟩
 ·decide
 ·decide
 ·decide
 ·rcases hc with ⟨_, hR, _⟩ | ⟨_, _, _, hx⟩
  ·rcases hR with ⟨_, rfl⟩ | ⟨_, _, rfl⟩ | ⟨_, _, _, rfl⟩ | ⟨_, _, _, rfl⟩ <;> decide
  ·rcases hx with ⟨rfl, _⟩ | ⟨rfl, _⟩ <;> decide
theorem settled_err {N : Nat} {s s' : St} {n n' : Nat} {f' : Bool} {σ σ' : Sv} {x : Nat} {o : List Pg} {ch : List Ch} {e : Int} (h : Settled (C5 N s n s' n' f') σ x o ch e σ') : 0 ≤ e ∧ e ≤ 25 := by
 obtain ⟨M', hc, _⟩ := h
 exact commits5_err hc
theorem did_err {C : Com} {σ σ' : Sv} {p : Pk} {d : List UInt8} {e : Int} (hC : ∀ x o ch σ', Settled C σ x o ch e σ' → 0 ≤ e ∧ e ≤ 25) (h : Did C σ p d e σ') : 0 ≤ e ∧ e ≤ 25 := by
 unfold Did at h
 split at h
 ·obtain ⟨_, rfl, _⟩ := h
  unfold wrE
  split
  ·decide
  ·split
   ·decide
   ·split <;> decide
 ·split at h
  ·obtain ⟨_, rfl, _⟩ := h
   unfold rdE
   split
   ·decide
   ·split <;> decide
  ·split at h
   ·obtain ⟨_, h⟩ := h
    split at h
    ·obtain ⟨rfl, _⟩ := h; decide
    ·exact hC _ _ _ _ h
   ·split at h
    ·obtain ⟨_, h⟩ := h
     split at h
     ·obtain ⟨rfl, _⟩ := h; decide
     ·split at h
      ·obtain ⟨rfl, _⟩ := h; decide
      ·split at h
       ·obtain ⟨rfl, _⟩ := h; decide
       ·exact hC _ _ _ _ h
    ·obtain ⟨_, h⟩ := h
     split at h
     ·obtain ⟨rfl, _⟩ := h; decide
     ·exact hC _ _ _ _ h
theorem dids_err {σ σ' : Sv} {s s' : St} {n n' : Nat} {f' : Bool} {p : Pk} {d : List UInt8} {e : Int} (h : DidS σ s n p d e σ' s' n' f') : 0 ≤ e ∧ e ≤ 25 := by
 rcases h with ⟨h, _⟩ | ⟨h, _⟩
 ·exact did_err (fun x o ch σ' hs => by obtain ⟨_, hc, _⟩ := hs; exact hc.elim) h
 ·exact did_err (fun x o ch σ' hs => settled_err hs) h
theorem did_same {C : Com} {σ σ' : Sv} {p : Pk} {d : List UInt8} {e : Int} (h : Did C σ p d e σ') : σ'.N = σ.N ∧ σ'.me = σ.me ∧ σ'.boot = σ.boot ∧ σ'.up = σ.up ∧ σ'.seat = σ.seat := by
 have hs : ∀ x o ch, Settled C σ x o ch e σ' → σ'.N = σ.N ∧ σ'.me = σ.me ∧ σ'.boot = σ.boot ∧ σ'.up = σ.up ∧ σ'.seat = σ.seat := fun x o ch h => by
  obtain ⟨M', _, rfl⟩ := h
  exact ⟨rfl, rfl, rfl, rfl, rfl⟩
 have hi : σ' = σ → σ'.N = σ.N ∧ σ'.me = σ.me ∧ σ'.boot = σ.boot ∧ σ'.up = σ.up ∧ σ'.seat = σ.seat := fun h => by subst h; exact ⟨rfl, rfl, rfl, rfl, rfl⟩
 unfold Did at h
 split at h
 ·obtain ⟨_, _, rfl⟩ := h
  unfold wrS
  split <;> exact ⟨rfl, rfl, rfl, rfl, rfl⟩
 ·split at h
  ·exact hi h.2.2
  ·split at h
   ·obtain ⟨_, h⟩ := h
    split at h
    ·exact hi h.2
    ·exact hs _ _ _ h
   ·split at h
    ·obtain ⟨_, h⟩ := h
     split at h
     ·exact hi h.2
     ·split at h
      ·exact hi h.2
      ·split at h
       ·exact hi h.2
       ·exact hs _ _ _ h
    ·obtain ⟨_, h⟩ := h
     split at h
     ·exact hi h.2
     ·exact hs _ _ _ h
theorem dids_same {σ σ' : Sv} {s s' : St} {n n' : Nat} {f' : Bool} {p : Pk} {d : List UInt8} {e : Int} (h : DidS σ s n p d e σ' s' n' f') : σ'.N = σ.N ∧ σ'.me = σ.me ∧ σ'.boot = σ.boot ∧ σ'.up = σ.up ∧ σ'.seat = σ.seat := by
 rcases h with ⟨h, _⟩ | ⟨h, _⟩ <;> exact did_same h
theorem replyP_ok {σ : Sv} {p : Pk} {c : Nat} (hσ : σ.Ok c) (hp : p.Ok) (d : List UInt8) (er : Int) (h0 : 0 ≤ er ∧ er ≤ 25) : (replyP σ p d er).Ok := by
 have hm := hσ.me
 have hz : U 0 := by unfold U; decide
 have hf : I p.frm := hp.frm
 refine ⟨?_, ?_, ?_, ?_, ?_, ?_, ?_, ?_, ?_, ?_, ?_, ?_, ?_, ?_, ?_, ?_, ?_⟩
 ·show I 2; unfold I; decide
 ·show I σ.me; unfold I; omega
 ·exact hf
 ·exact hp.life
 ·exact hp.seq
 ·exact hp.asked
 ·exact hσ.boot
 ·exact hp.code
 ·show I er; unfold I; omega
 ·exact hp.file
 all_goals exact hz
theorem writeS_size (r : Pk) : (writeS r).size ≤ 400 := by
 unfold writeS
 split
 ·rename_i h
  rw [strOf_size]
  exact bytesP_most r h
 ·decide
theorem rdD_len (σ : Sv) (p : Pk) : (rdD σ p).length ≤ 128 := by
 unfold rdD
 split
 ·rename_i h
  unfold rdE at h
  split at h
  ·omega
  ·split at h
   ·omega
   ·rename_i h1
    unfold Pgs.bytesL
    split
    ·rw [List.length_take]; omega
    ·simp
 ·simp
section
variable {w w1 : World} {R : List Nat} {sb dp n c rp mb lp lb : Nat} {σ : Sv} {s : St} {F : List Nat} {vs : Nat → Value} {D : DataW Value}
theorem SrvAt.handC (h : SrvAt w w1 R sb dp σ s n false c rp mb lp lb F vs D) (hcc : c < 1000000) (hn : n < 4294967296) (hlate : s.late.length + 200 ≤ 1048576) (p : Pk) (hp : p.Ok) (hsz : p.data.size ≤ 128) (h1 : 1 ≤ p.code) (h5 : p.code ≤ 5) :
  ∃ fid : FuncId, (∀ W, (Instr.index 213 (.agg handA) (.int .i64 p.code)).run Tryz.prog W = .ok (fnV fid) W) ∧ (∀ W a b, (callFunc fid #[a, b]).run Tryz.prog W = .ok (.enter fid #[a, b]) W) ∧
   ∀ W, Only [] w1 W → Calls Tryz.prog fid #[.pointer (some ⟨sb, 0, none⟩), pkV p] W fun e w' => DidM w W w' R sb dp σ s n c p e := by
 have hk : p.code = 1 ∨ p.code = 2 ∨ p.code = 3 ∨ p.code = 4 ∨ p.code = 5 := by omega
 rcases hk with hk | hk | hk | hk | hk
 ·exact ⟨158, fun W => by rw [hk]; kernel_rfl, fun W a b => by kernel_rfl, fun W k => (h.keep k).writeH hcc p hp hsz hk⟩
 ·refine ⟨159, fun W => by rw [hk]; kernel_rfl, fun W a b => by kernel_rfl, fun W k => ((h.keep k).read p hp).mono ?_⟩
  rintro e w' ⟨rfl, k2⟩
  refine did_still ⟨rp, mb, lp, lb, F, vs, D, h.keep k⟩ hcc k2 ?_ (rdD_len σ p)
  unfold Did
  rw [if_neg (by omega), if_pos hk]
  exact ⟨rfl, rfl, rfl⟩
 ·exact ⟨160, fun W => by rw [hk]; kernel_rfl, fun W a b => by kernel_rfl, fun W k => (h.keep k).commitH hcc hn hlate p hp hk⟩
 ·exact ⟨161, fun W => by rw [hk]; kernel_rfl, fun W a b => by kernel_rfl, fun W k => (h.keep k).fenceH hcc hn hlate p hp hk⟩
 ·exact ⟨162, fun W => by rw [hk]; kernel_rfl, fun W a b => by kernel_rfl, fun W k => (h.keep k).freeH hcc hn hlate p hp hk⟩
end
end Go.Proofs.YtmelaiefbpdifaaGreatDoor.Srv
namespace Go.Proofs.YtmelaiefbpdifaaGreatDoor.Srv
open Go.RowKit Go.Maps
open Pgs (Pg)
def ExM (w w1 w' : World) (R : List Nat) (sb dp : Nat) (σ : Sv) (s : St) (n c : Nat) (p : Pk) (e : Ending) : Prop :=
 ∃ r ok σ' s' n' f' R', e = .returned (.tuple #[pkV r, .bool ok]) ∧
  ((Executed NoC σ p r ok σ' ∧ s' = s ∧ n' = n ∧ f' = false) ∨ (Executed (C5 σ.N s n s' n' f') σ p r ok σ' ∧ ∃ l er, Commits5 σ.N σ.M s n false l er σ'.M s' n' f' ∧ σ'.up = if er = 5 then false else σ.up)) ∧
  SrvM w w' R' sb dp σ' s' n' f' (c + 1) ∧ Only R w1 w' ∧ ∀ j ∈ R', j ∈ R ∨ w1.heap.size ≤ j
theorem seatCs_length (f : Nat → Sat) : (seatCs f).length = 768 := by
 unfold seatCs
 rw [List.length_flatten, List.map_map]
 have : (List.map (List.length ∘ fun k => seatE (f k)) (List.range 256)) = List.map (fun _ => 3) (List.range 256) := rfl
 rw [this]
 decide +kernel
theorem flat_three (f : Nat → List Value) (hf : ∀ k, (f k).length = 3) : ∀ (m k j : Nat), k < m → j < 3 → ((List.range m).map f).flatten[k * 3 + j]? = (f k)[j]?
 | 0, _, _, h, _ => absurd h (Nat.not_lt_zero _)
 | m + 1, k, j, h, hj => by
  have hl : ((List.range m).map f).flatten.length = m * 3 := by
   have : ∀ m, ((List.range m).map f).flatten.length = m * 3 := fun m => by
    induction m with
    | zero => rfl
    | succ m ih => rw [List.range_succ, List.map_append, List.flatten_append, List.length_append, ih]; simp [hf]; omega
   exact this m
  rw [List.range_succ, List.map_append, List.flatten_append]
  by_cases hk : k < m
  ·rw [List.getElem?_append_left (by rw [hl]; omega)]
   exact flat_three f hf m k j hk hj
  ·have : k = m := by omega
   subst this
   rw [List.getElem?_append_right (by rw [hl]; omega), hl]
   have e : k * 3 + j - k * 3 = j := by omega
   rw [e]
   simp
theorem seat_get (f : Nat → Sat) (k j : Nat) (hk : k < 256) (hj : j < 3) : (seatCs f)[k * 3 + j]? = (seatE (f k))[j]? := flat_three _ (fun _ => rfl) 256 k j hk hj
theorem srv_get (σ : Sv) (rp lb k j : Nat) (hk : k < 256) (hj : j < 3) : (srvCs σ rp lb).toArray[5 + k * 3 + j]? = (seatE (σ.seat k))[j]? := by
 rw [List.getElem?_toArray, show 5 + k * 3 + j = (k * 3 + j) + 5 by omega]
 unfold srvCs
 simp only [List.getElem?_cons_succ]
 exact seat_get _ k j hk hj
theorem seat_cells {w : World} {sb rp lb : Nat} {σ : Sv} (h : Blk w sb 116 (srvCs σ rp lb).toArray) (k : Nat) (hk : k < 256) :
  w.cell? ⟨sb, 5 + k * 3, none⟩ = some (.int .u32 (σ.seat k).life) ∧ w.cell? ⟨sb, 5 + k * 3 + 1, none⟩ = some (.int .u32 (σ.seat k).seq) ∧ w.cell? ⟨sb, 5 + k * 3 + 2, none⟩ = some (.string (σ.seat k).reply) :=
 ⟨(h.cell _).trans (srv_get σ rp lb k 0 hk (by decide)), (h.cell _).trans (srv_get σ rp lb k 1 hk (by decide)), (h.cell _).trans (srv_get σ rp lb k 2 hk (by decide))⟩
def setsA (C : Array Value) (o : Nat) : List Value → Array Value
 | [] => C
 | v :: r => setsA (C.setIfInBounds o v) (o + 1) r
theorem Blk.setCells {t : TypeId} {g : Nat} : ∀ (vs : List Value) (o : Nat) {w : World} {C : Array Value}, Blk w g t C → Blk (w.setCells g o vs) g t (setsA C o vs)
 | [], _, _, _, h => h
 | v :: r, o, _, _, h => Blk.setCells r (o + 1) (Blk.set h o v)
theorem Only.setCells {S : List Nat} {a : World} {g : Nat} (hg : g ∈ S ∨ a.heap.size ≤ g) : ∀ (vs : List Value) (o : Nat) {w : World}, Only S a w → Only S a (w.setCells g o vs)
 | [], _, _, h => h
 | v :: r, o, _, h => Only.setCells hg r (o + 1) (_root_.Go.Proofs.YtmelaiefbpdifaaGreatDoor.Only.setCell h hg v)
theorem sets_get : ∀ (vs : List Value) (C : Array Value) (o i : Nat), o + vs.length ≤ C.size → (setsA C o vs)[i]? = if o ≤ i ∧ i < o + vs.length then vs[i - o]? else C[i]?
 | [], C, o, i, _ => by
  rw [if_neg (by simp)]
  rfl
 | v :: r, C, o, i, h => by
  rw [List.length_cons] at h
  show (setsA (C.setIfInBounds o v) (o + 1) r)[i]? = _
  rw [sets_get r (C.setIfInBounds o v) (o + 1) i (by rw [Array.size_setIfInBounds]; omega), List.length_cons]
  by_cases h1 : o = i
  ·subst h1
   rw [if_neg (by omega), if_pos (by omega), Array.getElem?_setIfInBounds, if_pos rfl, Nat.sub_self]
   simp
   omega
  ·by_cases h2 : o + 1 ≤ i ∧ i < o + 1 + r.length
   ·rw [if_pos h2, if_pos (by omega), show i - o = (i - (o + 1)) + 1 by omega, List.getElem?_cons_succ]
   ·rw [if_neg h2, if_neg (by omega), Array.getElem?_setIfInBounds, if_neg h1]
theorem srv_size (σ : Sv) (rp lb : Nat) : (srvCs σ rp lb).toArray.size = 773 := by
 rw [List.size_toArray]
 unfold srvCs
 simp only [List.length_cons, seatCs_length]
theorem srv_set (σ : Sv) (rp lb k : Nat) (hk : k < 256) (x : Sat) : setsA (srvCs σ rp lb).toArray (5 + k * 3) (seatE x) = (srvCs (setSeat σ k x) rp lb).toArray := by
 have hl : (seatE x).length = 3 := rfl
 apply Array.ext_getElem?
 intro i
 rw [sets_get _ _ _ _ (by rw [srv_size, hl]; omega), hl]
 by_cases hi : 5 + k * 3 ≤ i ∧ i < 5 + k * 3 + 3
 ·rw [if_pos hi]
  obtain ⟨j, hj⟩ : ∃ j, i = 5 + k * 3 + j := ⟨i - (5 + k * 3), by omega⟩
  subst hj
  rw [srv_get (setSeat σ k x) rp lb k j hk (by omega), Nat.add_sub_cancel_left]
  show _ = (seatE (if k = k then x else σ.seat k))[j]?
  rw [if_pos rfl]
 ·rw [if_neg hi]
  by_cases h5 : i < 5
  ·have e : ∀ τ : Sv, (srvCs τ rp lb).toArray[i]? = ([Value.int .i64 τ.me, .int .u32 τ.boot, .bool τ.up, .pointer (some ⟨rp, 0, none⟩), .map (some lb)] : List Value)[i]? := fun τ => by
    rw [List.getElem?_toArray]
    unfold srvCs
    match i, h5 with
    | 0, _ => rfl
    | 1, _ => rfl
    | 2, _ => rfl
    | 3, _ => rfl
    | 4, _ => rfl
   rw [e, e]
   rfl
  ·by_cases h3 : i < 773
   ·obtain ⟨m, j, hm, hj, e⟩ : ∃ m j, m < 256 ∧ j < 3 ∧ i = 5 + m * 3 + j := ⟨(i - 5) / 3, (i - 5) % 3, by omega, by omega, by omega⟩
    subst e
    have hne : m ≠ k := fun h => hi (by subst h; omega)
    rw [srv_get σ rp lb m j hm hj, srv_get (setSeat σ k x) rp lb m j hm hj]
    show _ = (seatE (if m = k then x else σ.seat m))[j]?
    rw [if_neg hne]
   ·rw [Array.getElem?_eq_none (by rw [srv_size]; omega), Array.getElem?_eq_none (by rw [srv_size]; omega)]
theorem srv_there {w : World} {sb rp lb : Nat} {σ : Sv} (h : Blk w sb 116 (srvCs σ rp lb).toArray) (k : Nat) (hk : k < 256) : w.there sb (5 + k * 3) 3 := fun j hj => by
 refine ⟨?_, h.free _⟩
 rw [h.cell, srv_get σ rp lb k j hk hj]
 match j, hj with
 | 0, _ => rfl
 | 1, _ => rfl
 | 2, _ => rfl
theorem size_seat : (Tryz.prog.info? 113).map (·.size) = some 3 := by kernel_rfl
section
variable {w w1 w2 : World} {R : List Nat} {sb dp n c rp mb lp lb : Nat} {σ τ : Sv} {s : St} {f : Bool} {F : List Nat} {vs : Nat → Value} {D : DataW Value}
theorem SrvAt.headed (h : SrvAt w w1 R sb dp σ s n f c rp mb lp lb F vs D) (k : Only [sb] w1 w2) (hb : Blk w2 sb 116 (srvCs τ rp lb).toArray) (hM : τ.M = σ.M) (hL : τ.L = σ.L) (hN : τ.N = σ.N) (hok : τ.Ok c) : SrvAt w w2 R sb dp τ s n f c rp mb lp lb F vs D := by
 have hsb := h.new sb (h.inR sb (by simp))
 have a2 := h.ap2
 simp only [List.mem_cons, not_or] at a2
 refine ⟨?_, hb, ?_, ?_, h.ap1, h.ap2, h.ap3, h.inR, fun i hi => ⟨(h.new i hi).1, Nat.lt_of_lt_of_le (h.new i hi).2 k.size⟩, by rw [hN]; exact h.len, hok, h.few⟩
 ·rw [hM]
  refine ⟨h.own.own.beside k (h.only.then k (fun i hi => .inr (by simp at hi; rw [hi]; exact hsb.1))) (fun i hi hm => ?_), h.own.rows.kept k (by simp; exact fun e => a2.1 e.symm) (by simp; exact fun e => a2.2.1 e.symm), h.own.ne1, h.own.ne2, h.own.ne3, h.own.out1, h.own.out2, h.own.old1, h.own.old2⟩
  simp at hi; rw [hi] at hm
  rcases List.mem_cons.1 hm with hm | hm
  ·exact a2.2.2.1 hm
  ·exact a2.2.2.2 hm
 ·rw [hL]
  exact h.loose.kept k (by simp; exact fun e => h.ap1 e.symm)
 ·rw [hL]
  intro x o hx
  obtain ⟨A, j, e1, e2, e3, e4⟩ := h.lists x o hx
  refine ⟨A, j, e1, e2, e3.kept k (fun a ha hm => ?_), e4⟩
  simp at hm
  have := (e4 a ha).2
  rw [hm] at this
  simp at this
end
theorem setSeat_ok {σ : Sv} {c k : Nat} {x : Sat} (h : σ.Ok c) (hx : x.Ok ∧ x.reply.size ≤ 400) : (setSeat σ k x).Ok c :=
 ⟨h.good, h.few, h.uniq, h.loose, h.len, fun j => by
  show (if j = k then x else σ.seat j).Ok ∧ (if j = k then x else σ.seat j).reply.size ≤ 400
  split
  ·exact hx
  ·exact h.seat j, h.me, h.boot⟩
theorem doneL_ok {x : Sat} {li sq : Int} {r : ByteArray} (hx : x.Ok ∧ x.reply.size ≤ 400) (h1 : U li) (h2 : U sq) (hr : r.size ≤ 400) : (doneL x li sq r).Ok ∧ (doneL x li sq r).reply.size ≤ 400 := by
 unfold doneL
 split
 ·exact ⟨⟨h1, h2⟩, hr⟩
 ·exact hx
end Go.Proofs.YtmelaiefbpdifaaGreatDoor.Srv
namespace Go.Proofs.YtmelaiefbpdifaaGreatDoor.Srv
open Go.RowKit Go.Maps
open Pgs (Pg)
theorem step_store_mid {P : Program} {ops : Array Oper} {o : Oper} {a : Act} {w : World} {K : Act → World → Prop} {Q : Exit → Act → World → Prop} {E : Prop} (hw : Region.wanted o (yielded ops a.tmps) = true) (ty : TypeId) (x y : Operand) (ho : o.op = .store ty x y)
  (b off : Nat) (cells : Array Value) (hx : a.eval x = .pointer (some ⟨b, off, none⟩)) (hy : a.eval y = .agg cells)
  (ht : w.there b off cells.size) (hi : (P.info? ty).map (·.size) = some cells.size) (h1 : cells.all (·.oneCell') = true)
  (h : K (a.put o.dst undef) (w.setCells b off cells.toList)) : if Region.wanted o (yielded ops a.tmps) = true then Oper.wp P o a w K Q else E := by
 rw [if_pos hw]
 exact wp_store_mid ty x y ho b off cells hx hy ht hi h1 h
section
variable {w w1 : World} {R : List Nat} {sb dp n c rp mb lp lb : Nat} {σ : Sv} {s : St} {F : List Nat} {vs : Nat → Value} {D : DataW Value}
set_option maxRecDepth 100000 in
set_option maxHeartbeats 8000000 in
theorem SrvAt.execC (h : SrvAt w w1 R sb dp σ s n false c rp mb lp lb F vs D) (hcc : c < 1000000) (hn : n < 4294967296) (hlate : s.late.length + 200 ≤ 1048576) (p : Pk) (hp : p.Ok) (hR : p.Right) (h1 : 1 ≤ p.code) (h5 : p.code ≤ 5) :
  Calls Tryz.prog 63 #[.pointer (some ⟨sb, 0, none⟩), pkV p] w1 fun e w' => ExM w w1 w' R sb dp σ s n c p e := by
 have hsz : p.data.size ≤ 128 := hR.1.2
 obtain ⟨fid, hidx, hcf, hand⟩ := h.handC hcc hn hlate p hp hsz h1 h5
 have hok := h.ok
 have hRlt : ∀ i ∈ R, i < w1.heap.size := fun i hi => (h.new i hi).2
 have hq1 : w1.heap.size ∉ R := fun hm => Nat.lt_irrefl _ (hRlt _ hm)
 have hq2 : w1.heap.size + 1 ∉ R := fun hm => by have := hRlt _ hm; omega
 have hsbR := h.inR sb (by simp)
 have hww := h.only.size
 have hsb1 := hRlt sb hsbR
 have hfr : ∃ k : Nat, p.frm = k ∧ k < 256 ∧ p.frm.toNat = k := ⟨p.frm.toNat, by have := hR.2.2.1; omega, by have := hR.2.2.1; omega, rfl⟩
 obtain ⟨k, hk1, hk2, hk3⟩ := hfr
 have b0 : Blk ((w1.alloc (.cells (pkA p) 53)).alloc (.cells zPkA 53)) w1.heap.size 53 (pkA p) := (Blk.new w1 _ _).alloc _
 have z1 : Blk ((w1.alloc (.cells (pkA p) 53)).alloc (.cells zPkA 53)) (w1.heap.size + 1) 53 zPkA := by
  have := Blk.new (w1.alloc (.cells (pkA p) 53)) 53 zPkA
  rwa [show (w1.alloc (.cells (pkA p) 53)).heap.size = w1.heap.size + 1 by simp] at this
 have k1 : Only [] w1 ((w1.alloc (.cells (pkA p) 53)).alloc (.cells zPkA 53)) := ((Only.refl [] w1).alloc _).alloc _
 have kd := k1.drew
 replace b0 := b0.kept ((Only.refl [] _).drew) (by simp)
 replace z1 := z1.kept ((Only.refl [] _).drew) (by simp)
 have hlife := hp.life
 have hseq := hp.seq
 have hfrI := hp.frm
 clear h k1
 replace hand := Lib.hid hand
 replace hRlt := Lib.hid hRlt
 go_enter Tryz.func63, Tryz.ntmps63
 go_wp2_with fail
 generalize ((w1.alloc (.cells (pkA p) 53)).alloc (.cells zPkA 53)) = W at *
 obtain ⟨q, hq⟩ : ∃ q, q = w1.heap.size := ⟨_, rfl⟩
 rw [← hq] at b0 z1 hq1 hq2
 simp only [← hq]
 have r0 := Blk.range9 (cs := (pkA p).toList) b0
 have a7 := b0.cell 7
 simp only [List.getElem?_toArray, List.getElem?_cons_zero, List.getElem?_cons_succ] at a7
 replace hq := Lib.hid hq
 refine wp_region_held_drew (S := fun w' => w'.rangeAt q 0 (pkA p).toList ∧ w'.cell? ⟨q, 7, none⟩ = some (.int .i64 p.code)) (by kernel_rfl) ⟨r0, a7⟩ (fun hHeld => ?_)
 generalize W.drew = wd at *
 refine rwT 1 (.pointer (some ⟨q, 7, none⟩)) hHeld ?_; simp only [rwA]
 refine rwT 2 (.pointer (some ⟨q, 7, none⟩)) hHeld ?_; simp only [rwA]
 refine rwY 3 (.int .i64 p.code) hHeld ?_ (hy := Or.inl ⟨by rfl, fun w' hSw => by obtain ⟨_, hc⟩ := hSw; go_simp⟩); simp only [rwA]
 refine rwT 5 (.pointer (some ⟨sb, 0, none⟩)) hHeld ?_; simp only [rwA]
 refine rwY 6 (pkV p) hHeld ?_ (hy := yieldsIf_load_mid (by rfl) 53 (.tmp 3) rfl q 0 rfl (pkA p).toList _ (fun w' hSw => hSw.1) Tryz.underlying53 rfl size_pk); simp only [rwA]
 refine held_step 0 rfl (by kernel_rfl) (fun K hK => ?_)
 go_simp
 refine (handlers_any _).mono ?_; rintro e w2 ⟨rfl, k2⟩
 have b2 := b0.kept k2 (by simp)
 have x7 := k2.cell a7 (by simp)
 have k12 := kd.trans k2
 have z2 := z1.kept k2 (by simp)
 go_wp2_with fail
 refine hK.out _ _ ⟨fun j v hj => k2.cell (r0 j v hj) (by simp), x7⟩ (fun hHeld => ?_)
 clear hK K
 refine rwY 4 (fnV fid) hHeld ?_ (hy := Or.inl ⟨by rfl, fun w' hSw => by have i0 := hidx; go_simp⟩); simp only [rwA]
 refine held_step 7 rfl (by kernel_rfl) (fun K hK => ?_)
 go_simp
 refine (hand.out _ k12).mono ?_
 rintro e w3 ⟨d, er, σ1, s1, n1, f1', R1, rfl, hds, hm1, kR, hR1, hdl⟩
 have r2 : w2.rangeAt q 0 (pkA p).toList := fun j v hj => k2.cell (r0 j v hj) (by simp)
 have b3 := b2.kept kR hq1
 have z3 := z2.kept kR hq2
 go_wp2_with fail
 refine hK.out _ _ ⟨fun j v hj => kR.cell (r2 j v hj) hq1, kR.cell x7 hq1⟩ (fun hHeld => ?_)
 clear hK K
 refine rwT 8 (.tuple #[.string (strOf d), .int .i64 er]) hHeld ?_; simp only [rwA]
 refine rwT 9 (.string (strOf d)) hHeld ?_; simp only [rwA]
 refine rwT 10 (.int .i64 er) hHeld ?_; simp only [rwA]
 refine rwT 11 (.string (strOf d)) hHeld ?_; simp only [rwA]
 refine rwT 12 (.int .i64 er) hHeld ?_; simp only [rwA]
 refine wpAnyH_done (by kernel_rfl) ?_ _
 clear hHeld
 have herr := dids_err hds
 have hsame := dids_same hds
 have hq1R : q ∉ R1 := fun hm => by
  rcases hR1 _ hm with h | h
  ·exact hq1 h
  ·have := b2.lt; omega
 have hq2R : q + 1 ∉ R1 := fun hm => by
  rcases hR1 _ hm with h | h
  ·exact hq2 h
  ·have := z2.lt; omega
 have k13 : Only R w1 w3 := (k12.more (by simp)).then kR (fun i hi => .inl hi)
 have hR13 : ∀ j ∈ R1, j ∈ R ∨ w1.heap.size ≤ j := fun j hj => (hR1 j hj).imp id (fun h => Nat.le_trans k12.size h)
 clear r0 r2 a7 x7 b0 z1 b2 z2 k2 k12 kd kR hR1 hidx hcf hand
 have hds' : (Did NoC σ p d er σ1 ∧ s1 = s ∧ n1 = n ∧ f1' = false) ∨ (Did (C5 σ.N s n s1 n1 f1') σ p d er σ1 ∧ ∃ l, Commits5 σ.N σ.M s n false l er σ1.M s1 n1 f1') := by
  rcases hds with h | ⟨h, l, hl⟩
  ·exact .inl h
  ·exact .inr ⟨h, l, hl⟩
 obtain ⟨rp1, mb1, lp1, lb1, F1, vs1, D1, h3⟩ := hm1
 replace hds' := Lib.hid hds'
 replace hR13 := Lib.hid hR13
 clear hds
 by_cases h5e : er = 5
 ·subst h5e
  obtain ⟨_, _, u2, _⟩ := h3.cells
  have uf := h3.hdr.free 2
  have hup : Blk (w3.setCell ⟨sb, 2, none⟩ (.bool false)) sb 116 (srvCs { σ1 with up := false } rp1 lb1).toArray := by
   have := h3.hdr.set 2 (.bool false)
   rwa [show (srvCs σ1 rp1 lb1).toArray.setIfInBounds 2 (.bool false) = (srvCs { σ1 with up := false } rp1 lb1).toArray by simp [srvCs]] at this
  have ku : Only [sb] w3 (w3.setCell ⟨sb, 2, none⟩ (.bool false)) := (Only.refl [sb] w3).setCell (.inl (by simp)) _
  have hσ1 := h3.ok
  have hσ2 : ({ σ1 with up := false } : Sv).Ok (c + 1) := ⟨hσ1.good, hσ1.few, hσ1.uniq, hσ1.loose, hσ1.len, hσ1.seat, hσ1.me, hσ1.boot⟩
  have h4 := h3.headed ku hup rfl rfl rfl hσ2
  have hqs : q + 1 ∉ [sb] := fun hm => by simp at hm; rw [hm] at hq2; exact hq2 hsbR
  have z4 := z3.kept ku hqs
  have k14 : Only R w1 (w3.setCell ⟨sb, 2, none⟩ (.bool false)) := k13.then ku (fun i hi => by simp at hi; rw [hi]; exact .inl hsbR)
  replace h4 := Lib.hid h4
  replace k14 := Lib.hid k14
  replace hup := Lib.hid hup
  clear h3 ku hσ1 hσ2 b3 z3
  go_wp2_with (refine wpList_store_pk zPk zPk rfl (.tmp 4) (.tmp 27) rfl (q + 1) rfl rfl z4 ?_; intro w5 z5 k5)
  refine bodyPost_ret (v := .tuple #[pkV zPk, .bool false]) (results_pk rfl _ _ (q + 1) rfl zPk z5 _ rfl) rfl ?_
  have hk5 : ∀ i ∈ [q + 1], i ∈ R ∨ w1.heap.size ≤ i := fun i hi => by simp at hi; have := hq.out; exact .inr (by omega)
  refine ⟨zPk, false, { σ1 with up := false }, s1, n1, f1', R1, rfl, ?_, ⟨rp1, mb1, lp1, lb1, F1, vs1, D1, h4.out.beside k5 (h4.out.only.then k5 ?_) ?_⟩, k14.out.then k5 hk5, hR13.out⟩
  ·rcases hds'.out with ⟨h, h'⟩ | ⟨h, l, h'⟩
   ·exact .inl ⟨⟨d, 5, σ1, h, .inl ⟨rfl, rfl, rfl, rfl⟩⟩, h'⟩
   ·exact .inr ⟨⟨d, 5, σ1, h, .inl ⟨rfl, rfl, rfl, rfl⟩⟩, l, 5, h', rfl⟩
  ·intro i hi; simp at hi; have := hq.out; exact .inr (by omega)
  ·intro i hi; simp at hi; rw [hi]; exact hq2R
 ·have h5n : (er == 5) = false := by rw [beq_eq_false_iff_ne]; exact h5e
  have hrp : replyP σ1 p d er = replyP σ p d er := by unfold replyP; rw [hsame.2.1, hsame.2.2.1]
  have hrok : (replyP σ p d er).Ok := replyP_ok hok hp d er herr
  have hwsz := writeS_size (replyP σ p d er)
  have hrepl := h3.replyC p d er
  rw [hrp] at hrepl
  have hex : ∀ C : Com, Did C σ p d er σ1 → Executed C σ p (replyP σ p d er) true (setSeat σ1 k (doneL (σ1.seat k) p.life p.seq (writeS (replyP σ p d er)))) := fun C hC =>
   ⟨d, er, σ1, hC, .inr ⟨h5e, rfl, rfl, by rw [hk3, hsame.2.2.2.2]⟩⟩
  have hsat := h3.ok.seat k
  have hsb3 := h3.hdr.lt
  generalize replyP σ p d er = r at *
  replace hex := Lib.hid hex
  replace hrepl := Lib.hid hrepl
  replace hsame := Lib.hid hsame
  replace herr := Lib.hid herr
  clear hrp
  generalize strOf d = ds at *
  go_wp2_with (refine wpList_load_pk p rfl (.tmp 3) rfl q rfl b3 ?_)
  refine hrepl.out.mono ?_; rintro e w4 ⟨rfl, k4⟩
  have z4 : Blk (w4.alloc (.cells zPkA 53)) w4.heap.size 53 (pkA zPk) := Blk.new w4 _ _
  have ka : Only [] w3 (w4.alloc (.cells zPkA 53)) := k4.alloc _
  go_wp2_with (first
   | (refine wpList_store_pk r zPk rfl (.tmp 8) (.tmp 32) rfl w4.heap.size rfl rfl z4 ?_; intro w5 b5 k5)
   | (refine wpList_load_pk r rfl (.tmp 8) rfl w4.heap.size rfl b5 ?_))
  have k35 : Only [] w3 w5 := ka.then k5 (fun i hi => by simp at hi; have := k4.size; exact .inr (by omega))
  refine (write_anyp w5 r hrok).mono ?_; rintro e w6 ⟨rfl, k6⟩
  have k36 := k35.trans k6
  have b6 := b5.kept k6 (by simp)
  have g4 : w3.heap.size ≤ w4.heap.size := k4.size
  obtain ⟨g, hg⟩ : ∃ g, g = w4.heap.size := ⟨_, rfl⟩
  rw [← hg] at b6 g4
  simp only [← hg]
  replace hg := Lib.hid hg
  have b36 := b3.kept k36 (by simp)
  have z36 := z3.kept k36 (by simp)
  have h6 := h3.keep k36
  have hgR : g ∉ R1 := fun hm => by have := (h3.new _ hm).2; omega
  have hq3 := b3.lt
  have hq4 := z3.lt
  clear z4 ka b5 k5 k35 k4 k6 b3 z3
  go_wp2_with fail
  have kd : Only [] w3 w6.drew := k36.drew
  have h6d := h6.keep ((Only.refl [] w6).drew)
  have bd := b36.kept ((Only.refl [] w6).drew) (by simp)
  have zd := z36.kept ((Only.refl [] w6).drew) (by simp)
  have gd := b6.kept ((Only.refl [] w6).drew) (by simp)
  have e1 := bd.cell 1
  have e3 := bd.cell 3
  have e4 := bd.cell 4
  simp only [List.getElem?_toArray, List.getElem?_cons_zero, List.getElem?_cons_succ] at e1 e3 e4
  rw [hk1] at e1
  refine wp_region_held_drew (S := fun w' => w'.cell? ⟨q, 1, none⟩ = some (.int .i64 (k : Int)) ∧ w'.cell? ⟨q, 3, none⟩ = some (.int .u32 p.life) ∧ w'.cell? ⟨q, 4, none⟩ = some (.int .u32 p.seq)) (by kernel_rfl) ⟨e1, e3, e4⟩ (fun hHeld => ?_)
  generalize w6.drew = we at *
  obtain ⟨t0, t1, t2⟩ := seat_cells h6d.hdr k hk2
  generalize σ1.seat k = st at *
  refine rwT 0 (.pointer (some ⟨sb, 0, none⟩)) hHeld ?_; simp only [rwA]
  refine rwT 1 (.pointer (some ⟨q, 1, none⟩)) hHeld ?_; simp only [rwA]
  refine rwY 2 (.int .i64 (k : Int)) hHeld ?_ (hy := Or.inl ⟨by rfl, fun w' hSw => by obtain ⟨hc, _⟩ := hSw; go_simp⟩); simp only [rwA]
  refine rwT 3 (.pointer (some ⟨sb, 0, none⟩)) hHeld ?_; simp only [rwA]
  refine rwT 4 (.pointer (some ⟨q, 1, none⟩)) hHeld ?_; simp only [rwA]
  refine rwY 5 (.int .i64 (k : Int)) hHeld ?_ (hy := Or.inl ⟨by rfl, fun w' hSw => by obtain ⟨hc, _⟩ := hSw; go_simp⟩); simp only [rwA]
  refine rwT 6 (.pointer (some ⟨sb, 0, none⟩)) hHeld ?_; simp only [rwA]
  refine rwT 7 (.pointer (some ⟨sb, 5, none⟩)) hHeld ?_; simp only [rwA]
  refine rwY 8 (.pointer (some ⟨sb, 5 + k * 3, none⟩)) hHeld ?_ (hy := Or.inl ⟨by rfl, fun w' hSw => by go_simp; intro hh; omega⟩); simp only [rwA]
  refine rwT 10 (.pointer (some ⟨q, 3, none⟩)) hHeld ?_; simp only [rwA]
  refine rwY 11 (.int .u32 p.life) hHeld ?_ (hy := Or.inl ⟨by rfl, fun w' hSw => by obtain ⟨_, hc, _⟩ := hSw; go_simp⟩); simp only [rwA]
  refine rwT 12 (.pointer (some ⟨q, 4, none⟩)) hHeld ?_; simp only [rwA]
  refine rwY 13 (.int .u32 p.seq) hHeld ?_ (hy := Or.inl ⟨by rfl, fun w' hSw => by obtain ⟨_, _, hc⟩ := hSw; go_simp⟩); simp only [rwA]
  refine rwT 14 (.string (writeS r)) hHeld ?_; simp only [rwA]
  refine rwT 16 (.pointer (some ⟨sb, 0, none⟩)) hHeld ?_; simp only [rwA]
  refine rwT 17 (.pointer (some ⟨sb, 5, none⟩)) hHeld ?_; simp only [rwA]
  refine held_step 9 rfl (by kernel_rfl) (fun K hK => ?_)
  go_simp
  go_wp2_with fail
  refine hK.out _ _ ⟨e1, e3, e4⟩ (fun hHeld => ?_)
  clear hK K
  refine held_step 15 rfl (by kernel_rfl) (fun K hK => ?_)
  go_simp
  refine (done_any st p.life p.seq (writeS r) we hsat.1 hlife hseq).mono ?_; rintro e w8 ⟨rfl, k8⟩
  have h8 := h6d.keep k8
  go_wp2_with fail
  refine hK.out _ _ ⟨k8.cell e1 (by simp), k8.cell e3 (by simp), k8.cell e4 (by simp)⟩ (fun hHeld => ?_)
  clear hK K
  refine rwY 18 (.pointer (some ⟨sb, 5 + k * 3, none⟩)) hHeld ?_ (hy := Or.inl ⟨by rfl, fun w' hSw => by go_simp; intro hh; omega⟩); simp only [rwA]
  have hdn := doneL_ok (r := writeS r) hsat hlife hseq hwsz
  generalize hst' : doneL st p.life p.seq (writeS r) = st' at *
  have hth := srv_there h8.hdr k hk2
  have hkc : Only [sb] w8 (w8.setCells sb (5 + k * 3) (seatE st')) := Only.setCells (.inl (by simp)) _ _ (Only.refl [sb] w8)
  have hbc : Blk (w8.setCells sb (5 + k * 3) (seatE st')) sb 116 (srvCs (setSeat σ1 k st') rp1 lb1).toArray := by
   have := Blk.setCells (seatE st') (5 + k * 3) h8.hdr
   rwa [srv_set σ1 rp1 lb1 k hk2 st'] at this
  have h9 := h8.headed hkc hbc rfl rfl rfl (setSeat_ok h8.ok hdn)
  have hqs : q ∉ [sb] := fun hm => by simp at hm; rw [hm] at hq1; exact hq1 hsbR
  have hqs2 : q + 1 ∉ [sb] := fun hm => by simp at hm; rw [hm] at hq2; exact hq2 hsbR
  have hgs : g ∉ [sb] := fun hm => by simp at hm; omega
  have f1 := hkc.cell (k8.cell e1 (by simp)) hqs
  have f3 := hkc.cell (k8.cell e3 (by simp)) hqs
  have f4 := hkc.cell (k8.cell e4 (by simp)) hqs
  have g9 := (gd.kept k8 (by simp)).kept hkc hgs
  have z9 := (zd.kept k8 (by simp)).kept hkc hqs2
  have k19 : Only R w1 (w8.setCells sb (5 + k * 3) (seatE st')) := (k13.then (kd.trans k8) (by simp)).then hkc (fun i hi => by simp at hi; rw [hi]; exact .inl hsbR)
  replace h9 := Lib.hid h9
  replace k19 := Lib.hid k19
  replace hst' := Lib.hid hst'
  clear h8 hbc hkc h6d h6 h3 hdn kd k36 bd zd gd b36 z36 b6
  refine held_step 19 rfl (by kernel_rfl) (fun K hK => ?_)
  refine step_store_mid rfl 113 _ _ rfl sb (5 + k * 3) (seatE st').toArray rfl rfl hth size_seat (by simp [seatE, Value.oneCell']) ?_
  change K _ (w8.setCells sb (5 + k * 3) (seatE st'))
  generalize w8.setCells sb (5 + k * 3) (seatE st') = w9 at *
  refine hK.out _ _ ⟨f1, f3, f4⟩ (fun hHeld => ?_)
  clear hK K
  refine wpAnyH_done (by kernel_rfl) ?_ _
  clear hHeld
  clear f1 f3 f4 e1 e3 e4 t0 t1 t2 hth
  go_wp2_with (first
   | (refine wpList_load_pk r rfl (.tmp 8) rfl g rfl g9 ?_)
   | (refine wpList_store_pk r zPk rfl (.tmp 4) (.tmp 57) rfl (q + 1) rfl rfl z9 ?_; intro w10 z10 k10))
  refine bodyPost_ret (v := .tuple #[pkV r, .bool true]) (results_pk rfl _ _ (q + 1) rfl r z10 _ rfl) rfl ?_
  have hk10 : ∀ i ∈ [q + 1], i ∈ R ∨ w1.heap.size ≤ i := fun i hi => by simp at hi; have := hq.out; exact .inr (by omega)
  refine ⟨r, true, setSeat σ1 k st', s1, n1, f1', R1, rfl, ?_, ⟨rp1, mb1, lp1, lb1, F1, vs1, D1, h9.out.beside k10 (h9.out.only.then k10 ?_) ?_⟩, k19.out.then k10 hk10, hR13.out⟩
  ·rcases hds'.out with ⟨h, h'⟩ | ⟨h, l, h'⟩
   ·exact .inl ⟨hex.out _ h, h'⟩
   ·exact .inr ⟨hex.out _ h, l, er, h', by rw [if_neg h5e]; exact hsame.out.2.2.2.1⟩
  ·intro i hi; simp at hi; have := hq.out; exact .inr (by omega)
  ·intro i hi; simp at hi; rw [hi]; exact hq2R
end
end Go.Proofs.YtmelaiefbpdifaaGreatDoor.Srv
