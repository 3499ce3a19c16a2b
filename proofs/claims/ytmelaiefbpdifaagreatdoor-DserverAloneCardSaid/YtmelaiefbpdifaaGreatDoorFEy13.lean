/- execute: the walk. -/
import Derived.Test.YtmelaiefbpdifaaGreatDoorFEx13
namespace Go.Proofs.YtmelaiefbpdifaaGreatDoor.Srv
open Go.RowKit Go.Maps
open Pgs (Pg)
def ExM (w w1 w' : World) (R : List Nat) (sb dp : Nat) (σ : Sv) (s : St) (n c : Nat) (p : Pk) (e : Ending) : Prop :=
 ∃ r ok σ' s' n' f' R', e = .returned (.tuple #[pkV r, .bool ok]) ∧
  ((Executed NoC σ p r ok σ' ∧ s' = s ∧ n' = n ∧ f' = false) ∨ (Executed (C5 σ.N s n s' n' f') σ p r ok σ' ∧ ∃ l er, Commits5 σ.N σ.M s n false l er σ'.M s' n' f' ∧ σ'.up = if er = 5 then false else σ.up)) ∧
  SrvM w w' R' sb dp σ' s' n' f' (c + 1) ∧ Only R w1 w' ∧ ∀ j ∈ R', j ∈ R ∨ w1.heap.size ≤ j
theorem seatCs_length (f : Nat → Sat) : (seatCs f).length = 768 := by
 unfold seatCs
 rw [List.length_flatten, List.map_map]
 have : (List.map (List.length ∘ fun k => seatE (f k)) (List.range 256)) = List.map (fun _ => 3) (List.range 256) := rfl
 rw [this]
 decide +kernel
theorem flat_three (f : Nat → List Value) (hf : ∀ k, (f k).length = 3) : ∀ (m k j : Nat), k < m → j < 3 → ((List.range m).map f).flatten[k * 3 + j]? = (f k)[j]?
 | 0, _, _, h, _ => absurd h (Nat.not_lt_zero _)
 | m + 1, k, j, h, hj => by
  have hl : ((List.range m).map f).flatten.length = m * 3 := by
   have : ∀ m, ((List.range m).map f).flatten.length = m * 3 := fun m => by
    induction m with
    | zero => rfl
    | succ m ih => rw [List.range_succ, List.map_append, List.flatten_append, List.length_append, ih]; simp [hf]; omega
   exact this m
  rw [List.range_succ, List.map_append, List.flatten_append]
  by_cases hk : k < m
  ·rw [List.getElem?_append_left (by rw [hl]; omega)]
   exact flat_three f hf m k j hk hj
  ·have : k = m := by omega
   subst this
   rw [List.getElem?_append_right (by rw [hl]; omega), hl]
   have e : k * 3 + j - k * 3 = j := by omega
   rw [e]
   simp
theorem seat_get (f : Nat → Sat) (k j : Nat) (hk : k < 256) (hj : j < 3) : (seatCs f)[k * 3 + j]? = (seatE (f k))[j]? := flat_three _ (fun _ => rfl) 256 k j hk hj
theorem srv_get (σ : Sv) (rp lb k j : Nat) (hk : k < 256) (hj : j < 3) : (srvCs σ rp lb).toArray[5 + k * 3 + j]? = (seatE (σ.seat k))[j]? := by
 rw [List.getElem?_toArray, show 5 + k * 3 + j = (k * 3 + j) + 5 by omega]
 unfold srvCs
 simp only [List.getElem?_cons_succ]
 exact seat_get _ k j hk hj
theorem seat_cells {w : World} {sb rp lb : Nat} {σ : Sv} (h : Blk w sb 116 (srvCs σ rp lb).toArray) (k : Nat) (hk : k < 256) :
  w.cell? ⟨sb, 5 + k * 3, none⟩ = some (.int .u32 (σ.seat k).life) ∧ w.cell? ⟨sb, 5 + k * 3 + 1, none⟩ = some (.int .u32 (σ.seat k).seq) ∧ w.cell? ⟨sb, 5 + k * 3 + 2, none⟩ = some (.string (σ.seat k).reply) :=
 ⟨(h.cell _).trans (srv_get σ rp lb k 0 hk (by decide)), (h.cell _).trans (srv_get σ rp lb k 1 hk (by decide)), (h.cell _).trans (srv_get σ rp lb k 2 hk (by decide))⟩
def setsA (C : Array Value) (o : Nat) : List Value → Array Value
 | [] => C
 | v :: r => setsA (C.setIfInBounds o v) (o + 1) r
theorem Blk.setCells {t : TypeId} {g : Nat} : ∀ (vs : List Value) (o : Nat) {w : World} {C : Array Value}, Blk w g t C → Blk (w.setCells g o vs) g t (setsA C o vs)
 | [], _, _, _, h => h
 | v :: r, o, _, _, h => Blk.setCells r (o + 1) (Blk.set h o v)
theorem Only.setCells {S : List Nat} {a : World} {g : Nat} (hg : g ∈ S ∨ a.heap.size ≤ g) : ∀ (vs : List Value) (o : Nat) {w : World}, Only S a w → Only S a (w.setCells g o vs)
 | [], _, _, h => h
 | v :: r, o, _, h => Only.setCells hg r (o + 1) (_root_.Go.Proofs.YtmelaiefbpdifaaGreatDoor.Only.setCell h hg v)
theorem sets_get : ∀ (vs : List Value) (C : Array Value) (o i : Nat), o + vs.length ≤ C.size → (setsA C o vs)[i]? = if o ≤ i ∧ i < o + vs.length then vs[i - o]? else C[i]?
 | [], C, o, i, _ => by
  rw [if_neg (by simp)]
  rfl
 | v :: r, C, o, i, h => by
  rw [List.length_cons] at h
  show (setsA (C.setIfInBounds o v) (o + 1) r)[i]? = _
  rw [sets_get r (C.setIfInBounds o v) (o + 1) i (by rw [Array.size_setIfInBounds]; omega), List.length_cons]
  by_cases h1 : o = i
  ·subst h1
   rw [if_neg (by omega), if_pos (by omega), Array.getElem?_setIfInBounds, if_pos rfl, Nat.sub_self]
   simp
   omega
  ·by_cases h2 : o + 1 ≤ i ∧ i < o + 1 + r.length
   ·rw [if_pos h2, if_pos (by omega), show i - o = (i - (o + 1)) + 1 by omega, List.getElem?_cons_succ]
   ·rw [if_neg h2, if_neg (by omega), Array.getElem?_setIfInBounds, if_neg h1]
theorem srv_size (σ : Sv) (rp lb : Nat) : (srvCs σ rp lb).toArray.size = 773 := by
 rw [List.size_toArray]
 unfold srvCs
 simp only [List.length_cons, seatCs_length]
theorem srv_set (σ : Sv) (rp lb k : Nat) (hk : k < 256) (x : Sat) : setsA (srvCs σ rp lb).toArray (5 + k * 3) (seatE x) = (srvCs (setSeat σ k x) rp lb).toArray := by
 have hl : (seatE x).length = 3 := rfl
 apply Array.ext_getElem?
 intro i
 rw [sets_get _ _ _ _ (by rw [srv_size, hl]; omega), hl]
 by_cases hi : 5 + k * 3 ≤ i ∧ i < 5 + k * 3 + 3
 ·rw [if_pos hi]
  obtain ⟨j, hj⟩ : ∃ j, i = 5 + k * 3 + j := ⟨i - (5 + k * 3), by omega⟩
  subst hj
  rw [srv_get (setSeat σ k x) rp lb k j hk (by omega), Nat.add_sub_cancel_left]
  show _ = (seatE (if k = k then x else σ.seat k))[j]?
  rw [if_pos rfl]
 ·rw [if_neg hi]
  by_cases h5 : i < 5
  ·have e : ∀ τ : Sv, (srvCs τ rp lb).toArray[i]? = ([Value.int .i64 τ.me, .int .u32 τ.boot, .bool τ.up, .pointer (some ⟨rp, 0, none⟩), .map (some lb)] : List Value)[i]? := fun τ => by
    rw [List.getElem?_toArray]
    unfold srvCs
    match i, h5 with
    | 0, _ => rfl
    | 1, _ => rfl
    | 2, _ => rfl
    | 3, _ => rfl
    | 4, _ => rfl
   rw [e, e]
   rfl
  ·by_cases h3 : i < 773
   ·obtain ⟨m, j, hm, hj, e⟩ : ∃ m j, m < 256 ∧ j < 3 ∧ i = 5 + m * 3 + j := ⟨(i - 5) / 3, (i - 5) % 3, by omega, by omega, by omega⟩
    subst e
    have hne : m ≠ k := fun h => hi (by subst h; omega)
    rw [srv_get σ rp lb m j hm hj, srv_get (setSeat σ k x) rp lb m j hm hj]
    show _ = (seatE (if m = k then x else σ.seat m))[j]?
    rw [if_neg hne]
   ·rw [Array.getElem?_eq_none (by rw [srv_size]; omega), Array.getElem?_eq_none (by rw [srv_size]; omega)]
theorem srv_there {w : World} {sb rp lb : Nat} {σ : Sv} (h : Blk w sb 116 (srvCs σ rp lb).toArray) (k : Nat) (hk : k < 256) : w.there sb (5 + k * 3) 3 := fun j hj => by
 refine ⟨?_, h.free _⟩
 rw [h.cell, srv_get σ rp lb k j hk hj]
 match j, hj with
 | 0, _ => rfl
 | 1, _ => rfl
 | 2, _ => rfl
theorem size_seat : (Tryz.prog.info? 113).map (·.size) = some 3 := by kernel_rfl
section
variable {w w1 w2 : World} {R : List Nat} {sb dp n c rp mb lp lb : Nat} {σ τ : Sv} {s : St} {f : Bool} {F : List Nat} {vs : Nat → Value} {D : DataW Value}
theorem SrvAt.headed (h : SrvAt w w1 R sb dp σ s n f c rp mb lp lb F vs D) (k : Only [sb] w1 w2) (hb : Blk w2 sb 116 (srvCs τ rp lb).toArray) (hM : τ.M = σ.M) (hL : τ.L = σ.L) (hN : τ.N = σ.N) (hok : τ.Ok c) : SrvAt w w2 R sb dp τ s n f c rp mb lp lb F vs D := by
 have hsb := h.new sb (h.inR sb (by simp))
 have a2 := h.ap2
 simp only [List.mem_cons, not_or] at a2
 refine ⟨?_, hb, ?_, ?_, h.ap1, h.ap2, h.ap3, h.inR, fun i hi => ⟨(h.new i hi).1, Nat.lt_of_lt_of_le (h.new i hi).2 k.size⟩, by rw [hN]; exact h.len, hok, h.few⟩
 ·rw [hM]
  refine ⟨h.own.own.beside k (h.only.then k (fun i hi => .inr (by simp at hi; rw [hi]; exact hsb.1))) (fun i hi hm => ?_), h.own.rows.kept k (by simp; exact fun e => a2.1 e.symm) (by simp; exact fun e => a2.2.1 e.symm), h.own.ne1, h.own.ne2, h.own.ne3, h.own.out1, h.own.out2, h.own.old1, h.own.old2⟩
  simp at hi; rw [hi] at hm
  rcases List.mem_cons.1 hm with hm | hm
  ·exact a2.2.2.1 hm
  ·exact a2.2.2.2 hm
 ·rw [hL]
  exact h.loose.kept k (by simp; exact fun e => h.ap1 e.symm)
 ·rw [hL]
  intro x o hx
  obtain ⟨A, j, e1, e2, e3, e4⟩ := h.lists x o hx
  refine ⟨A, j, e1, e2, e3.kept k (fun a ha hm => ?_), e4⟩
  simp at hm
  have := (e4 a ha).2
  rw [hm] at this
  simp at this
end
theorem setSeat_ok {σ : Sv} {c k : Nat} {x : Sat} (h : σ.Ok c) (hx : x.Ok ∧ x.reply.size ≤ 400) : (setSeat σ k x).Ok c :=
 ⟨h.good, h.few, h.uniq, h.loose, h.len, fun j => by
  show (if j = k then x else σ.seat j).Ok ∧ (if j = k then x else σ.seat j).reply.size ≤ 400
  split
  ·exact hx
  ·exact h.seat j, h.me, h.boot⟩
theorem doneL_ok {x : Sat} {li sq : Int} {r : ByteArray} (hx : x.Ok ∧ x.reply.size ≤ 400) (h1 : U li) (h2 : U sq) (hr : r.size ≤ 400) : (doneL x li sq r).Ok ∧ (doneL x li sq r).reply.size ≤ 400 := by
 unfold doneL
 split
 ·exact ⟨⟨h1, h2⟩, hr⟩
 ·exact hx
end Go.Proofs.YtmelaiefbpdifaaGreatDoor.Srv
