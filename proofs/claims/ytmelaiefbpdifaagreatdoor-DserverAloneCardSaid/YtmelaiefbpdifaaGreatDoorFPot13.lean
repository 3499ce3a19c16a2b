/- How many rows and loose pages there may be behind so many requests. -/
import Derived.Test.YtmelaiefbpdifaaGreatDoorFAt13
namespace Go.Proofs.YtmelaiefbpdifaaGreatDoor.Srv
open Go.RowKit Go.Maps
open Pgs (Pg keyB headB ldL chgL find allZ zs chunk body lay cutB)
theorem getD_lt {l : List UInt8} {i : Nat} (hi : i < l.length) : l.getD i 0 = l[i] := by rw [List.getD_eq_getElem?_getD, List.getElem?_eq_getElem hi]; rfl
theorem allZ_get {l : List UInt8} (h : allZ l = false) : ∃ i, i < l.length ∧ l.getD i 0 ≠ 0 := by
 unfold allZ at h
 rw [List.all_eq_false] at h
 obtain ⟨a, ha, hz⟩ := h
 obtain ⟨i, hi, rfl⟩ := List.mem_iff_getElem.1 ha
 exact ⟨i, hi, by rw [getD_lt hi]; simpa using hz⟩
theorem allZ_of {l : List UInt8} {i : Nat} (h : l.getD i 0 ≠ 0) : allZ l = false := by
 unfold allZ
 rw [List.all_eq_false]
 by_cases hi : i < l.length
 ·exact ⟨l[i], List.getElem_mem hi, by rw [getD_lt hi] at h; simpa using h⟩
 ·rw [List.getD_eq_getElem?_getD, List.getElem?_eq_none (by omega)] at h
  exact absurd rfl h
theorem chunk_get (b : List UInt8) (n i : Nat) : (chunk b n)[i]? = if i < 32 then b[n * 32 + i]? else none := by
 unfold chunk
 rw [List.getElem?_take]
 split
 ·rw [List.getElem?_drop]
 ·rfl
theorem put_has {o : List Pg} {off : Int} {d : List UInt8} {n : Nat} (ho : Pgs.right o = true) (hn : n < 32) (hoff : 0 ≤ off) (hlen : off + (d.length : Int) ≤ 1024) (h : allZ (find (Pgs.putL o off d) n) = false) :
  allZ (find o n) = false ∨ (off.toNat < n * 32 + 32 ∧ n * 32 < off.toNat + d.length) := by
 by_cases ht : off.toNat < n * 32 + 32 ∧ n * 32 < off.toNat + d.length
 ·exact .inr ht
 left
 have hb := Pgs.body_len ho
 have hle : off.toNat + d.length ≤ (body o).length := by omega
 have hok : Pgs.okPut o off d = true := by
  unfold Pgs.okPut
  rw [ho, Pgs.inB_of hoff (by omega) (by omega)]
  rfl
 unfold Pgs.putL at h
 rw [if_pos hok, Pgs.pages_find (by rw [Pgs.lay_len hle]; exact hb) hn] at h
 have : chunk (lay (body o) off.toNat d) n = chunk (body o) n := by
  apply List.ext_getElem?
  intro i
  rw [chunk_get, chunk_get]
  split
  ·rename_i hi
   rw [Pgs.lay_get hle, if_neg (by omega)]
  ·rfl
 rw [this, Pgs.chunk_body ho hn] at h
 exact h
theorem cut_has {o : List Pg} {size : Int} {n : Nat} (hn : n < 32) (h : allZ (find (Pgs.cutL o size) n) = false) : allZ (find o n) = false := by
 unfold Pgs.cutL at h
 split at h
 ·rename_i hok
  have ho : Pgs.right o = true := by
   unfold Pgs.okCut at hok
   rw [Bool.and_eq_true] at hok
   exact hok.1
  have hb := Pgs.body_len ho
  have hm : (min size 1024).toNat ≤ 1024 := by omega
  rw [Pgs.pages_find (Pgs.cutB_len hb hm) hn] at h
  obtain ⟨i, hi, hz⟩ := allZ_get h
  have hi32 : i < 32 := by
   have := Pgs.chunk_len (Pgs.cutB_len hb hm) hn
   omega
  rw [List.getD_eq_getElem?_getD, chunk_get, if_pos hi32, ← List.getD_eq_getElem?_getD, Pgs.cutB_get hb hm] at hz
  split at hz
  ·rw [← Pgs.chunk_body ho hn]
   refine allZ_of (i := i) ?_
   rw [List.getD_eq_getElem?_getD, chunk_get, if_pos hi32, ← List.getD_eq_getElem?_getD]
   exact hz
  ·exact absurd rfl hz
 ·unfold find at h
  rw [Pgs.allZ_zs] at h
  cases h
structure Keys (T : List (List UInt8)) (σ : Sv) : Prop where
 rows : ∀ k v, getR σ.M k = some v → k ∈ T
 loose : ∀ q ∈ σ.L, ∀ n, n < 32 → allZ (find q.2 n) = false → keyB q.1 n ∈ T
section
variable {σ σ' : Sv} {p : Pk} {d : List UInt8} {e : Int} {T T' : List (List UInt8)} {c x : Nat}
theorem Keys.more (h : Keys T σ) (hs : ∀ k ∈ T, k ∈ T') : Keys T' σ := ⟨fun k v hk => hs _ (h.rows k v hk), fun q hq n hn hz => hs _ (h.loose q hq n hn hz)⟩
theorem Keys.sure (h : Keys T σ) (hS : Snd σ.M) (hx : x < 4294967296) {n : Nat} (hn : n < 32) (hz : allZ (find (sureL σ.M x) n) = false) : keyB x n ∈ T := by
 have := (hS x hx).pages n hn
 rw [hz] at this
 exact h.rows _ _ this
theorem Keys.obj (h : Keys T σ) (hS : Snd σ.M) (hx : x < 4294967296) {n : Nat} (hn : n < 32) (hz : allZ (find (objL σ x) n) = false) : keyB x n ∈ T := by
 unfold objL at hz
 cases hl : lookL σ.L x with
 | none =>
  rw [hl] at hz
  exact h.sure hS hx hn hz
 | some o =>
  rw [hl] at hz
  exact h.loose _ (look_some hl) n hn hz
theorem keys_settled (h : Keys T σ) (hR : Roomy σ) (hS : Snd σ.M) (hx : x < 4294967296) {o : List Pg} {ch : List Ch} (ho : Pgs.right o = true) (hc : ChOk x ch) (hin : ∀ n, n < 32 → allZ (find o n) = false → keyB x n ∈ T)
  (h1 : Settled (Puts σ.N) σ x o ch e σ') : Keys (eK x :: T) σ' ∧ Snd σ'.M := by
 obtain ⟨rfl, hs, hl, _⟩ := settled_roomy hR hS hx ho hc h1
 refine ⟨⟨fun k v hk => ?_, fun q hq n hn hz => List.mem_cons_of_mem _ (h.loose q (mem_del (by rw [hl] at hq; exact hq)) n hn hz)⟩, hs.snd⟩
 by_cases hk1 : k = eK x
 ·rw [hk1]; exact List.mem_cons_self
 refine List.mem_cons_of_mem _ ?_
 by_cases hk2 : ∃ n, n < 32 ∧ k = keyB x n
 ·obtain ⟨n, hn, rfl⟩ := hk2
  have := (hs.snd x hx).pages n hn
  rw [hs.it, hk] at this
  refine hin n hn ?_
  cases hz : allZ (find o n) with
  | false => rfl
  | true => rw [hz] at this; cases this
 ·rw [hs.rest k hk1 fun n hn e => hk2 ⟨n, hn, e⟩] at hk
  exact h.rows k v hk
theorem did_keys (h : Keys T σ) (hR : Roomy σ) (hS : Snd σ.M) (hk : σ.Ok c) (hp : p.Ok) (hsz : p.data.size ≤ 128) (h1 : Did (Puts σ.N) σ p d e σ') : ∃ T', Keys T' σ' ∧ Snd σ'.M ∧ T'.length ≤ T.length + 5 := by
 have hy := file_lt hp.file
 have hstay : ∀ τ : Sv, τ = σ → ∃ T', Keys T' τ ∧ Snd τ.M ∧ T'.length ≤ T.length + 5 := fun τ e => by subst e; exact ⟨T, h, hS, by omega⟩
 have hset : ∀ (o : List Pg) (ch : List Ch), Pgs.right o = true → ChOk p.file.toNat ch → (∀ n, n < 32 → allZ (find o n) = false → keyB p.file.toNat n ∈ T) → Settled (Puts σ.N) σ p.file.toNat o ch e σ' → ∃ T', Keys T' σ' ∧ Snd σ'.M ∧ T'.length ≤ T.length + 5 := fun o ch ho hc hin hs => by
  obtain ⟨g1, g2⟩ := keys_settled h hR hS hy ho hc hin hs
  exact ⟨_, g1, g2, by simp only [List.length_cons]; omega⟩
 unfold Did at h1
 split at h1
 ·obtain ⟨_, _, rfl⟩ := h1
  unfold wrS
  split
  ·rename_i hw
   have hw2 : ¬ 1024 < p.off + (p.data.size : Int) := fun hh => by
    rw [roomy_wr hR] at hw
    split at hw
    ·exact absurd hw (by decide)
    ·exact absurd hw (by decide)
   have hdl : p.data.data.toList.length = p.data.size := by rw [Array.length_toList]; rfl
   refine ⟨((List.range 5).map fun i => keyB p.file.toNat (p.off.toNat / 32 + i)) ++ T, ⟨fun k v hk => List.mem_append_right _ (h.rows k v hk), fun q hq n hn hz => ?_⟩, hS, by simp only [List.length_append, List.length_map, List.length_range]; omega⟩
   rcases mem_put hq with rfl | hq
   ·have h0 := hp.off.1
    rcases put_has (obj_right hk _) hn h0 (by rw [hdl]; omega) hz with g | ⟨g1, g2⟩
    ·exact List.mem_append_right _ (h.obj hS hy hn g)
    ·refine List.mem_append_left _ (List.mem_map.2 ⟨n - p.off.toNat / 32, List.mem_range.2 (by rw [hdl] at g2; omega), ?_⟩)
     show keyB p.file.toNat _ = keyB p.file.toNat n
     congr 1
     omega
   ·exact List.mem_append_right _ (h.loose q hq n hn hz)
  ·exact hstay _ rfl
 split at h1
 ·exact hstay _ h1.2.2
 split at h1
 ·obtain ⟨_, h1⟩ := h1
  split at h1
  ·exact hstay _ h1.2
  ·exact hset _ _ (obj_right hk _) (ChOk.nil _) (fun n hn hz => h.obj hS hy hn hz) h1
 split at h1
 ·obtain ⟨_, h1⟩ := h1
  split at h1
  ·exact hstay _ h1.2
  split at h1
  ·exact hstay _ h1.2
  split at h1
  ·exact hstay _ h1.2
  exact hset _ _ (Pgs.cutL_right _ _) (ChOk.fe p) (fun n hn hz => h.obj hS hy hn (cut_has hn hz)) h1
 ·obtain ⟨_, h1⟩ := h1
  split at h1
  ·exact hstay _ h1.2
  exact hset _ _ rfl (ChOk.fr p) (fun n hn hz => by
   unfold find at hz
   rw [Pgs.allZ_zs] at hz
   cases hz) h1
def newK (M : List Rw) (q : Nat × List Pg) : List (List UInt8) := (q.2.filter fun g => (getR M (keyB q.1 g.n.toNat)).isNone).map fun g => keyB q.1 g.n.toNat
theorem okP_pair : ∀ (o : List Pg) (l : Int), Pgs.okP l o = true → o.Pairwise fun a b => a.n < b.n
 | [], _, _ => List.Pairwise.nil
 | q :: r, l, h => by
  obtain ⟨_, _, _, _, h5⟩ := Pgs.okP_cons.1 h
  exact List.pairwise_cons.2 ⟨fun b hb => (Pgs.okP_mem r q.n h5 b hb).1, okP_pair r q.n h5⟩
theorem keyB_two {x n m : Nat} (hn : n < 256) (hm : m < 256) (h : keyB x n = keyB x m) : n = m := by
 rw [Pgs.keyB_eq, Pgs.keyB_eq] at h
 exact Pgs.keyF_inj hn hm h
theorem newK_nodup (M : List Rw) (q : Nat × List Pg) (ho : Pgs.right q.2 = true) : (newK M q).Nodup := by
 have h1 := (okP_pair q.2 (-1) ho).filter fun g => (getR M (keyB q.1 g.n.toNat)).isNone
 refine List.pairwise_map.2 (h1.imp_of_mem fun {a b} ha hb hab e => ?_)
 obtain ⟨a1, a2, _⟩ := Pgs.okP_mem q.2 (-1) ho a (List.mem_filter.1 ha).1
 obtain ⟨b1, b2, _⟩ := Pgs.okP_mem q.2 (-1) ho b (List.mem_filter.1 hb).1
 have := keyB_two (by omega) (by omega) e
 omega
theorem newK_mem {M : List Rw} {q : Nat × List Pg} (ho : Pgs.right q.2 = true) {k : List UInt8} (h : k ∈ newK M q) : getR M k = none ∧ ∃ n, n < 32 ∧ allZ (find q.2 n) = false ∧ k = keyB q.1 n := by
 obtain ⟨g, hg, rfl⟩ := List.mem_map.1 h
 obtain ⟨g1, g2⟩ := List.mem_filter.1 hg
 obtain ⟨a1, a2, _, a4⟩ := Pgs.okP_mem q.2 (-1) ho g g1
 refine ⟨by simpa using g2, g.n.toNat, by omega, ?_, rfl⟩
 rw [Pgs.find_of_mem q.2 (-1) g g.n.toNat ho g1 (by omega)]
 exact a4
theorem newK_len (M : List Rw) (q : Nat × List Pg) : (newK M q).length = freshN M q.1 q.2 := by
 unfold newK freshN
 rw [List.length_map]
theorem newAll_nodup (M : List Rw) : ∀ (L : List (Nat × List Pg)), Uniq L → (∀ q ∈ L, Pgs.right q.2 = true ∧ q.1 < 4294967296) → (L.flatMap (newK M)).Nodup
 | [], _, _ => List.nodup_nil
 | q :: r, hu, h => by
  obtain ⟨h1, h2⟩ := List.pairwise_cons.1 hu
  rw [List.flatMap_cons, List.nodup_append]
  refine ⟨newK_nodup M q (h q (by simp)).1, newAll_nodup M r h2 fun q hq => h q (List.mem_cons_of_mem _ hq), fun a ha b hb e => ?_⟩
  subst e
  obtain ⟨q', hq', hb⟩ := List.mem_flatMap.1 hb
  obtain ⟨_, n, _, _, e1⟩ := newK_mem (h q (by simp)).1 ha
  obtain ⟨_, n', _, _, e2⟩ := newK_mem (h q' (List.mem_cons_of_mem _ hq')).1 hb
  have hp : preK (headB q.1) a = true := by rw [e1]; exact Pgs.pre_key _ _
  have hp' : preK (headB q'.1) a = true := by rw [e2]; exact Pgs.pre_key _ _
  exact h1 q' hq' (Pgs.pre_two (h q (by simp)).2 (h q' (List.mem_cons_of_mem _ hq')).2 hp hp')
theorem newAll_len (M : List Rw) : ∀ (L : List (Nat × List Pg)), (L.flatMap (newK M)).length = sumF M L
 | [] => rfl
 | q :: r => by
  rw [List.flatMap_cons, List.length_append, newK_len, newAll_len M r]
  unfold sumF
  rw [List.map_cons, List.sum_cons]
theorem roomy_of (hk : σ.Ok c) (h : Keys T σ) (hT : T.length ≤ 300) (hN : σ.N = 459) : Roomy σ := by
 have hnd : (σ.M.map Rw.key).Nodup := nodup_map_of hk.good.sorted.keys
 have hget : ∀ r ∈ σ.M, getR σ.M r.key = some r.val := fun r hr => by rw [getR, findR_of hk.good.sorted hr]; rfl
 have hall : (σ.M.map Rw.key ++ σ.L.flatMap (newK σ.M)).Nodup := by
  rw [List.nodup_append]
  refine ⟨hnd, newAll_nodup σ.M σ.L hk.uniq hk.loose, fun a ha b hb e => ?_⟩
  subst e
  obtain ⟨r, hr, rfl⟩ := List.mem_map.1 ha
  obtain ⟨q, hq, hb⟩ := List.mem_flatMap.1 hb
  have := (newK_mem (hk.loose q hq).1 hb).1
  rw [hget r hr] at this
  cases this
 have hle := nodup_le _ T hall (fun k hk' => by
  rcases List.mem_append.1 hk' with h1 | h1
  ·obtain ⟨r, hr, rfl⟩ := List.mem_map.1 h1
   exact h.rows _ _ (hget r hr)
  ·obtain ⟨q, hq, hb⟩ := List.mem_flatMap.1 h1
   obtain ⟨_, n, hn, hz, rfl⟩ := newK_mem (hk.loose q hq).1 hb
   exact h.loose q hq n hn hz)
 rw [List.length_append, List.length_map, newAll_len] at hle
 refine ⟨by omega, ?_⟩
 unfold roomI
 omega
end
end Go.Proofs.YtmelaiefbpdifaaGreatDoor.Srv
