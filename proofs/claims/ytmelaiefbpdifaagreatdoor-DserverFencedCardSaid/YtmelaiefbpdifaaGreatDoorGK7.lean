/- Joined: Deaf13, Like13, Once13, At13 -/
import Derived.Test.YtmelaiefbpdifaaGreatDoorGOp14
import Derived.Deep.CutBlock
import Derived.Deep.DeepCutAuto
import Derived.Deep.LoopGhost
namespace Go.Proofs.YtmelaiefbpdifaaGreatDoor.Srv
open Go.RowKit Go.Maps
open Pgs (Pg pgE)
def p1 (p : Pk) : Pk := { p with asked := 1 }
theorem u_one : U 1 := by unfold U; decide
theorem p1_ok {p : Pk} (h : p.Ok) : (p1 p).Ok := ⟨h.kind, h.frm, h.dst, h.life, h.seq, u_one, h.boot, h.code, h.err, h.file, h.epoch, h.off, h.len, h.size, h.mode, h.deny, h.handle⟩
theorem act_pk {w : World} {A : Option Addr} {l : List Ac} (h : Els acE 23 w A l) {k : Nat} (hk : k < l.length) : ∃ g o, A = some ⟨g, o, none⟩ ∧ w.rangeAt g (o + k * 23 + 3) (pkA l[k].p).toList := by
 obtain ⟨g, o, rfl, _, hat⟩ := h.get hk
 refine ⟨g, o, rfl, fun j v hj => ?_⟩
 have := hat k hk (3 + j) v (by
  unfold acE
  rw [List.getElem?_append_right (by simp)]
  simpa using hj)
 rw [show o + k * 23 + (3 + j) = o + k * 23 + 3 + j by omega] at this
 exact this
structure Seen (w0 w : World) (ge go : Nat) (σ : Sv) (i j : Nat) : Prop where
 eps : ∃ cs : Array Value, cs.size = 6 ∧ Blk w ge 76 cs ∧ ∀ k, k < i → cs[k]? = some (.int .u32 (epN σ.M k : Int))
 obs : ∃ cs : Array Value, cs.size = 6 ∧ Blk w go 77 cs ∧ ∀ k, k < j → ∃ A c, cs[k]? = some (.slice A (objL σ k).length c) ∧ Els pgE 2 w A (objL σ k) ∧ ∀ a, A = some a → w0.heap.size ≤ a.block ∧ a.block ≠ ge ∧ a.block ≠ go
 new : w0.heap.size ≤ ge ∧ w0.heap.size ≤ go ∧ ge ≠ go
section
variable {w0 w w' : World} {ge go i j : Nat} {σ : Sv}
theorem Seen.past {S : List Nat} (h : Seen w0 w ge go σ i j) (k : Only S w w') (hS : ∀ x ∈ S, x < w0.heap.size) : Seen w0 w' ge go σ i j := by
 obtain ⟨⟨cs, h1, h2, h3⟩, ⟨ds, d1, d2, d3⟩, n1, n2, n3⟩ := h
 refine ⟨⟨cs, h1, h2.kept k (fun hm => by have := hS _ hm; omega), h3⟩, ⟨ds, d1, d2.kept k (fun hm => by have := hS _ hm; omega), fun x hx => ?_⟩, n1, n2, n3⟩
 obtain ⟨A, c, e1, e2, e3⟩ := d3 x hx
 exact ⟨A, c, e1, e2.kept k (fun a ha hm => by have := hS _ hm; have := (e3 a ha).1; omega), e3⟩
theorem Seen.keep (h : Seen w0 w ge go σ i j) (k : Only [] w w') : Seen w0 w' ge go σ i j := h.past k (by simp)
theorem Seen.ep {k : Nat} (h : Seen w0 w ge go σ k j) (hk : k < 6) : Seen w0 (w.setCell ⟨ge, k, none⟩ (.int .u32 (epN σ.M k : Int))) ge go σ (k + 1) j := by
 obtain ⟨⟨cs, h1, h2, h3⟩, ⟨ds, d1, d2, d3⟩, n1, n2, n3⟩ := h
 have ko : Only [ge] w (w.setCell ⟨ge, k, none⟩ (.int .u32 (epN σ.M k : Int))) := (Only.refl [ge] w).setCell (.inl (by simp)) _
 refine ⟨⟨_, by simpa using h1, h2.set k _, fun x hx => ?_⟩, ⟨ds, d1, d2.kept ko (by simpa using fun h => n3 h.symm), fun x hx => ?_⟩, n1, n2, n3⟩
 ·by_cases hx' : x = k
  ·subst hx'
   rw [Array.getElem?_setIfInBounds_self_of_lt (by omega)]
  ·rw [Array.getElem?_setIfInBounds_ne (by omega)]
   exact h3 x (by omega)
 ·obtain ⟨A, c, e1, e2, e3⟩ := d3 x hx
  exact ⟨A, c, e1, e2.kept ko (fun a ha => by simpa using (e3 a ha).2.1), e3⟩
theorem Seen.ob {k c : Nat} {A : Option Addr} (h : Seen w0 w ge go σ i k) (hk : k < 6) (hA : Els pgE 2 w A (objL σ k)) (ha : ∀ a, A = some a → w0.heap.size ≤ a.block ∧ a.block ≠ ge ∧ a.block ≠ go) : Seen w0 (w.setCell ⟨go, k, none⟩ (.slice A (objL σ k).length c)) ge go σ i (k + 1) := by
 obtain ⟨⟨cs, h1, h2, h3⟩, ⟨ds, d1, d2, d3⟩, n1, n2, n3⟩ := h
 have ko : Only [go] w (w.setCell ⟨go, k, none⟩ (.slice A (objL σ k).length c)) := (Only.refl [go] w).setCell (.inl (by simp)) _
 refine ⟨⟨cs, h1, h2.kept ko (by simpa using n3), h3⟩, ⟨_, by simpa using d1, d2.set k _, fun x hx => ?_⟩, n1, n2, n3⟩
 by_cases hx' : x = k
 ·subst hx'
  exact ⟨A, c, by rw [Array.getElem?_setIfInBounds_self_of_lt (by omega)], hA.kept ko (fun a h => by simpa using (ha a h).2.2), ha⟩
 ·obtain ⟨A', c', e1, e2, e3⟩ := d3 x (by omega)
  exact ⟨A', c', by rw [Array.getElem?_setIfInBounds_ne (by omega)]; exact e1, e2.kept ko (fun a h => by simpa using (e3 a h).2.2), e3⟩
theorem Seen.cellE {k : Nat} (h : Seen w0 w ge go σ i j) (hk : k < 6) : (∃ v, w.cell? ⟨ge, k, none⟩ = some v) ∧ w.frozen? ⟨ge, k, none⟩ = false ∧ ge < w.heap.size := by
 obtain ⟨⟨cs, h1, h2, _⟩, _⟩ := h
 exact ⟨⟨cs[k]'(by omega), by rw [h2.cell k]; exact Array.getElem?_eq_getElem (by omega)⟩, h2.free k, h2.lt⟩
theorem Seen.cellO {k : Nat} (h : Seen w0 w ge go σ i j) (hk : k < 6) : (∃ v, w.cell? ⟨go, k, none⟩ = some v) ∧ w.frozen? ⟨go, k, none⟩ = false ∧ go < w.heap.size := by
 obtain ⟨_, ⟨cs, h1, h2, _⟩, _⟩ := h
 exact ⟨⟨cs[k]'(by omega), by rw [h2.cell k]; exact Array.getElem?_eq_getElem (by omega)⟩, h2.free k, h2.lt⟩
theorem Seen.readE {k : Nat} (h : Seen w0 w ge go σ i j) (hk : k < i) : w.cell? ⟨ge, k, none⟩ = some (.int .u32 (epN σ.M k : Int)) := by
 obtain ⟨⟨cs, h1, h2, h3⟩, _⟩ := h
 rw [h2.cell k, h3 k hk]
theorem Seen.readO {k : Nat} (h : Seen w0 w ge go σ i j) (hk : k < j) : ∃ A c, w.cell? ⟨go, k, none⟩ = some (.slice A (objL σ k).length c) ∧ Els pgE 2 w A (objL σ k) := by
 obtain ⟨_, ⟨cs, h1, h2, h3⟩, _⟩ := h
 obtain ⟨A, c, e1, e2, _⟩ := h3 k hk
 exact ⟨A, c, by rw [h2.cell k, e1], e2⟩
end
end Go.Proofs.YtmelaiefbpdifaaGreatDoor.Srv
namespace Go.Proofs.YtmelaiefbpdifaaGreatDoor.Srv
open Go.RowKit Go.Maps
open Pgs (Pg keyB headB ldL chgL)
theorem getR_chs {M M' : List Rw} (h : Sorted M) (h' : Sorted M') (e : M.map chOf = M'.map chOf) (k : List UInt8) : getR M k = getR M' k := by
 have hh : ∀ {L L' : List Rw}, Sorted L → Sorted L' → L.map chOf = L'.map chOf → ∀ v, getR L k = some v → getR L' k = some v := fun {L L'} hL hL' e v hv => by
  obtain ⟨r, _, hr, hk, hval⟩ := getR_some hv
  have hm : chOf r ∈ L'.map chOf := by rw [← e]; exact List.mem_map.2 ⟨r, hr, rfl⟩
  obtain ⟨r', hr', e'⟩ := List.mem_map.1 hm
  have e1 : r'.key = r.key := congrArg Ch.key e'
  have e2 : r'.val = r.val := congrArg Ch.val e'
  rw [getR, ← hk, ← e1, findR_of hL' hr', ← hval, ← e2]
  rfl
 cases hv : getR M k with
 | some v => exact (hh h h' e v hv).symm
 | none =>
  cases hv' : getR M' k with
  | none => rfl
  | some v => rw [hh h' h e.symm v hv'] at hv; cases hv
theorem news_same {M M' : List Rw} (h : ∀ k, getR M k = getR M' k) (l : List Ch) : newsL M l = newsL M' l ∧ growthL M (newsL M l) = growthL M' (newsL M l) := by
 have hs : ∀ k, (findR M k).isSome = (findR M' k).isSome := fun k => by rw [(get_val M k).2, (get_val M' k).2, h k]
 have hv : ∀ k, valL M k = valL M' k := fun k => by rw [(get_val M k).1, (get_val M' k).1, h k]
 constructor
 ·exact List.filter_congr fun c _ => by unfold isNews; rw [hs, hv]
 ·have : ∀ L : List Ch, growthL M L = growthL M' L := fun L => by
   induction L with
   | nil => rfl
   | cons c r ih => simp only [growthL, stepC, hs, ih]
  exact this _
structure Like (σ τ : Sv) : Prop where
 num : σ.N = τ.N
 me : σ.me = τ.me
 boot : σ.boot = τ.boot
 up : σ.up = τ.up
 rows : σ.M.map chOf = τ.M.map chOf
 loose : σ.L = τ.L
 seat : σ.seat = τ.seat
 good : Good σ.N σ.M
 good' : Good τ.N τ.M
section
variable {σ τ σ' τ' : Sv} {p r r' : Pk} {d d' : List UInt8} {e e' : Int} {ok ok' : Bool} {c : Nat}
theorem Like.refl (h : Good σ.N σ.M) : Like σ σ := ⟨rfl, rfl, rfl, rfl, rfl, rfl, rfl, h, h⟩
theorem Like.get (h : Like σ τ) (k : List UInt8) : getR σ.M k = getR τ.M k := getR_chs h.good.sorted h.good'.sorted h.rows k
theorem Like.len (h : Like σ τ) : σ.M.length = τ.M.length := by have := congrArg List.length h.rows; simpa using this
theorem under_map (M : List Rw) (q : List UInt8) : underL M q = (M.map chOf).filter fun r => preK q r.key := by
 unfold underL
 rw [List.filter_map]
 rfl
theorem Like.under (h : Like σ τ) (q : List UInt8) : underL σ.M q = underL τ.M q := by rw [under_map, under_map, h.rows]
theorem Like.fresh (h : Like σ τ) (x : Nat) (o : List Pg) : freshN σ.M x o = freshN τ.M x o := by
 unfold freshN
 congr 1
 exact List.filter_congr fun q _ => by rw [h.get]
theorem Like.sure (h : Like σ τ) (x : Nat) : sureL σ.M x = sureL τ.M x := by unfold sureL; rw [h.under]
theorem Like.epN (h : Like σ τ) (x : Nat) : epN σ.M x = epN τ.M x := by unfold Srv.epN; rw [h.get]
theorem Like.cur (h : Like σ τ) (x : Nat) (n : Int) : cur σ.M x n = cur τ.M x n := by unfold Srv.cur epB; rw [h.epN, h.get]
theorem Like.obj (h : Like σ τ) (x : Nat) : objL σ x = objL τ x := by unfold objL; rw [h.loose, h.sure]
theorem Like.room (h : Like σ τ) : roomI σ = roomI τ := by
 unfold roomI sumF
 rw [h.num, h.len, h.under, h.loose]
 have : (τ.L.map fun q => freshN σ.M q.1 q.2) = τ.L.map fun q => freshN τ.M q.1 q.2 := List.map_congr_left fun q _ => h.fresh _ _
 rw [this]
theorem Like.was (h : Like σ τ) (p : Pk) : wasO σ p = wasO τ p := h.obj _
theorem Like.now (h : Like σ τ) (p : Pk) : nowO σ p = nowO τ p := by unfold nowO; rw [h.was]
theorem Like.more (h : Like σ τ) (p : Pk) : moreI σ p = moreI τ p := by unfold moreI; rw [h.now, h.was, h.fresh, h.fresh]
theorem Like.wrE (h : Like σ τ) (p : Pk) : wrE σ p = wrE τ p := by unfold Srv.wrE; rw [h.cur, h.more, h.room]
theorem Like.wrS (h : Like σ τ) (p : Pk) : Like (wrS σ p) (wrS τ p) := by
 unfold Srv.wrS
 rw [h.wrE]
 split
 ·exact ⟨h.num, h.me, h.boot, h.up, h.rows, by show putLo σ.L _ _ = putLo τ.L _ _; rw [h.loose, h.now], h.seat, h.good, h.good'⟩
 ·exact h
theorem Like.rdE (h : Like σ τ) (p : Pk) : rdE σ p = rdE τ p := by unfold Srv.rdE; rw [h.cur]
theorem Like.rdD (h : Like σ τ) (p : Pk) : rdD σ p = rdD τ p := by unfold Srv.rdD; rw [h.rdE, h.was]
theorem Like.reply (h : Like σ τ) (p : Pk) (d : List UInt8) (e : Int) : replyP σ p d e = replyP τ p d e := by unfold replyP; rw [h.me, h.boot]
theorem puts_like {N : Nat} {M M1 M' M1' : List Rw} {l : List Ch} {x x1 : Int} (he : M.map chOf = M1.map chOf) (hG : Good N M) (hG1 : Good N M1) (h : Puts N M l x M') (h1 : Puts N M1 l x1 M1') : x = x1 ∧ M'.map chOf = M1'.map chOf := by
 have hget := getR_chs hG.sorted hG1.sorted he
 obtain ⟨hn1, hn2⟩ := news_same hget l
 have hl : M.length = M1.length := by have := congrArg List.length he; simpa using this
 have hgr : growthL M1 (newsL M1 l) = growthL M (newsL M l) := by rw [← hn1, hn2]
 have haft : ∀ k, afterK l M k = afterK l M1 k := fun k => by unfold afterK; rw [hget]
 rcases h with ⟨a1, rfl, rfl⟩ | ⟨a1, a2, rfl, rfl⟩ | ⟨a1, a2, rfl, a4, a5⟩ <;> rcases h1 with ⟨b1, rfl, rfl⟩ | ⟨b1, b2, rfl, rfl⟩ | ⟨b1, b2, rfl, b4, b5⟩
 ·exact ⟨rfl, he⟩
 ·exact absurd b1 a1
 ·exact absurd b1 a1
 ·exact absurd a1 b1
 ·exact ⟨rfl, he⟩
 ·exfalso; omega
 ·exact absurd a1 b1
 ·exfalso; omega
 ·exact ⟨rfl, chs_ext a4.sorted b4.sorted fun k => by rw [a5, b5, haft]⟩
theorem settled_like (h : Like σ τ) {x : Nat} {o : List Pg} {ch : List Ch} (h1 : Settled (Puts σ.N) σ x o ch e σ') (h2 : Settled (Puts τ.N) τ x o ch e' τ') : e = e' ∧ Like σ' τ' := by
 obtain ⟨M', hp, rfl⟩ := h1
 obtain ⟨M1', hp1, rfl⟩ := h2
 have hs : setCh σ.M x o ch = setCh τ.M x o ch := by unfold setCh; rw [h.sure]
 have g' := hp.good h.good
 have g1' := hp1.good h.good'
 rw [hs, h.num] at hp
 obtain ⟨rfl, hm⟩ := puts_like h.rows (by rw [← h.num]; exact h.good) h.good' hp hp1
 refine ⟨rfl, h.num, h.me, h.boot, h.up, hm, ?_, h.seat, g', g1'⟩
 show (if e = 0 then delLo σ.L x else σ.L) = (if e = 0 then delLo τ.L x else τ.L)
 rw [h.loose]
theorem did_like (h : Like σ τ) (h1 : Did (Puts σ.N) σ p d e σ') (h2 : Did (Puts τ.N) τ p d' e' τ') : d = d' ∧ e = e' ∧ Like σ' τ' := by
 unfold Did at h1 h2
 by_cases c1 : p.code = 1
 ·rw [if_pos c1] at h1 h2
  obtain ⟨rfl, rfl, rfl⟩ := h1
  obtain ⟨rfl, rfl, rfl⟩ := h2
  exact ⟨rfl, h.wrE p, h.wrS p⟩
 rw [if_neg c1] at h1 h2
 by_cases c2 : p.code = 2
 ·rw [if_pos c2] at h1 h2
  obtain ⟨rfl, rfl, rfl⟩ := h1
  obtain ⟨rfl, rfl, rfl⟩ := h2
  exact ⟨h.rdD p, h.rdE p, h⟩
 rw [if_neg c2] at h1 h2
 by_cases c3 : p.code = 3
 ·rw [if_pos c3] at h1 h2
  obtain ⟨rfl, h1⟩ := h1
  obtain ⟨rfl, h2⟩ := h2
  rw [h.cur, h.was] at h1
  split at h1
  ·rename_i hc
   rw [if_pos hc] at h2
   obtain ⟨rfl, rfl⟩ := h1
   obtain ⟨rfl, rfl⟩ := h2
   exact ⟨rfl, rfl, h⟩
  ·rename_i hc
   rw [if_neg hc] at h2
   exact ⟨rfl, settled_like h h1 h2⟩
 rw [if_neg c3] at h1 h2
 by_cases c4 : p.code = 4
 ·rw [if_pos c4] at h1 h2
  obtain ⟨rfl, h1⟩ := h1
  obtain ⟨rfl, h2⟩ := h2
  rw [h.epN, h.was] at h1
  by_cases q1 : p.frm ≠ 0
  ·rw [if_pos q1] at h1 h2
   obtain ⟨rfl, rfl⟩ := h1
   obtain ⟨rfl, rfl⟩ := h2
   exact ⟨rfl, rfl, h⟩
  rw [if_neg q1] at h1 h2
  by_cases q2 : p.epoch < (Srv.epN τ.M p.file.toNat : Int) ∨ p.epoch = 0
  ·rw [if_pos q2] at h1 h2
   obtain ⟨rfl, rfl⟩ := h1
   obtain ⟨rfl, rfl⟩ := h2
   exact ⟨rfl, rfl, h⟩
  rw [if_neg q2] at h1 h2
  by_cases q3 : (Srv.epN τ.M p.file.toNat : Int) = p.epoch
  ·rw [if_pos q3] at h1 h2
   obtain ⟨rfl, rfl⟩ := h1
   obtain ⟨rfl, rfl⟩ := h2
   exact ⟨rfl, rfl, h⟩
  rw [if_neg q3] at h1 h2
  exact ⟨rfl, settled_like h h1 h2⟩
 ·rw [if_neg c4] at h1 h2
  obtain ⟨rfl, h1⟩ := h1
  obtain ⟨rfl, h2⟩ := h2
  by_cases q1 : p.frm ≠ 0
  ·rw [if_pos q1] at h1 h2
   obtain ⟨rfl, rfl⟩ := h1
   obtain ⟨rfl, rfl⟩ := h2
   exact ⟨rfl, rfl, h⟩
  rw [if_neg q1] at h1 h2
  exact ⟨rfl, settled_like h h1 h2⟩
theorem handled_like (h : Like σ τ) (h1 : Handled (Puts σ.N) σ p r ok σ') (h2 : Handled (Puts τ.N) τ p r' ok' τ') : r = r' ∧ ok = ok' ∧ Like σ' τ' := by
 have hT : (τ.up = true ∧ takes τ p) = (σ.up = true ∧ takes σ p) := by unfold takes; rw [h.up, h.me]
 have hJ : judgeP τ p = judgeP σ p := by unfold judgeP; rw [h.seat]
 unfold Handled at h1 h2
 rw [hT, hJ, ← h.boot] at h2
 generalize (σ.up = true ∧ takes σ p) = T at h1 h2
 generalize judgeP σ p = J at h1 h2
 clear hT hJ
 rcases h1 with ⟨a1, a⟩ | ⟨a1, a2, a⟩ | ⟨a1, a2, a3, a⟩ | ⟨a1, a2, a3, a⟩ | ⟨a1, a2, a3, a⟩ <;> rcases h2 with ⟨b1, b⟩ | ⟨b1, b2, b⟩ | ⟨b1, b2, b3, b⟩ | ⟨b1, b2, b3, b⟩ | ⟨b1, b2, b3, b⟩
 all_goals first
  | exact absurd a1 b1
  | exact absurd b1 a1
  | exact absurd a2 b2
  | exact absurd b2 a2
  | (exfalso; clear a b h; omega)
  | skip
 ·obtain ⟨e1, e2, e3⟩ := a
  obtain ⟨f1, f2, f3⟩ := b
  rw [e1, e2, e3, f1, f2, f3]
  exact ⟨rfl, rfl, h⟩
 ·obtain ⟨e1, e2, e3⟩ := a
  obtain ⟨f1, f2, f3⟩ := b
  rw [e1, e2, e3, f1, f2, f3]
  exact ⟨h.reply p _ _, rfl, h⟩
 ·obtain ⟨d, e, σ1, q1, e1, e2, e3⟩ := exec_live a
  obtain ⟨d', e', τ1, q2, f1, f2, f3⟩ := exec_live b
  obtain ⟨rfl, rfl, hl⟩ := did_like h q1 q2
  rw [e1, e2, e3, f1, f2, f3]
  refine ⟨h.reply p _ _, rfl, hl.num, hl.me, hl.boot, hl.up, hl.rows, hl.loose, ?_, hl.good, hl.good'⟩
  funext j
  show (if j = p.frm.toNat then _ else σ1.seat j) = (if j = p.frm.toNat then _ else τ1.seat j)
  rw [h.seat, h.reply, hl.seat]
 ·obtain ⟨e1, e2, e3⟩ := a
  obtain ⟨f1, f2, f3⟩ := b
  rw [e1, e2, e3, f1, f2, f3, h.seat]
  exact ⟨rfl, rfl, h⟩
 ·obtain ⟨e1, e2, e3⟩ := a
  obtain ⟨f1, f2, f3⟩ := b
  rw [e1, e2, e3, f1, f2, f3]
  exact ⟨rfl, rfl, h⟩
end
end Go.Proofs.YtmelaiefbpdifaaGreatDoor.Srv
namespace Go.Proofs.YtmelaiefbpdifaaGreatDoor.Srv
open Go.RowKit Go.Maps
open Pgs (Pg pgE)
theorem like_new {N : Nat} {M M' : List Rw} (h : Good N M) (h' : Good N M') (g : ∀ k, getR M k = afterK (boCh 1) [] k) (g' : ∀ k, getR M' k = afterK (boCh 1) [] k) : Like (srv0 N 1 1 M) (srv0 N 1 1 M') :=
 ⟨rfl, rfl, rfl, rfl, chs_ext h.sorted h'.sorted fun k => (g k).trans (g' k).symm, rfl, rfl, h, h'⟩
end Go.Proofs.YtmelaiefbpdifaaGreatDoor.Srv
namespace Go.Proofs.YtmelaiefbpdifaaGreatDoor.Srv
open Go.RowKit Go.Maps
open Pgs (Pg keyB headB ldL chgL)
structure At (x : Nat) (σ τ : Sv) : Prop where
 ep : getR σ.M (eK x) = getR τ.M (eK x)
 sure : sureL σ.M x = sureL τ.M x
 obj : objL σ x = objL τ x
section
variable {σ τ σ' τ' : Sv} {p r r' : Pk} {d d' : List UInt8} {e e' : Int} {ok ok' : Bool} {x c c' : Nat}
theorem At.refl (x : Nat) (σ : Sv) : At x σ σ := ⟨rfl, rfl, rfl⟩
theorem At.trans {υ : Sv} (h : At x σ τ) (g : At x τ υ) : At x σ υ := ⟨h.ep.trans g.ep, h.sure.trans g.sure, h.obj.trans g.obj⟩
theorem At.symm (h : At x σ τ) : At x τ σ := ⟨h.ep.symm, h.sure.symm, h.obj.symm⟩
theorem At.epN (h : At x σ τ) : epN σ.M x = epN τ.M x := by unfold Srv.epN; rw [h.ep]
theorem At.cur (h : At x σ τ) (n : Int) : cur σ.M x n = cur τ.M x n := by unfold Srv.cur epB; rw [h.epN, h.ep]
theorem obj_del {y : Nat} (h : σ'.L = delLo σ.L x) (hy : y ≠ x) (hs : sureL σ'.M y = sureL σ.M y) : objL σ' y = objL σ y := by
 unfold objL
 rw [h, look_del_other hy, hs]
theorem obj_del_same (h : σ'.L = delLo σ.L x) : objL σ' x = sureL σ'.M x := by
 unfold objL
 rw [h, look_del_same]
 rfl
theorem file_lt (hp : U p.file) : p.file.toNat < 4294967296 := by obtain ⟨h1, h2⟩ := hp; omega
end
end Go.Proofs.YtmelaiefbpdifaaGreatDoor.Srv
