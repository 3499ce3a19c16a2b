/- The same requests have the same answers; a request that comes twice is done once. -/
import Derived.Test.YtmelaiefbpdifaaGreatDoorEOp14
namespace Go.Proofs.YtmelaiefbpdifaaGreatDoor.Srv
open Go.RowKit Go.Maps
open Pgs (Pg keyB headB ldL chgL)
theorem getR_chs {M M' : List Rw} (h : Sorted M) (h' : Sorted M') (e : M.map chOf = M'.map chOf) (k : List UInt8) : getR M k = getR M' k := by
  have hh : ∀ {L L' : List Rw}, Sorted L → Sorted L' → L.map chOf = L'.map chOf → ∀ v, getR L k = some v → getR L' k = some v := fun {L L'} hL hL' e v hv => by
    obtain ⟨r, _, hr, hk, hval⟩ := getR_some hv
    have hm : chOf r ∈ L'.map chOf := by rw [← e]; exact List.mem_map.2 ⟨r, hr, rfl⟩
    obtain ⟨r', hr', e'⟩ := List.mem_map.1 hm
    have e1 : r'.key = r.key := congrArg Ch.key e'
    have e2 : r'.val = r.val := congrArg Ch.val e'
    rw [getR, ← hk, ← e1, findR_of hL' hr', ← hval, ← e2]
    rfl
  cases hv : getR M k with
  | some v => exact (hh h h' e v hv).symm
  | none =>
    cases hv' : getR M' k with
    | none => rfl
    | some v => rw [hh h' h e.symm v hv'] at hv; cases hv
theorem news_same {M M' : List Rw} (h : ∀ k, getR M k = getR M' k) (l : List Ch) : newsL M l = newsL M' l ∧ growthL M (newsL M l) = growthL M' (newsL M l) := by
  have hs : ∀ k, (findR M k).isSome = (findR M' k).isSome := fun k => by rw [(get_val M k).2, (get_val M' k).2, h k]
  have hv : ∀ k, valL M k = valL M' k := fun k => by rw [(get_val M k).1, (get_val M' k).1, h k]
  constructor
  · exact List.filter_congr fun c _ => by unfold isNews; rw [hs, hv]
  · have : ∀ L : List Ch, growthL M L = growthL M' L := fun L => by
      induction L with
      | nil => rfl
      | cons c r ih => simp only [growthL, stepC, hs, ih]
    exact this _
structure Like (σ τ : Sv) : Prop where
  num : σ.N = τ.N
  me : σ.me = τ.me
  boot : σ.boot = τ.boot
  up : σ.up = τ.up
  rows : σ.M.map chOf = τ.M.map chOf
  loose : σ.L = τ.L
  seat : σ.seat = τ.seat
  good : Good σ.N σ.M
  good' : Good τ.N τ.M
section
variable {σ τ σ' τ' : Sv} {p r r' : Pk} {d d' : List UInt8} {e e' : Int} {ok ok' : Bool} {c : Nat}
theorem Like.refl (h : Good σ.N σ.M) : Like σ σ := ⟨rfl, rfl, rfl, rfl, rfl, rfl, rfl, h, h⟩
theorem Like.get (h : Like σ τ) (k : List UInt8) : getR σ.M k = getR τ.M k := getR_chs h.good.sorted h.good'.sorted h.rows k
theorem Like.len (h : Like σ τ) : σ.M.length = τ.M.length := by have := congrArg List.length h.rows; simpa using this
theorem under_map (M : List Rw) (q : List UInt8) : underL M q = (M.map chOf).filter fun r => preK q r.key := by
  unfold underL
  rw [List.filter_map]
  rfl
theorem Like.under (h : Like σ τ) (q : List UInt8) : underL σ.M q = underL τ.M q := by rw [under_map, under_map, h.rows]
theorem Like.fresh (h : Like σ τ) (x : Nat) (o : List Pg) : freshN σ.M x o = freshN τ.M x o := by
  unfold freshN
  congr 1
  exact List.filter_congr fun q _ => by rw [h.get]
theorem Like.sure (h : Like σ τ) (x : Nat) : sureL σ.M x = sureL τ.M x := by unfold sureL; rw [h.under]
theorem Like.epN (h : Like σ τ) (x : Nat) : epN σ.M x = epN τ.M x := by unfold Srv.epN; rw [h.get]
theorem Like.cur (h : Like σ τ) (x : Nat) (n : Int) : cur σ.M x n = cur τ.M x n := by unfold Srv.cur epB; rw [h.epN, h.get]
theorem Like.obj (h : Like σ τ) (x : Nat) : objL σ x = objL τ x := by unfold objL; rw [h.loose, h.sure]
theorem Like.room (h : Like σ τ) : roomI σ = roomI τ := by
  unfold roomI sumF
  rw [h.num, h.len, h.under, h.loose]
  have : (τ.L.map fun q => freshN σ.M q.1 q.2) = τ.L.map fun q => freshN τ.M q.1 q.2 := List.map_congr_left fun q _ => h.fresh _ _
  rw [this]
theorem Like.was (h : Like σ τ) (p : Pk) : wasO σ p = wasO τ p := h.obj _
theorem Like.now (h : Like σ τ) (p : Pk) : nowO σ p = nowO τ p := by unfold nowO; rw [h.was]
theorem Like.more (h : Like σ τ) (p : Pk) : moreI σ p = moreI τ p := by unfold moreI; rw [h.now, h.was, h.fresh, h.fresh]
theorem Like.wrE (h : Like σ τ) (p : Pk) : wrE σ p = wrE τ p := by unfold Srv.wrE; rw [h.cur, h.more, h.room]
theorem Like.wrS (h : Like σ τ) (p : Pk) : Like (wrS σ p) (wrS τ p) := by
  unfold Srv.wrS
  rw [h.wrE]
  split
  · exact ⟨h.num, h.me, h.boot, h.up, h.rows, by show putLo σ.L _ _ = putLo τ.L _ _; rw [h.loose, h.now], h.seat, h.good, h.good'⟩
  · exact h
theorem Like.rdE (h : Like σ τ) (p : Pk) : rdE σ p = rdE τ p := by unfold Srv.rdE; rw [h.cur]
theorem Like.rdD (h : Like σ τ) (p : Pk) : rdD σ p = rdD τ p := by unfold Srv.rdD; rw [h.rdE, h.was]
theorem Like.reply (h : Like σ τ) (p : Pk) (d : List UInt8) (e : Int) : replyP σ p d e = replyP τ p d e := by unfold replyP; rw [h.me, h.boot]
theorem puts_like {N : Nat} {M M1 M' M1' : List Rw} {l : List Ch} {x x1 : Int} (he : M.map chOf = M1.map chOf) (hG : Good N M) (hG1 : Good N M1) (h : Puts N M l x M') (h1 : Puts N M1 l x1 M1') : x = x1 ∧ M'.map chOf = M1'.map chOf := by
  have hget := getR_chs hG.sorted hG1.sorted he
  obtain ⟨hn1, hn2⟩ := news_same hget l
  have hl : M.length = M1.length := by have := congrArg List.length he; simpa using this
  have hgr : growthL M1 (newsL M1 l) = growthL M (newsL M l) := by rw [← hn1, hn2]
  have haft : ∀ k, afterK l M k = afterK l M1 k := fun k => by unfold afterK; rw [hget]
  rcases h with ⟨a1, rfl, rfl⟩ | ⟨a1, a2, rfl, rfl⟩ | ⟨a1, a2, rfl, a4, a5⟩ <;> rcases h1 with ⟨b1, rfl, rfl⟩ | ⟨b1, b2, rfl, rfl⟩ | ⟨b1, b2, rfl, b4, b5⟩
  · exact ⟨rfl, he⟩
  · exact absurd b1 a1
  · exact absurd b1 a1
  · exact absurd a1 b1
  · exact ⟨rfl, he⟩
  · exfalso; omega
  · exact absurd a1 b1
  · exfalso; omega
  · exact ⟨rfl, chs_ext a4.sorted b4.sorted fun k => by rw [a5, b5, haft]⟩
theorem settled_like (h : Like σ τ) {x : Nat} {o : List Pg} {ch : List Ch} (h1 : Settled (Puts σ.N) σ x o ch e σ') (h2 : Settled (Puts τ.N) τ x o ch e' τ') : e = e' ∧ Like σ' τ' := by
  obtain ⟨M', hp, rfl⟩ := h1
  obtain ⟨M1', hp1, rfl⟩ := h2
  have hs : setCh σ.M x o ch = setCh τ.M x o ch := by unfold setCh; rw [h.sure]
  have g' := hp.good h.good
  have g1' := hp1.good h.good'
  rw [hs, h.num] at hp
  obtain ⟨rfl, hm⟩ := puts_like h.rows (by rw [← h.num]; exact h.good) h.good' hp hp1
  refine ⟨rfl, h.num, h.me, h.boot, h.up, hm, ?_, h.seat, g', g1'⟩
  show (if e = 0 then delLo σ.L x else σ.L) = (if e = 0 then delLo τ.L x else τ.L)
  rw [h.loose]
theorem did_like (h : Like σ τ) (h1 : Did (Puts σ.N) σ p d e σ') (h2 : Did (Puts τ.N) τ p d' e' τ') : d = d' ∧ e = e' ∧ Like σ' τ' := by
  unfold Did at h1 h2
  by_cases c1 : p.code = 1
  · rw [if_pos c1] at h1 h2
    obtain ⟨rfl, rfl, rfl⟩ := h1
    obtain ⟨rfl, rfl, rfl⟩ := h2
    exact ⟨rfl, h.wrE p, h.wrS p⟩
  rw [if_neg c1] at h1 h2
  by_cases c2 : p.code = 2
  · rw [if_pos c2] at h1 h2
    obtain ⟨rfl, rfl, rfl⟩ := h1
    obtain ⟨rfl, rfl, rfl⟩ := h2
    exact ⟨h.rdD p, h.rdE p, h⟩
  rw [if_neg c2] at h1 h2
  by_cases c3 : p.code = 3
  · rw [if_pos c3] at h1 h2
    obtain ⟨rfl, h1⟩ := h1
    obtain ⟨rfl, h2⟩ := h2
    rw [h.cur, h.was] at h1
    split at h1
    · rename_i hc
      rw [if_pos hc] at h2
      obtain ⟨rfl, rfl⟩ := h1
      obtain ⟨rfl, rfl⟩ := h2
      exact ⟨rfl, rfl, h⟩
    · rename_i hc
      rw [if_neg hc] at h2
      exact ⟨rfl, settled_like h h1 h2⟩
  rw [if_neg c3] at h1 h2
  by_cases c4 : p.code = 4
  · rw [if_pos c4] at h1 h2
    obtain ⟨rfl, h1⟩ := h1
    obtain ⟨rfl, h2⟩ := h2
    rw [h.epN, h.was] at h1
    by_cases q1 : p.frm ≠ 0
    · rw [if_pos q1] at h1 h2
      obtain ⟨rfl, rfl⟩ := h1
      obtain ⟨rfl, rfl⟩ := h2
      exact ⟨rfl, rfl, h⟩
    rw [if_neg q1] at h1 h2
    by_cases q2 : p.epoch < (Srv.epN τ.M p.file.toNat : Int) ∨ p.epoch = 0
    · rw [if_pos q2] at h1 h2
      obtain ⟨rfl, rfl⟩ := h1
      obtain ⟨rfl, rfl⟩ := h2
      exact ⟨rfl, rfl, h⟩
    rw [if_neg q2] at h1 h2
    by_cases q3 : (Srv.epN τ.M p.file.toNat : Int) = p.epoch
    · rw [if_pos q3] at h1 h2
      obtain ⟨rfl, rfl⟩ := h1
      obtain ⟨rfl, rfl⟩ := h2
      exact ⟨rfl, rfl, h⟩
    rw [if_neg q3] at h1 h2
    exact ⟨rfl, settled_like h h1 h2⟩
  · rw [if_neg c4] at h1 h2
    obtain ⟨rfl, h1⟩ := h1
    obtain ⟨rfl, h2⟩ := h2
    by_cases q1 : p.frm ≠ 0
    · rw [if_pos q1] at h1 h2
      obtain ⟨rfl, rfl⟩ := h1
      obtain ⟨rfl, rfl⟩ := h2
      exact ⟨rfl, rfl, h⟩
    rw [if_neg q1] at h1 h2
    exact ⟨rfl, settled_like h h1 h2⟩
theorem handled_like (h : Like σ τ) (h1 : Handled (Puts σ.N) σ p r ok σ') (h2 : Handled (Puts τ.N) τ p r' ok' τ') : r = r' ∧ ok = ok' ∧ Like σ' τ' := by
  have hT : (τ.up = true ∧ takes τ p) = (σ.up = true ∧ takes σ p) := by unfold takes; rw [h.up, h.me]
  have hJ : judgeP τ p = judgeP σ p := by unfold judgeP; rw [h.seat]
  unfold Handled at h1 h2
  rw [hT, hJ, ← h.boot] at h2
  generalize (σ.up = true ∧ takes σ p) = T at h1 h2
  generalize judgeP σ p = J at h1 h2
  clear hT hJ
  rcases h1 with ⟨a1, a⟩ | ⟨a1, a2, a⟩ | ⟨a1, a2, a3, a⟩ | ⟨a1, a2, a3, a⟩ | ⟨a1, a2, a3, a⟩ <;> rcases h2 with ⟨b1, b⟩ | ⟨b1, b2, b⟩ | ⟨b1, b2, b3, b⟩ | ⟨b1, b2, b3, b⟩ | ⟨b1, b2, b3, b⟩
  all_goals first
    | exact absurd a1 b1
    | exact absurd b1 a1
    | exact absurd a2 b2
    | exact absurd b2 a2
    | (exfalso; clear a b h; omega)
    | skip
  · obtain ⟨e1, e2, e3⟩ := a
    obtain ⟨f1, f2, f3⟩ := b
    rw [e1, e2, e3, f1, f2, f3]
    exact ⟨rfl, rfl, h⟩
  · obtain ⟨e1, e2, e3⟩ := a
    obtain ⟨f1, f2, f3⟩ := b
    rw [e1, e2, e3, f1, f2, f3]
    exact ⟨h.reply p _ _, rfl, h⟩
  · obtain ⟨d, e, σ1, q1, e1, e2, e3⟩ := exec_live a
    obtain ⟨d', e', τ1, q2, f1, f2, f3⟩ := exec_live b
    obtain ⟨rfl, rfl, hl⟩ := did_like h q1 q2
    rw [e1, e2, e3, f1, f2, f3]
    refine ⟨h.reply p _ _, rfl, hl.num, hl.me, hl.boot, hl.up, hl.rows, hl.loose, ?_, hl.good, hl.good'⟩
    funext j
    show (if j = p.frm.toNat then _ else σ1.seat j) = (if j = p.frm.toNat then _ else τ1.seat j)
    rw [h.seat, h.reply, hl.seat]
  · obtain ⟨e1, e2, e3⟩ := a
    obtain ⟨f1, f2, f3⟩ := b
    rw [e1, e2, e3, f1, f2, f3, h.seat]
    exact ⟨rfl, rfl, h⟩
  · obtain ⟨e1, e2, e3⟩ := a
    obtain ⟨f1, f2, f3⟩ := b
    rw [e1, e2, e3, f1, f2, f3]
    exact ⟨rfl, rfl, h⟩
theorem judge_one {s : Sat} {l q : Int} (h : judgeL s l q = 1) (b : ByteArray) : judgeL ⟨l, q, b⟩ l q = 2 := by
  unfold judgeL at h ⊢
  split at h
  · simp at h
  · rename_i hn
    have : ¬ (l < l ∨ l = 0 ∨ q = 0) := by omega
    rw [if_neg this, if_neg (Int.lt_irrefl l), if_pos rfl]
theorem handled_twice {σ1 σ2 : Sv} (hk : σ.Ok c) (hp : p.Ok) (h1 : Handled (Puts σ.N) σ p r ok σ1) (h2 : Handled (Puts σ1.N) σ1 p r' ok' σ2) : r' = r ∧ ok' = ok ∧ σ2 = σ1 := by
  obtain ⟨_, hme, hbo⟩ := handled_same h1
  have hup := handled_up h1
  have hT : (σ1.up = true ∧ takes σ1 p) = (σ.up = true ∧ takes σ p) := by unfold takes; rw [hup, hme]
  have hsame : σ1 = σ → judgeP σ1 p = judgeP σ p := fun e => by rw [e]
  unfold Handled at h1 h2
  rw [hT, hbo] at h2
  generalize hTe : (σ.up = true ∧ takes σ p) = T at h1 h2
  clear hT
  rcases h1 with ⟨a1, e1, e2, e3⟩ | ⟨a1, a2, e1, e2, e3⟩ | ⟨a1, a2, a3, a⟩ | ⟨a1, a2, a3, e1, e2, e3⟩ | ⟨a1, a2, a3, e1, e2, e3⟩
  · rcases h2 with ⟨b1, f1, f2, f3⟩ | ⟨b1, _⟩ | ⟨b1, _⟩ | ⟨b1, _⟩ | ⟨b1, _⟩
    · exact ⟨f1.trans e1.symm, f2.trans e2.symm, f3⟩
    all_goals exact absurd b1 a1
  · rcases h2 with ⟨b1, _⟩ | ⟨_, _, f1, f2, f3⟩ | ⟨_, b2, _⟩ | ⟨_, b2, _⟩ | ⟨_, b2, _⟩
    · exact absurd a1 b1
    · exact ⟨by rw [f1, e1, e3], f2.trans e2.symm, f3⟩
    all_goals exact absurd b2 a2
  · have a1' : σ.up = true ∧ takes σ p := by rw [hTe]; exact a1
    obtain ⟨d, e, σd, q1, e1, e2, e3⟩ := exec_live a
    have her := did_err (fun x o ch σ' hs => by
      obtain ⟨M', hc, _⟩ := hs
      rcases hc with ⟨_, hx, _⟩ | ⟨_, _, hx, _⟩ | ⟨_, _, hx, _⟩ <;> (rw [hx]; decide)) q1
    have hd : d.length ≤ 128 := by
      unfold Did at q1
      split at q1
      · rw [q1.1]; decide
      · split at q1
        · rw [q1.1]; exact rdD_len σ p
        · split at q1
          · rw [q1.1]; decide
          · split at q1
            · rw [q1.1]; decide
            · rw [q1.1]; decide
    have hR := replyP_right hk a1'.2.1 a1'.2.2.2.2.2 d e her hd
    have hO := replyP_ok hk hp d e her
    have hseat : σ1.seat p.frm.toNat = ⟨p.life, p.seq, writeS (replyP σ p d e)⟩ := by
      rw [e3]
      show (if p.frm.toNat = p.frm.toNat then _ else _) = _
      rw [if_pos rfl]
      unfold doneL
      exact if_pos a3
    have hj : judgeP σ1 p = 2 := by
      unfold judgeP
      rw [hseat]
      exact judge_one a3 _
    have hw : writeS (replyP σ p d e) = strOf (bytesP (replyP σ p d e)) := by unfold writeS; rw [if_pos hR]
    obtain ⟨k1, k2⟩ := read_back _ hO hR
    rw [hj, hseat] at h2
    rcases h2 with ⟨b1, _⟩ | ⟨_, b2, _⟩ | ⟨_, _, b3, _⟩ | ⟨_, _, _, f1, f2, f3⟩ | ⟨_, _, b3, _⟩
    · exact absurd a1 b1
    · exact absurd a2 b2
    · simp at b3
    · rw [hw, strOf_list, k2] at f1
      rw [hw, strOf_list, k1] at f2
      exact ⟨f1.trans e1.symm, f2.trans e2.symm, f3⟩
    · simp at b3
  · rw [hsame e3] at h2
    rcases h2 with ⟨b1, _⟩ | ⟨_, b2, _⟩ | ⟨_, _, b3, _⟩ | ⟨_, _, _, f1, f2, f3⟩ | ⟨_, _, b3, _⟩
    · exact absurd a1 b1
    · exact absurd a2 b2
    · rw [a3] at b3; simp at b3
    · exact ⟨by rw [f1, e1, e3], by rw [f2, e2, e3], f3⟩
    · rw [a3] at b3; simp at b3
  · rw [hsame e3] at h2
    rcases h2 with ⟨b1, _⟩ | ⟨_, b2, _⟩ | ⟨_, _, b3, _⟩ | ⟨_, _, b3, _⟩ | ⟨_, _, _, f1, f2, f3⟩
    · exact absurd a1 b1
    · exact absurd a2 b2
    · rw [b3] at a3; simp at a3
    · rw [b3] at a3; simp at a3
    · exact ⟨f1.trans e1.symm, f2.trans e2.symm, f3⟩
end
end Go.Proofs.YtmelaiefbpdifaaGreatDoor.Srv
