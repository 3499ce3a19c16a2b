/- The same requests have the same answers; a request that comes twice is done once. -/
import Derived.Test.YtmelaiefbpdifaaGreatDoorFOp14
namespace Go.Proofs.YtmelaiefbpdifaaGreatDoor.Srv
open Go.RowKit Go.Maps
open Pgs (Pg keyB headB ldL chgL)
theorem getR_chs {M M' : List Rw} (h : Sorted M) (h' : Sorted M') (e : M.map chOf = M'.map chOf) (k : List UInt8) : getR M k = getR M' k := by
 have hh : ∀ {L L' : List Rw}, Sorted L → Sorted L' → L.map chOf = L'.map chOf → ∀ v, getR L k = some v → getR L' k = some v := fun {L L'} hL hL' e v hv => by
  obtain ⟨r, _, hr, hk, hval⟩ := getR_some hv
  have hm : chOf r ∈ L'.map chOf := by rw [← e]; exact List.mem_map.2 ⟨r, hr, rfl⟩
  obtain ⟨r', hr', e'⟩ := List.mem_map.1 hm
  have e1 : r'.key = r.key := congrArg Ch.key e'
  have e2 : r'.val = r.val := congrArg Ch.val e'
  rw [getR, ← hk, ← e1, findR_of hL' hr', ← hval, ← e2]
  rfl
 cases hv : getR M k with
 | some v => exact (hh h h' e v hv).symm
 | none =>
  cases hv' : getR M' k with
  | none => rfl
  | some v => rw [hh h' h e.symm v hv'] at hv; cases hv
structure Like (σ τ : Sv) : Prop where
 num : σ.N = τ.N
 me : σ.me = τ.me
 boot : σ.boot = τ.boot
 up : σ.up = τ.up
 rows : σ.M.map chOf = τ.M.map chOf
 loose : σ.L = τ.L
 seat : σ.seat = τ.seat
 good : Good σ.N σ.M
 good' : Good τ.N τ.M
section
variable {σ τ σ' τ' : Sv} {p r r' : Pk} {d d' : List UInt8} {e e' : Int} {ok ok' : Bool} {c : Nat}
theorem Like.refl (h : Good σ.N σ.M) : Like σ σ := ⟨rfl, rfl, rfl, rfl, rfl, rfl, rfl, h, h⟩
theorem Like.get (h : Like σ τ) (k : List UInt8) : getR σ.M k = getR τ.M k := getR_chs h.good.sorted h.good'.sorted h.rows k
theorem Like.len (h : Like σ τ) : σ.M.length = τ.M.length := by have := congrArg List.length h.rows; simpa using this
theorem under_map (M : List Rw) (q : List UInt8) : underL M q = (M.map chOf).filter fun r => preK q r.key := by
 unfold underL
 rw [List.filter_map]
 rfl
theorem Like.under (h : Like σ τ) (q : List UInt8) : underL σ.M q = underL τ.M q := by rw [under_map, under_map, h.rows]
theorem Like.fresh (h : Like σ τ) (x : Nat) (o : List Pg) : freshN σ.M x o = freshN τ.M x o := by
 unfold freshN
 congr 1
 exact List.filter_congr fun q _ => by rw [h.get]
theorem Like.sure (h : Like σ τ) (x : Nat) : sureL σ.M x = sureL τ.M x := by unfold sureL; rw [h.under]
theorem Like.epN (h : Like σ τ) (x : Nat) : epN σ.M x = epN τ.M x := by unfold Srv.epN; rw [h.get]
theorem Like.cur (h : Like σ τ) (x : Nat) (n : Int) : cur σ.M x n = cur τ.M x n := by unfold Srv.cur epB; rw [h.epN, h.get]
theorem Like.obj (h : Like σ τ) (x : Nat) : objL σ x = objL τ x := by unfold objL; rw [h.loose, h.sure]
theorem Like.room (h : Like σ τ) : roomI σ = roomI τ := by
 unfold roomI sumF
 rw [h.num, h.len, h.under, h.loose]
 have : (τ.L.map fun q => freshN σ.M q.1 q.2) = τ.L.map fun q => freshN τ.M q.1 q.2 := List.map_congr_left fun q _ => h.fresh _ _
 rw [this]
theorem Like.was (h : Like σ τ) (p : Pk) : wasO σ p = wasO τ p := h.obj _
theorem Like.now (h : Like σ τ) (p : Pk) : nowO σ p = nowO τ p := by unfold nowO; rw [h.was]
theorem Like.more (h : Like σ τ) (p : Pk) : moreI σ p = moreI τ p := by unfold moreI; rw [h.now, h.was, h.fresh, h.fresh]
theorem Like.wrE (h : Like σ τ) (p : Pk) : wrE σ p = wrE τ p := by unfold Srv.wrE; rw [h.cur, h.more, h.room]
theorem Like.wrS (h : Like σ τ) (p : Pk) : Like (wrS σ p) (wrS τ p) := by
 unfold Srv.wrS
 rw [h.wrE]
 split
 ·exact ⟨h.num, h.me, h.boot, h.up, h.rows, by show putLo σ.L _ _ = putLo τ.L _ _; rw [h.loose, h.now], h.seat, h.good, h.good'⟩
 ·exact h
theorem Like.rdE (h : Like σ τ) (p : Pk) : rdE σ p = rdE τ p := by unfold Srv.rdE; rw [h.cur]
theorem Like.rdD (h : Like σ τ) (p : Pk) : rdD σ p = rdD τ p := by unfold Srv.rdD; rw [h.rdE, h.was]
theorem Like.reply (h : Like σ τ) (p : Pk) (d : List UInt8) (e : Int) : replyP σ p d e = replyP τ p d e := by unfold replyP; rw [h.me, h.boot]
end
end Go.Proofs.YtmelaiefbpdifaaGreatDoor.Srv
