/- Start: a server begins on a device. -/
import Derived.Test.YtmelaiefbpdifaaGreatDoorFSp13
namespace Go.Proofs.YtmelaiefbpdifaaGreatDoor.Srv
open Go.RowKit Go.Maps
open Pgs (Pg)
def noSeat : Sat := ⟨0, 0, ⟨#[]⟩⟩
def srv0 (N : Nat) (me b : Int) (M : List Rw) : Sv := ⟨N, me, b, true, M, [], fun _ => noSeat⟩
def srvZ : List Value := .int .i64 0 :: .int .u32 0 :: .bool false :: .pointer none :: .map none :: seatCs (fun _ => noSeat)
theorem zero_srv : (Tryz.prog.info? 116).map (fun i => (i.zero, i.size)) = some (some (.agg srvZ.toArray), 773) := by kernel_rfl
def StartR (N : Nat) (s : St) (me x : Int) : Prop :=
 (¬ (1 ≤ me ∧ me ≤ 255) ∧ x = 1) ∨ ((1 ≤ me ∧ me ≤ 255) ∧ (Fails5 s x ∨ ∃ M, openErr s = 0 ∧ parseL (dataS (openSt s)) = some M ∧
  ((soundB M = false ∧ x = 25) ∨ (soundB M = true ∧ x ≠ 0 ∧ ∃ b M' s' n' f', Begun N M (openSt s) (openN s) b x M' s' n' f'))))
def StartM (w w1 w' : World) (F : List Nat) (dp N : Nat) (s : St) (me : Int) (e : Ending) : Prop :=
 (∃ x, StartR N s me x ∧ e = .returned (.tuple #[.pointer none, .int .i64 x]) ∧ Only [] w w') ∨
 (∃ sb R b M M' s' n' f', (1 ≤ me ∧ me ≤ 255) ∧ openErr s = 0 ∧ parseL (dataS (openSt s)) = some M ∧ soundB M = true ∧ Begun N M (openSt s) (openN s) b 0 M' s' n' f' ∧
  e = .returned (.tuple #[.pointer (some ⟨sb, 0, none⟩), .int .i64 0]) ∧ SrvM w w' R sb dp (srv0 N me b M') s' n' f' 0 ∧ Only F w1 w' ∧ ∀ j ∈ R, j ∈ F ∨ w1.heap.size ≤ j)
theorem begun_range {N : Nat} {M M' : List Rw} {s s' : St} {n n' : Nat} {b x : Int} {f' : Bool} (h : Begun N M s n b x M' s' n' f') : U b := by
 rcases h with ⟨_, rfl, _⟩ | ⟨h1, _, rfl⟩
 ·unfold U; decide
 ·unfold U
  split <;> omega
theorem begun_len {N : Nat} {M M' : List Rw} {s s' : St} {n n' : Nat} {b x : Int} {f' : Bool} (h : Begun N M s n b x M' s' n' f') : s'.firm.length = s.firm.length := by
 rcases h with ⟨_, _, _, _, rfl, _⟩ | ⟨_, h2, _⟩
 ·rfl
 ·exact commits5_len h2
theorem begun_good {N : Nat} {M M' : List Rw} {s s' : St} {n n' : Nat} {b x : Int} {f' : Bool} (hM : Good N M) (h : Begun N M s n b x M' s' n' f') : Good N M' := by
 rcases h with ⟨_, _, _, rfl, _⟩ | ⟨_, h2, _⟩
 ·exact hM
 ·exact commits5_good hM h2
section
variable {w w1 : World} {F : List Nat} {dp N : Nat} {s : St}
set_option maxRecDepth 100000 in
set_option maxHeartbeats 8000000 in
theorem OwnD.startC (h : OwnD w w1 F dp s) (me : Int) (hme : I me) (hlate : s.late.length + 40 ≤ 1048576) (hlen : (openSt s).firm.length = 41 + N) (hlate2 : (openSt s).late.length + 200 ≤ 1048576) (hn : openN s < 4294967296)
  (hgood : ∀ M, parseL (dataS (openSt s)) = some M → Good N M) :
  Calls Tryz.prog 15 #[.pointer (some ⟨dp, 0, none⟩), .int .i64 me] w1 fun e w' => StartM w w1 w' F dp N s me e := by
 have hop := h.opens5 hlate
 have honly := h.only
 have hFw : ∀ i ∈ F, w.heap.size ≤ i := fun i hi => (h.new i hi).1
 have hF1 : ∀ i ∈ F, i < w1.heap.size := fun i hi => (h.new i hi).2
 clear h
 have hno : ∀ W x, Only [] w W → StartR N s me x → StartM w w1 W F dp N s me (.returned (.tuple #[.pointer none, .int .i64 x])) := fun W x k hr => .inl ⟨x, hr, rfl, k⟩
 replace hno := Lib.hid hno
 replace hFw := Lib.hid hFw
 replace hF1 := Lib.hid hF1
 replace hgood := Lib.hid hgood
 obtain ⟨i1, i2⟩ := hme
 by_cases hlo : me < 1
 ·have hfin := hno.out w1 1 honly (.inl ⟨by omega, rfl⟩)
  replace hfin := Lib.hid hfin
  have d1 : decide (me < 1) = true := by simpa using hlo
  clear hop
  go_enter Tryz.func15, Tryz.ntmps15
  go_wp2
  go_ret2
  exact hfin.out
 have d1 : decide (me < 1) = false := by simpa using hlo
 by_cases hhi : 255 < me
 ·have hfin := hno.out w1 1 honly (.inl ⟨by omega, rfl⟩)
  replace hfin := Lib.hid hfin
  have d2 : decide (255 < me) = true := by simpa using hhi
  clear hop hlo
  go_enter Tryz.func15, Tryz.ntmps15
  go_wp2
  go_ret2
  exact hfin.out
 have d2 : decide (255 < me) = false := by simpa using hhi
 have hin : 1 ≤ me ∧ me ≤ 255 := ⟨by omega, by omega⟩
 replace hin := Lib.hid hin
 clear hlo hhi
 go_enter Tryz.func15, Tryz.ntmps15
 go_wp2_with fail
 refine hop.mono ?_
 rintro e w2 ⟨F2, k2, hF2, hcase⟩
 have kw2 : Only [] w w2 := honly.then k2 (fun i hi => .inr (hFw.out i hi))
 rcases hcase with ⟨x, hf, rfl, _⟩ | ⟨rp, mb, lp, M, ho0, hp, rfl, h5, q1, q2, q3⟩
 ·have hfin := hno.out w2 x kw2 (.inr ⟨hin.out, .inl hf⟩)
  replace hfin := Lib.hid hfin
  have hx0 : x ≠ 0 := by
   rcases hf with ⟨h1, rfl⟩ | ⟨_, _, rfl⟩
   ·exact h1
   ·decide
  have hx2 : (x == 0) = false := by rw [beq_eq_false_iff_ne]; exact hx0
  have hx3 : (x != 0) = true := by rw [bne_iff_ne]; exact hx0
  clear hf kw2 k2
  go_wp2
  go_ret2
  exact hfin.out
 ·have hG := hgood.out M hp
  have hMl := hG.length
  have hfew := h5.own.dev.fine.few
  have hsnd := sound_any w2 rp mb lp M h5.rows hG.sorted (by omega) hG.small
  cases hs : soundB M with
  | false =>
   rw [hs] at hsnd
   go_wp2_with fail
   refine hsnd.mono ?_; rintro e w3 ⟨rfl, k3⟩
   have hfin := hno.out w3 25 (kw2.trans k3) (.inr ⟨hin.out, .inr ⟨M, ho0, hp, .inl ⟨hs, rfl⟩⟩⟩)
   replace hfin := Lib.hid hfin
   clear hs hp h5 k2 k3 hsnd
   go_wp2
   go_ret2
   exact hfin.out
  | true =>
   rw [hs] at hsnd
   have hbg := fun W (k : Only [] w2 W) => begin_any (h5.keep k) hlen hG hn hlate2
   replace hbg := Lib.hid hbg
   replace hs := Lib.hid hs
   replace hp := Lib.hid hp
   replace ho0 := Lib.hid ho0
   replace hlen := Lib.hid hlen
   replace hG := Lib.hid hG
   go_wp2_with fail
   refine hsnd.mono ?_; rintro e w3 ⟨rfl, k3⟩
   have hRpn := h5.rows.hdr.lt
   clear hsnd
   go_wp2_with fail
   refine (hbg.out _ k3).mono ?_
   rintro e w4 ⟨b, x, M', s', n', f', F', rfl, hb, h54, k4, hF4⟩
   have hbr := begun_range hb
   have kw4 : Only [] w w4 := h54.own.only
   have k14 : Only (F ++ (mb :: lp :: F2)) w1 w4 := ((k2.more (T := F ++ (mb :: lp :: F2)) (fun i hi => .inl (List.mem_append.2 (.inl hi)))).then k3 (by simp)).then k4 (fun i hi => .inl (List.mem_append.2 (.inr hi)))
   by_cases hx : x = 0
   ·subst hx
    have hFall : ∀ i ∈ mb :: lp :: F2, i ∈ F ∨ w1.heap.size ≤ i := fun i hi => by
     simp only [List.mem_cons] at hi
     rcases hi with rfl | rfl | hi
     ·exact .inr q2
     ·exact .inr q3
     ·exact hF2 i hi
    have k14F : Only F w1 w4 := k14.more (fun i hi => by
     rcases List.mem_append.1 hi with hi | hi
     ·exact .inl hi
     ·exact hFall i hi)
    have hF4' : ∀ j ∈ F', j ∈ F ∨ w1.heap.size ≤ j := fun j hj => by
     rcases hF4 j hj with h' | h'
     ·exact hFall j (by simp [h'])
     ·have h1 := k2.size
      have h2 := k3.size
      exact .inr (by omega)
    have hz0 := (zero_of_info zero_srv).1
    unfold srvZ at hz0
    obtain ⟨rest, hrest⟩ : ∃ rest, rest = seatCs (fun _ => noSeat) := ⟨_, rfl⟩
    rw [← hrest] at hz0
    have hcs : srvCs (srv0 N me b M') rp w4.heap.size = .int .i64 me :: .int .u32 b :: .bool true :: .pointer (some ⟨rp, 0, none⟩) :: .map (some w4.heap.size) :: rest := by
     rw [hrest]; rfl
    replace hrest := Lib.hid hrest
    have km : Only [] w4 (w4.alloc (.map #[] 0)) := (Only.refl [] w4).alloc _
    have hl5 := LooseB.new w4 (fun _ => .slice none 0 0)
    have kb : Only [] w4 ((w4.alloc (.map #[] 0)).alloc (.cells (srvCs (srv0 N me b M') rp w4.heap.size).toArray 116)) := km.alloc _
    have hb6 : Blk ((w4.alloc (.map #[] 0)).alloc (.cells (srvCs (srv0 N me b M') rp w4.heap.size).toArray 116)) (w4.heap.size + 1) 116 (srvCs (srv0 N me b M') rp w4.heap.size).toArray := by
     have := Blk.new (w4.alloc (.map #[] 0)) 116 (srvCs (srv0 N me b M') rp w4.heap.size).toArray
     rwa [show (w4.alloc (.map #[] 0)).heap.size = w4.heap.size + 1 by simp] at this
    have hl6 := hl5.kept ((Only.refl [] (w4.alloc (.map #[] 0))).alloc (.cells (srvCs (srv0 N me b M') rp w4.heap.size).toArray 116)) (by simp)
    have h56 := h54.keep kb
    have hrp4 : rp < w4.heap.size := h54.rows.hdr.lt
    have hmb4 : mb < w4.heap.size := h54.rows.map.lt
    have hlp4 : lp < w4.heap.size := h54.own.lt
    have hnF : ∀ i ∈ F', w.heap.size ≤ i ∧ i < w4.heap.size := h54.own.new
    have hsz6 : ((w4.alloc (.map #[] 0)).alloc (.cells (srvCs (srv0 N me b M') rp w4.heap.size).toArray 116)).heap.size = w4.heap.size + 2 := by simp
    have hNd : N ≤ 983 := by
     have := hlen.out
     omega
    have hfin : SrvM w ((w4.alloc (.map #[] 0)).alloc (.cells (srvCs (srv0 N me b M') rp w4.heap.size).toArray 116)) ((w4.heap.size + 1) :: w4.heap.size :: rp :: mb :: lp :: F') (w4.heap.size + 1) dp (srv0 N me b M') s' n' f' 0 := by
     refine ⟨rp, mb, lp, w4.heap.size, F', _, _, h56, hb6, hl6, fun x o hx => (by cases hx), by omega, ?_, ?_, fun i hi => hi, fun i hi => ?_, ?_, ?_, by omega⟩
     ·simp only [List.mem_cons, not_or]
      exact ⟨by omega, by omega, by omega, fun hm => by have := (hnF _ hm).2; omega⟩
     ·simp only [List.mem_cons, not_or]
      exact ⟨by omega, by omega, by omega, fun hm => by have := (hnF _ hm).2; omega⟩
     ·rw [hsz6]
      have hw4 := kw4.size
      simp only [List.mem_cons] at hi
      rcases hi with rfl | rfl | rfl | rfl | rfl | hi
      ·exact ⟨by omega, by omega⟩
      ·exact ⟨by omega, by omega⟩
      ·exact ⟨h54.old1, by omega⟩
      ·exact ⟨h54.old2, by omega⟩
      ·exact ⟨h54.own.old, by omega⟩
      ·have := hnF i hi; exact ⟨this.1, by omega⟩
     ·show s'.firm.length = 41 + N
      rw [begun_len hb]
      exact hlen.out
     ·refine ⟨begun_good hG.out hb, hNd, uniq_nil, fun q hq => (by cases hq), Nat.le_refl _, fun k => ?_, hin.out, hbr⟩
      exact ⟨⟨(by show U 0; unfold U; decide), (by show U 0; unfold U; decide)⟩, (by show (0 : Nat) ≤ 400; decide)⟩
    have hend : StartM w w1 ((w4.alloc (.map #[] 0)).alloc (.cells (srvCs (srv0 N me b M') rp w4.heap.size).toArray 116)) F dp N s me (.returned (.tuple #[.pointer (some ⟨w4.heap.size + 1, 0, none⟩), .int .i64 0])) := by
     refine .inr ⟨w4.heap.size + 1, _, b, M, M', s', n', f', hin.out, ho0.out, hp.out, hs.out, hb, rfl, hfin, k14F.then kb (by simp), fun j hj => ?_⟩
     have h14 := k14.size
     simp only [List.mem_cons] at hj
     rcases hj with rfl | rfl | rfl | rfl | rfl | hj
     ·exact .inr (by omega)
     ·exact .inr (by omega)
     ·exact .inr q1
     ·exact .inr q2
     ·exact .inr q3
     ·exact hF4' j hj
    rw [hcs] at hend
    replace hend := Lib.hid hend
    clear hfin hb6 hl6 h56 km hl5 kb hcs h54 k4 k3 k2 h5 hb hF4 hF4' k14 k14F hFall hnF hsz6 hop hbg
    have hmm := @run_makeMap Tryz.prog 111
    go_wp2
    go_ret2
    exact hend.out
   ·have hfin := hno.out w4 x kw4 (.inr ⟨hin.out, .inr ⟨M, ho0.out, hp.out, .inr ⟨hs.out, hx, b, M', s', n', f', hb⟩⟩⟩)
    replace hfin := Lib.hid hfin
    have hx2 : (x == 0) = false := by rw [beq_eq_false_iff_ne]; exact hx
    have hx3 : (x != 0) = true := by rw [bne_iff_ne]; exact hx
    clear hb h54 h5 k4 k3 k2 hF4 hbg hop k14
    go_wp2
    go_ret2
    exact hfin.out
end
end Go.Proofs.YtmelaiefbpdifaaGreatDoor.Srv
