/- The document's device: an act of it; two devices that are alike. -/
import Derived.Test.YtohkfeolfemcnaaRef4
namespace Go.Proofs.Ytohkfeolfemcnaa
open Go.RowKit

def actRef (s : St) (x : Deed) : St :=
  if x.kind.tmod 5 = 0 then written s x.at_ (rep 256 x.b) else if x.kind.tmod 5 = 1 then barred s else if x.kind.tmod 5 = 2 then lit s (if x.at_ < 0 then -1 else x.at_) else if x.kind.tmod 5 = 3 then crashed s x.keep else s

theorem RefDid.from {w w0 w' : World} {p : Nat} {G : List Nat} {s : St} (k : Only [] w w0) (h : RefDid w0 w' p G s) : RefDid w w' p G s := by
  obtain ⟨G', h1, h2, h3⟩ := h
  exact ⟨G', h1, (k.more (T := G) (by simp)).then h2 (fun _ hi => .inl hi), fun i hi => ⟨(h3 i hi).1.imp id (fun h => Nat.le_trans k.size h), (h3 i hi).2⟩⟩
theorem RefDid.mono {w w' : World} {p : Nat} {F G : List Nat} {s : St} (h : RefDid w w' p F s) (hG : ∀ i ∈ F, i ∈ G) : RefDid w w' p G s := by
  obtain ⟨F', h1, h2, h3⟩ := h
  exact ⟨F', h1, h2.more (fun i hi => .inl (hG i hi)), fun i hi => ⟨(h3 i hi).1.imp (hG i) id, (h3 i hi).2⟩⟩
theorem RefDid.cell {w w' : World} {p : Nat} {F : List Nat} {s : St} (h : RefDid w w' p F s) {a : Addr} {v : Value} (hc : w.cell? a = some v) (ha : a.block ∉ F) : w'.cell? a = some v := by
  obtain ⟨F', h1, h2, h3⟩ := h
  exact h2.cell hc ha

set_option maxHeartbeats 1000000 in
theorem model_any (w : World) (p : Nat) (F : List Nat) (s : St) (x : Deed) (hx : x.okay) (hlen : s.late.length < 1048576) (hd : Ref w p F s) :
    Calls Try.prog 14 #[.pointer (some ⟨p, 0, none⟩), .agg #[.int .i64 x.kind, .int .i64 x.at_, .int .u8 (x.b.toNat : Int), .int .u64 (x.keep : Int)]] w fun e w' => e = .returned (.int .i64 (actErr s x)) ∧ RefDid w w' p F (actRef s x) := by
  obtain ⟨F0, hd0, hsub, hlt⟩ := hd.trim
  refine Calls.mono (R := fun e w' => e = .returned (.int .i64 (actErr s x)) ∧ RefDid w w' p F0 (actRef s x)) ?_ (fun e w' h => ⟨h.1, h.2.mono hsub⟩)
  clear hd hsub F
  obtain ⟨kind, at_, b, keep⟩ := x
  obtain ⟨⟨k0, k1⟩, ⟨a0, a1⟩, hkeep⟩ := hx
  simp only at k0 k1 a0 a1 hkeep ⊢
  obtain ⟨q, hq⟩ : ∃ q, q = w.heap.size := ⟨_, rfl⟩
  have hqF : q ∉ F0 := fun h => by have := hlt q h; omega
  obtain ⟨W, hW⟩ : ∃ W, W = w.alloc (.cells #[.int .i64 kind, .int .i64 at_, .int .u8 (b.toNat : Int), .int .u64 (keep : Int)] 33) := ⟨_, rfl⟩
  have kW : Only [] w W := by rw [hW]; exact (Only.refl [] w).alloc _
  have bq : Blk W q 33 #[.int .i64 kind, .int .i64 at_, .int .u8 (b.toNat : Int), .int .u64 (keep : Int)] := by rw [hW, hq]; exact Blk.new w _ _
  have hdW := hd0.kept kW (by simp)
  have c0 := bq.cell 0
  have c1 := bq.cell 1
  have c2 := bq.cell 2
  have c3 := bq.cell 3
  simp only [List.getElem?_toArray, List.getElem?_cons_zero, List.getElem?_cons_succ] at c0 c1 c2 c3
  replace hW := Lib.hid hW
  replace hq := Lib.hid hq
  clear hlt bq hd0
  by_cases r0 : kind.tmod 5 = 0
  · have e1 : actErr s ⟨kind, at_, b, keep⟩ = writeErr s at_ (rep 256 b) := by simp [actErr, r0]
    have e2 : actRef s ⟨kind, at_, b, keep⟩ = written s at_ (rep 256 b) := by simp [actRef, r0]
    rw [e1, e2]
    clear e1 e2
    go_enter Try.func14, Try.ntmps14
    go_wp2_with fail
    rw [← hW.out, ← hq.out]
    go_region_held3 (fun w' => w'.cell? ⟨q, 1, none⟩ = some (.int .i64 at_) ∧ w'.cell? ⟨q, 2, none⟩ = some (.int .u8 (b.toNat : Int)))
      (first
        | exact ⟨c1, c2⟩
        | exact ⟨hWr.cell (kb.cell c1 (by simp)) hqF, hWr.cell (kb.cell c2 (by simp)) hqF⟩
        | exact ⟨kb.cell c1 (by simp), kb.cell c2 (by simp)⟩)
      (first
        | (go_at_call 20; refine (block_any _ b 256 (by decide)).mono ?_; rintro e wb ⟨rfl, kb⟩; replace kb := kb.undrew)
        | (go_at_call 27; refine (rwrite_any _ p F0 s at_ (rep 256 b) a0 a1 hlen (hdW.kept kb (by simp))).mono ?_; rintro e wc ⟨rfl, hWr⟩))
    have hfin := Lib.hid ((hWr.from kb).from kW)
    clear hWr
    go_wp2
    go_ret
    exact ⟨rfl, hfin.out⟩
  by_cases r1 : kind.tmod 5 = 1
  · have e1 : actErr s ⟨kind, at_, b, keep⟩ = barErr s := by simp [actErr, r1]
    have e2 : actRef s ⟨kind, at_, b, keep⟩ = barred s := by simp [actRef, r1]
    rw [e1, e2]
    clear e1 e2
    go_enter Try.func14, Try.ntmps14
    go_wp2_with fail
    rw [← hW.out, ← hq.out]
    refine (rbarrier_any W p F0 s hlen hdW).mono ?_
    rintro e wc ⟨rfl, hWr⟩
    have hfin := Lib.hid (hWr.did.from kW)
    clear hWr
    go_wp2
    go_ret
    exact ⟨rfl, hfin.out⟩
  by_cases r2 : kind.tmod 5 = 2
  · have e1 : actErr s ⟨kind, at_, b, keep⟩ = 0 := by simp [actErr, r2]
    have e2 : actRef s ⟨kind, at_, b, keep⟩ = lit s (if at_ < 0 then -1 else at_) := by simp [actRef, r2]
    obtain ⟨z, hz⟩ : ∃ z, z = (if at_ < 0 then -1 else at_) := ⟨_, rfl⟩
    have hli := light_any W p F0 s at_ a0 a1 hdW
    rw [← hz] at hli e2
    replace hz := Lib.hid hz
    rw [e1, e2]
    replace hli := Lib.hid hli
    clear e1 e2
    go_enter Try.func14, Try.ntmps14
    go_wp2_with fail
    rw [← hW.out, ← hq.out]
    refine hli.out.mono ?_
    rintro e wc ⟨rfl, hWr⟩
    have hfin := Lib.hid (hWr.did.from kW)
    clear hWr
    go_wp2
    go_ret
    exact ⟨rfl, hfin.out⟩
  by_cases r3 : kind.tmod 5 = 3
  · have e1 : actErr s ⟨kind, at_, b, keep⟩ = 0 := by simp [actErr, r3]
    have e2 : actRef s ⟨kind, at_, b, keep⟩ = crashed s keep := by simp [actRef, r3]
    rw [e1, e2]
    clear e1 e2
    go_enter Try.func14, Try.ntmps14
    go_wp2_with fail
    rw [← hW.out, ← hq.out]
    refine (rcrash_any W p F0 s keep hlen hdW).mono ?_
    rintro e wc ⟨rfl, hWr⟩
    have hfin := Lib.hid (hWr.did.from kW)
    clear hWr
    go_wp2
    go_ret
    exact ⟨rfl, hfin.out⟩
  by_cases r4 : kind.tmod 5 = 4
  · have e1 : actErr s ⟨kind, at_, b, keep⟩ = 1 := by simp [actErr, r4]
    have e2 : actRef s ⟨kind, at_, b, keep⟩ = s := by simp [actRef, r4]
    rw [e1, e2]
    clear e1 e2
    obtain ⟨m, hm⟩ : ∃ m, m = b.toNat % 128 := ⟨_, rfl⟩
    have hm256 := byte_mod b m hm
    have hrem : (IntKind.i64.wrap (b.toNat : Int)).tmod 128 = (m : Int) := by rw [hm]; exact byte_rem b
    have hm1 : m ≤ 1048576 := by omega
    have hwe := writeErr_short s at_ m b hm256
    have hwr := written_short s at_ m b hm256
    clear hm hm256
    go_enter Try.func14, Try.ntmps14
    go_wp2_with fail
    rw [← hW.out, ← hq.out]
    go_region_held3 (fun w' => w'.cell? ⟨q, 1, none⟩ = some (.int .i64 at_) ∧ w'.cell? ⟨q, 2, none⟩ = some (.int .u8 (b.toNat : Int)))
      (first
        | exact ⟨c1, c2⟩
        | exact ⟨hWr.cell (kb.cell c1 (by simp)) hqF, hWr.cell (kb.cell c2 (by simp)) hqF⟩
        | exact ⟨kb.cell c1 (by simp), kb.cell c2 (by simp)⟩)
      (first
        | (go_at_call 20; refine (block_any _ b m hm1).mono ?_; rintro e wb ⟨rfl, kb⟩; replace kb := kb.undrew)
        | (go_at_call 27; refine (rwrite_any _ p F0 s at_ (rep m b) a0 a1 hlen (hdW.kept kb (by simp))).mono ?_; rintro e wc ⟨rfl, hWr⟩))
    rw [hwr] at hWr
    have hfin := Lib.hid ((hWr.from kb).from kW)
    clear hWr
    go_wp2
    go_ret
    exact ⟨rfl, hfin.out⟩
  · have e1 : actErr s ⟨kind, at_, b, keep⟩ = 0 := by simp [actErr, r0, r1, r4]
    have e2 : actRef s ⟨kind, at_, b, keep⟩ = s := by simp [actRef, r0, r1, r2, r3]
    rw [e1, e2]
    clear e1 e2
    have hfin : RefDid w W p F0 s := RefDid.from kW (RefSame.did ⟨hdW, Only.refl _ _⟩)
    rw [hW.out] at hfin
    replace hfin := Lib.hid hfin
    go_enter Try.func14, Try.ntmps14
    go_wp2
    go_ret
    exact ⟨rfl, hfin.out⟩

/-! Two devices that answer alike: a fuse below nought is none. -/
def Like (s t : St) : Prop := s.firm = t.firm ∧ s.late = t.late ∧ s.dead = t.dead ∧ (s.fuse = t.fuse ∨ (s.fuse < 0 ∧ t.fuse < 0))

theorem Like.burns {s t : St} (h : Like s t) : burns s = burns t := by
  obtain ⟨_, _, h3, h4⟩ := h
  have : s.fuse = 0 ↔ t.fuse = 0 := by omega
  simp only [Go.Proofs.Ytohkfeolfemcnaa.burns, h3, this]
theorem Like.burnt {s t : St} (h : Like s t) : Like (burnt s) (burnt t) := by
  have hb := h.burns
  obtain ⟨h1, h2, h3, h4⟩ := h
  refine ⟨by rw [burnt_firm, burnt_firm, h1], by rw [burnt_late, burnt_late, h2], ?_, ?_⟩
  · unfold Go.Proofs.Ytohkfeolfemcnaa.burnt
    rw [hb]
    split
    · exact h3
    · rfl
  · unfold Go.Proofs.Ytohkfeolfemcnaa.burnt
    rw [hb]
    split
    · show (if 0 < s.fuse then s.fuse - 1 else s.fuse) = (if 0 < t.fuse then t.fuse - 1 else t.fuse) ∨ ((if 0 < s.fuse then s.fuse - 1 else s.fuse) < 0 ∧ (if 0 < t.fuse then t.fuse - 1 else t.fuse) < 0)
      split <;> split <;> omega
    · exact h4
theorem Like.writeErr {s t : St} (h : Like s t) (k : Int) (b : List UInt8) : writeErr s k b = writeErr t k b := by
  unfold Go.Proofs.Ytohkfeolfemcnaa.writeErr
  rw [h.1, h.burns]
theorem Like.written {s t : St} (h : Like s t) (k : Int) (b : List UInt8) : Like (written s k b) (written t k b) := by
  have hb := h.burnt
  unfold Go.Proofs.Ytohkfeolfemcnaa.written
  rw [h.1, h.burns]
  split
  · exact h
  · split
    · exact hb
    · obtain ⟨h1, h2, h3, h4⟩ := hb
      exact ⟨h1, by simp only; rw [h.2.1], h3, h4⟩
theorem Like.settled {s t : St} (h : Like s t) (keep : Nat) : Like (settledAll s keep) (settledAll t keep) := by
  obtain ⟨h1, h2, h3, h4⟩ := h
  exact ⟨by simp only [settledAll, h1, h2], rfl, h3, h4⟩
theorem Like.act {s t : St} (h : Like s t) (x : Deed) : Like (actSt s x) (actRef t x) ∧ actErr s x = actErr t x := by
  constructor
  · unfold actSt actRef
    split
    · exact h.written _ _
    split
    · unfold barred
      rw [h.burns]
      split
      · exact h.burnt
      · exact h.burnt.settled _
    split
    · obtain ⟨h1, h2, h3, _⟩ := h
      refine ⟨h1, h2, h3, ?_⟩
      simp only [lit]
      split <;> omega
    split
    · obtain ⟨h1, h2, _, _⟩ := h.settled x.keep
      exact ⟨h1, h2, rfl, .inl rfl⟩
    · exact h
  · unfold actErr
    rw [h.writeErr, barErr, barErr, h.burns]
theorem Like.read {s t : St} (h : Like s t) (k : Int) : readB s k = readB t k ∧ readErr s k = readErr t k := by
  obtain ⟨h1, h2, h3, _⟩ := h
  simp only [readB, readErr, h1, h2, h3, and_self]

end Go.Proofs.Ytohkfeolfemcnaa
