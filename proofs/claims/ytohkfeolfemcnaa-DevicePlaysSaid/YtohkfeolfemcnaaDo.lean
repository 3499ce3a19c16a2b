/- do: an act of a device. -/
import Derived.Test.YtohkfeolfemcnaaBlock
namespace Go.Proofs.Ytohkfeolfemcnaa
open Go.RowKit

/-- An act: its kind, its number, its byte, its bits. -/
structure Deed where
  kind : Int
  at_ : Int
  b : UInt8
  keep : Nat

def Deed.okay (x : Deed) : Prop := (-9223372036854775808 ≤ x.kind ∧ x.kind ≤ 9223372036854775807) ∧ (-9223372036854775808 ≤ x.at_ ∧ x.at_ ≤ 9223372036854775807) ∧ x.keep < 18446744073709551616

def actSt (s : St) (x : Deed) : St :=
  if x.kind.tmod 5 = 0 then written s x.at_ (rep 256 x.b) else if x.kind.tmod 5 = 1 then barred s else if x.kind.tmod 5 = 2 then lit s x.at_ else if x.kind.tmod 5 = 3 then crashed s x.keep else s
def actErr (s : St) (x : Deed) : Int :=
  if x.kind.tmod 5 = 0 then writeErr s x.at_ (rep 256 x.b) else if x.kind.tmod 5 = 1 then barErr s else if x.kind.tmod 5 = 4 then 1 else 0

theorem Same.did {w w' : World} {p : Nat} {F : List Nat} {s : St} (h : Same w w' p F s) : Did w w' p F s := ⟨F, h.1, h.2, fun _ hk => .inl hk⟩
theorem Did.from {w w0 w' : World} {p : Nat} {F : List Nat} {s : St} (k : Only [] w w0) (h : Did w0 w' p F s) : Did w w' p F s := by
  obtain ⟨F', h1, h2, h3⟩ := h
  exact ⟨F', h1, (k.more (T := F) (by simp)).then h2 (fun _ hi => .inl hi), fun i hi => (h3.out i hi).imp id (fun h => Nat.le_trans k.size h)⟩

theorem writeErr_short (s : St) (k : Int) (n : Nat) (b : UInt8) (hn : n ≠ 256) : writeErr s k (rep n b) = 1 := by
  have : ¬ (rep n b).length = 256 := by rw [rep_length]; exact hn
  simp [writeErr, this]
theorem written_short (s : St) (k : Int) (n : Nat) (b : UInt8) (hn : n ≠ 256) : written s k (rep n b) = s := by
  have : ¬ (rep n b).length = 256 := by rw [rep_length]; exact hn
  simp [written, this]

theorem Did.mono {w w' : World} {p : Nat} {F G : List Nat} {s : St} (h : Did w w' p F s) (hG : ∀ i ∈ F, i ∈ G) : Did w w' p G s := by
  obtain ⟨F', h1, h2, h3⟩ := h
  exact ⟨F', h1, h2.more (fun i hi => .inl (hG i hi)), fun i hi => (h3.out i hi).imp (hG i) id⟩
theorem Did.cell {w w' : World} {p : Nat} {F : List Nat} {s : St} (h : Did w w' p F s) {a : Addr} {v : Value} (hc : w.cell? a = some v) (ha : a.block ∉ F) : w'.cell? a = some v := by
  obtain ⟨F', h1, h2, h3⟩ := h
  exact h2.cell hc ha

theorem Only.undrew {S : List Nat} {w w' : World} (h : Only S w.drew w') : Only S w w' := ⟨h.os, h.tape, h.output, h.size, h.block⟩
theorem block_at (w : World) (b : UInt8) (z : Int) (n : Nat) (hz : z = (n : Int)) (hn : n ≤ 1048576) :
    Calls Try.prog 20 #[.int .u8 (b.toNat : Int), .int .i64 z] w fun e w' => e = .returned (.string (strOf (rep n b))) ∧ Only [] w w' := by
  subst hz
  exact block_any w b n hn

theorem byte_mod (b : UInt8) (m : Nat) (h : m = b.toNat % 128) : m ≠ 256 := by omega

theorem byte_rem (b : UInt8) : (IntKind.i64.wrap (b.toNat : Int)).tmod 128 = ((b.toNat % 128 : Nat) : Int) := by
  have hb := b.toNat_lt
  have e : IntKind.i64.wrap (b.toNat : Int) = (b.toNat : Int) := by rw [IntKind.wrap_i64]; omega
  rw [e, Int.tmod_eq_emod_of_nonneg (by omega)]
  omega

set_option maxHeartbeats 1000000 in
theorem do_any (w : World) (p : Nat) (F : List Nat) (s : St) (x : Deed) (hx : x.okay) (hlen : s.late.length < 1048576) (hd : Dev w p F s) :
    Calls Try.prog 13 #[.pointer (some ⟨p, 0, none⟩), .agg #[.int .i64 x.kind, .int .i64 x.at_, .int .u8 (x.b.toNat : Int), .int .u64 (x.keep : Int)]] w fun e w' => e = .returned (.int .i64 (actErr s x)) ∧ Did w w' p F (actSt s x) := by
  obtain ⟨F0, hd0, hsub, hlt⟩ := hd.trim
  refine Calls.mono (R := fun e w' => e = .returned (.int .i64 (actErr s x)) ∧ Did w w' p F0 (actSt s x)) ?_ (fun e w' h => ⟨h.1, h.2.mono hsub⟩)
  clear hd hsub F
  obtain ⟨kind, at_, b, keep⟩ := x
  obtain ⟨⟨k0, k1⟩, ⟨a0, a1⟩, hkeep⟩ := hx
  simp only at k0 k1 a0 a1 hkeep ⊢
  obtain ⟨q, hq⟩ : ∃ q, q = w.heap.size := ⟨_, rfl⟩
  have hqF : q ∉ F0 := fun h => by have := hlt q h; omega
  obtain ⟨W, hW⟩ : ∃ W, W = w.alloc (.cells #[.int .i64 kind, .int .i64 at_, .int .u8 (b.toNat : Int), .int .u64 (keep : Int)] 33) := ⟨_, rfl⟩
  have kW : Only [] w W := by rw [hW]; exact (Only.refl [] w).alloc _
  have bq : Blk W q 33 #[.int .i64 kind, .int .i64 at_, .int .u8 (b.toNat : Int), .int .u64 (keep : Int)] := by rw [hW, hq]; exact Blk.new w _ _
  have hdW := hd0.kept kW (by simp)
  have c0 := bq.cell 0
  have c1 := bq.cell 1
  have c2 := bq.cell 2
  have c3 := bq.cell 3
  simp only [List.getElem?_toArray, List.getElem?_cons_zero, List.getElem?_cons_succ] at c0 c1 c2 c3
  replace hW := Lib.hid hW
  replace hq := Lib.hid hq
  clear hlt bq hd0
  by_cases r0 : kind.tmod 5 = 0
  · have e1 : actErr s ⟨kind, at_, b, keep⟩ = writeErr s at_ (rep 256 b) := by simp [actErr, r0]
    have e2 : actSt s ⟨kind, at_, b, keep⟩ = written s at_ (rep 256 b) := by simp [actSt, r0]
    rw [e1, e2]
    clear e1 e2
    go_enter Try.func13, Try.ntmps13
    go_wp2_with fail
    rw [← hW.out, ← hq.out]
    go_region_held3 (fun w' => w'.cell? ⟨q, 1, none⟩ = some (.int .i64 at_) ∧ w'.cell? ⟨q, 2, none⟩ = some (.int .u8 (b.toNat : Int)))
      (first
        | exact ⟨c1, c2⟩
        | exact ⟨hWr.cell (kb.cell c1 (by simp)) hqF, hWr.cell (kb.cell c2 (by simp)) hqF⟩
        | exact ⟨kb.cell c1 (by simp), kb.cell c2 (by simp)⟩)
      (first
        | (go_at_call 20; refine (block_any _ b 256 (by decide)).mono ?_; rintro e wb ⟨rfl, kb⟩; replace kb := kb.undrew)
        | (go_at_call 24; refine (write_any _ p F0 s at_ (rep 256 b) a0 a1 hlen (hdW.kept kb (by simp))).mono ?_; rintro e wc ⟨rfl, hWr⟩))
    have hfin := Lib.hid ((hWr.from kb).from kW)
    clear hWr
    go_wp2
    go_ret
    exact ⟨rfl, hfin.out⟩
  by_cases r1 : kind.tmod 5 = 1
  · have e1 : actErr s ⟨kind, at_, b, keep⟩ = barErr s := by simp [actErr, r1]
    have e2 : actSt s ⟨kind, at_, b, keep⟩ = barred s := by simp [actSt, r1]
    rw [e1, e2]
    clear e1 e2
    go_enter Try.func13, Try.ntmps13
    go_wp2_with fail
    rw [← hW.out, ← hq.out]
    refine (barrier_any W p F0 s hdW).mono ?_
    rintro e wc ⟨rfl, hWr⟩
    have hfin := Lib.hid (hWr.did.from kW)
    clear hWr
    go_wp2
    go_ret
    exact ⟨rfl, hfin.out⟩
  by_cases r2 : kind.tmod 5 = 2
  · have e1 : actErr s ⟨kind, at_, b, keep⟩ = 0 := by simp [actErr, r2]
    have e2 : actSt s ⟨kind, at_, b, keep⟩ = lit s at_ := by simp [actSt, r2]
    rw [e1, e2]
    clear e1 e2
    go_enter Try.func13, Try.ntmps13
    go_wp2_with fail
    rw [← hW.out, ← hq.out]
    refine (fuse_any W p F0 s at_ a0 a1 hdW).mono ?_
    rintro e wc ⟨rfl, hWr⟩
    have hfin := Lib.hid (hWr.did.from kW)
    clear hWr
    go_wp2
    go_ret
    exact ⟨rfl, hfin.out⟩
  by_cases r3 : kind.tmod 5 = 3
  · have e1 : actErr s ⟨kind, at_, b, keep⟩ = 0 := by simp [actErr, r3]
    have e2 : actSt s ⟨kind, at_, b, keep⟩ = crashed s keep := by simp [actSt, r3]
    rw [e1, e2]
    clear e1 e2
    go_enter Try.func13, Try.ntmps13
    go_wp2_with fail
    rw [← hW.out, ← hq.out]
    refine (crash_any W p F0 s keep hkeep hdW).mono ?_
    rintro e wc ⟨rfl, hWr⟩
    have hfin := Lib.hid (hWr.did.from kW)
    clear hWr
    go_wp2
    go_ret
    exact ⟨rfl, hfin.out⟩
  by_cases r4 : kind.tmod 5 = 4
  · have e1 : actErr s ⟨kind, at_, b, keep⟩ = 1 := by simp [actErr, r4]
    have e2 : actSt s ⟨kind, at_, b, keep⟩ = s := by simp [actSt, r4]
    rw [e1, e2]
    clear e1 e2
    obtain ⟨m, hm⟩ : ∃ m, m = b.toNat % 128 := ⟨_, rfl⟩
    have hm256 := byte_mod b m hm
    have hrem : (IntKind.i64.wrap (b.toNat : Int)).tmod 128 = (m : Int) := by rw [hm]; exact byte_rem b
    have hm1 : m ≤ 1048576 := by omega
    have hwe := writeErr_short s at_ m b hm256
    have hwr := written_short s at_ m b hm256
    clear hm hm256
    go_enter Try.func13, Try.ntmps13
    go_wp2_with fail
    rw [← hW.out, ← hq.out]
    go_region_held3 (fun w' => w'.cell? ⟨q, 1, none⟩ = some (.int .i64 at_) ∧ w'.cell? ⟨q, 2, none⟩ = some (.int .u8 (b.toNat : Int)))
      (first
        | exact ⟨c1, c2⟩
        | exact ⟨hWr.cell (kb.cell c1 (by simp)) hqF, hWr.cell (kb.cell c2 (by simp)) hqF⟩
        | exact ⟨kb.cell c1 (by simp), kb.cell c2 (by simp)⟩)
      (first
        | (go_at_call 20; refine (block_any _ b m hm1).mono ?_; rintro e wb ⟨rfl, kb⟩; replace kb := kb.undrew)
        | (go_at_call 24; refine (write_any _ p F0 s at_ (rep m b) a0 a1 hlen (hdW.kept kb (by simp))).mono ?_; rintro e wc ⟨rfl, hWr⟩))
    rw [hwr] at hWr
    have hfin := Lib.hid ((hWr.from kb).from kW)
    clear hWr
    go_wp2
    go_ret
    exact ⟨rfl, hfin.out⟩
  · have e1 : actErr s ⟨kind, at_, b, keep⟩ = 0 := by simp [actErr, r0, r1, r4]
    have e2 : actSt s ⟨kind, at_, b, keep⟩ = s := by simp [actSt, r0, r1, r2, r3]
    rw [e1, e2]
    clear e1 e2
    have hfin : Did w W p F0 s := Did.from kW ⟨F0, hdW, Only.refl _ _, fun _ h => .inl h⟩
    rw [hW.out] at hfin
    replace hfin := Lib.hid hfin
    go_enter Try.func13, Try.ntmps13
    go_wp2
    go_ret
    exact ⟨rfl, hfin.out⟩

end Go.Proofs.Ytohkfeolfemcnaa
