/- Keys. -/
import Derived.Test.YtchlcmgdfbabdaaGreatDoorPages7
import Derived.Laws.Concat
namespace Go.Proofs.YtchlcmgdfbabdaaGreatDoor.Pgs
open Go.RowKit

/-- A file's number as four bytes. -/
def b4 (x : Nat) : List UInt8 := [UInt8.ofNat (x / 16777216), UInt8.ofNat (x / 65536 % 256), UInt8.ofNat (x / 256 % 256), UInt8.ofNat (x % 256)]
/-- What the keys of a file's pages begin with. -/
def headB (x : Nat) : List UInt8 := 80 :: b4 x
def keyB (x k : Nat) : List UInt8 := headB x ++ [0, UInt8.ofNat k]
theorem headB_length (x : Nat) : (headB x).length = 5 := rfl
theorem keyB_length (x k : Nat) : (keyB x k).length = 7 := rfl
theorem byteV_nat (m : Nat) (z : Int) (hz : z = m) (h : m < 256) : byteV (UInt8.ofNat m) = .int .u8 z := by
  subst hz
  simp [byteV, Nat.mod_eq_of_lt h]
theorem byteVs_b4 {x : Nat} (hx : x < 4294967296) : byteVs (b4 x) = [.int .u8 ((x : Int) / 16777216), .int .u8 ((x : Int) / 65536 % 256), .int .u8 ((x : Int) / 256 % 256), .int .u8 ((x : Int) % 256)] := by
  unfold b4 byteVs
  simp only [List.map_cons, List.map_nil]
  rw [byteV_nat _ ((x : Int) / 16777216) (by omega) (by omega), byteV_nat _ ((x : Int) / 65536 % 256) (by omega) (by omega), byteV_nat _ ((x : Int) / 256 % 256) (by omega) (by omega), byteV_nat _ ((x : Int) % 256) (by omega) (by omega)]
theorem src_cells (w : World) (t : TypeId) (l : List UInt8) (cs : Array Value) (n : Nat) (hn : n = l.length) (h : cs = (byteVs l).toArray) : SrcV (w.alloc (.cells cs t)) (.slice (some ⟨w.heap.size, 0, none⟩) n n) n (byteVs l) := by
  subst hn
  subst h
  exact SrcV.of_bytes _ (bytes_of_blk (Blk.new w t (byteVs l).toArray))

set_option maxRecDepth 100000 in
theorem prefix_any (w : World) (x : Nat) (hx : x < 4294967296) :
    Calls Tryz.prog 22 #[.int .u32 (x : Int)] w fun e w' => e = .returned (.string (strOf (headB x))) ∧ Only [] w w' := by
  have hcells : #[Value.int IntKind.u8 80, .int .u8 ((x : Int) / 16777216), .int .u8 ((x : Int) / 65536 % 256), .int .u8 ((x : Int) / 256 % 256), .int .u8 ((x : Int) % 256)] = (byteVs (headB x)).toArray := by
    unfold headB
    rw [show byteVs (80 :: b4 x) = byteV 80 :: byteVs (b4 x) from rfl, byteVs_b4 hx]
    rfl
  replace hcells := Lib.hid hcells
  go_enter Tryz.func22, Tryz.ntmps22
  go_wp2_with (refine wpList_to_string _ rfl 88 9 5 (.tmp 14) rfl Tryz.underlying88 Tryz.underlying5 Tryz.underlying9 (some ⟨w.heap.size, 0, none⟩) 5 5 (headB x) rfl (src_cells w _ (headB x) _ 5 rfl hcells.out) ?_)
  go_ret
  exact ⟨rfl, (Only.refl [] w).alloc _⟩
set_option maxRecDepth 100000 in
theorem rkey_any (w : World) (x k : Nat) (hx : x < 4294967296) (hk : k < 32) :
    Calls Tryz.prog 34 #[.int .u32 (x : Int), .int .i64 (k : Int)] w fun e w' => e = .returned (.string (strOf (keyB x k))) ∧ Only [] w w' := by
  have hcells : #[Value.int IntKind.u8 80, .int .u8 ((x : Int) / 16777216), .int .u8 ((x : Int) / 65536 % 256), .int .u8 ((x : Int) / 256 % 256), .int .u8 ((x : Int) % 256), .int .u8 0, .int .u8 (k : Int)] = (byteVs (keyB x k)).toArray := by
    unfold keyB headB
    rw [show byteVs (80 :: b4 x ++ [0, UInt8.ofNat k]) = byteV 80 :: (byteVs (b4 x) ++ [byteV 0, byteV (UInt8.ofNat k)]) by simp [byteVs], byteVs_b4 hx, byteV_nat k (k : Int) rfl (by omega)]
    rfl
  replace hcells := Lib.hid hcells
  go_enter Tryz.func34, Tryz.ntmps34
  go_wp2_with (refine wpList_to_string _ rfl 88 9 5 (.tmp 21) rfl Tryz.underlying88 Tryz.underlying5 Tryz.underlying9 (some ⟨w.heap.size, 0, none⟩) 7 7 (keyB x k) rfl (src_cells w _ (keyB x k) _ 7 rfl hcells.out) ?_)
  go_ret
  exact ⟨rfl, (Only.refl [] w).alloc _⟩

/-- 'string(b)' as a step of a region that draws its order. -/
theorem step_to_string {P : Program} {ops : Array Oper} {o : Oper} {a : Act} {w : World} {K : Act → World → Prop} {Q : Exit → Act → World → Prop} {E : Prop} (hgd : o.guard = none) (src dst e : TypeId) (x : Operand) (ho : o.op = .convert src dst x)
    (hs : P.underlying src = some (.slice e)) (he : P.underlying e = some (.int .u8)) (hd : P.underlying dst = some .string) (A : Option Addr) (m c : Nat) (l : List UInt8) (hx : a.eval x = .slice A m c)
    (hsrc : SrcV w (.slice A m c) m (byteVs l)) (h : K (a.put o.dst (.string (strOf l))) w) : if Region.wanted o (yielded ops a.tmps) = true then Oper.wp P o a w K Q else E := by
  have hw : Region.wanted o (yielded ops a.tmps) = true := by simp [Region.wanted, hgd]
  rw [if_pos hw]
  obtain ⟨hl, hc⟩ := hsrc.bytes
  have hr : (convert src dst (.slice A m c)).run P w = .ok (.string (strOf l)) w := by
    cases hA : A with
    | some ad =>
      subst hA
      have hc' : ∀ j (hj : j < l.length), w.cell? (ad.add j) = some (.int .u8 (l[j].toNat : Int)) := by
        rcases hc with h0 | ⟨ad', he', hc⟩
        · intro j hj; omega
        · injection he' with he'; subst he'; exact hc
      have := run_convert_bytes_back (P := P) w src dst e ad c l hs he hd hc'
      rw [hl] at this
      exact this
    | none =>
      have h0 : m = 0 := by rcases hc with h0 | ⟨ad, he', _⟩; exact h0; rw [hA] at he'; cases he'
      obtain rfl : l = [] := List.eq_nil_of_length_eq_zero (by omega)
      rw [run_convert_bytes_string w src dst e none m c hs he hd]
      simp [Conv.bytesToString, strOf]
      rfl
  unfold Oper.wp
  simp [execOp, ho, hx, hr, Result.andThen]
  exact h
theorem key_src {w : World} {q : Nat} {t : TypeId} {k : Nat} (hk : k < 32) (hb : Blk w q t #[.int .u8 ((k : Int) / 256), .int .u8 (k : Int)]) : SrcV w (.slice (some ⟨q, 0, none⟩) 2 2) 2 (byteVs [0, UInt8.ofNat k]) := by
  have e : #[Value.int IntKind.u8 ((k : Int) / 256), .int .u8 (k : Int)] = (byteVs [0, UInt8.ofNat k]).toArray := by
    rw [show byteVs [0, UInt8.ofNat k] = [byteV 0, byteV (UInt8.ofNat k)] from rfl, byteV_nat k (k : Int) rfl (by omega), show (k : Int) / 256 = 0 by omega]
    rfl
  rw [e] at hb
  exact SrcV.of_bytes 2 (bytes_of_blk hb)

set_option maxRecDepth 100000 in
theorem key_any (w : World) (x k : Nat) (hx : x < 4294967296) (hk : k < 32) :
    Calls Tryz.prog 38 #[.int .u32 (x : Int), .int .i64 (k : Int)] w fun e w' => e = .returned (.string (strOf (keyB x k))) ∧ Only [] w w' := by
  have hp := fun W => prefix_any W x hx
  have hw1 : IntKind.u8.wrap ((k : Int) / 256) = (k : Int) / 256 := by rw [IntKind.wrap_u8]; omega
  have hw2 : IntKind.u8.wrap (k : Int) = (k : Int) := by rw [IntKind.wrap_u8]; omega
  have happ : strOf (headB x) ++ strOf [0, UInt8.ofNat k] = strOf (keyB x k) := strOf_append _ _
  have s1 : (strOf (headB x)).size = 5 := by rw [strOf_size]; rfl
  have s2 : (strOf [0, UInt8.ofNat k]).size = 2 := by rw [strOf_size]; rfl
  have hadd : ∀ W, (Op.stringOp .add (strOf (headB x)) (strOf [0, UInt8.ofNat k])).run Tryz.prog W = .ok (.string (strOf (keyB x k))) W := fun W => by
    rw [run_string_add_sum W _ _ (by omega), happ]
  replace happ := Lib.hid happ
  clear s1 s2
  generalize strOf (headB x) = S1 at *
  generalize strOf (keyB x k) = S3 at *
  go_enter Tryz.func38, Tryz.ntmps38
  go_wp2_with fail
  refine wp_region_held_drew (S := fun w' => True) (by kernel_rfl) trivial (fun hHeld => ?_)
  have kd : Only [] w w.drew := (Only.refl [] w).drew
  generalize w.drew = wd at *
  refine held_take 0 (.int .u32 (x : Int)) rfl (by kernel_rfl) (by kernel_rfl) (by kernel_rfl) (fun _ _ _ h => h) hHeld (Or.inl ⟨by rfl, fun w' hSw => by (try dsimp only at hSw); (try subst hSw); go_simp⟩) ?_
  simp only [Act.put, List.setIfInBounds_toArray, List.set_cons_zero, List.set_cons_succ]
  refine held_take 2 (.int .i64 (k : Int)) rfl (by kernel_rfl) (by kernel_rfl) (by kernel_rfl) (fun _ _ _ h => h) hHeld (Or.inl ⟨by rfl, fun w' hSw => by (try dsimp only at hSw); (try subst hSw); go_simp⟩) ?_
  simp only [Act.put, List.setIfInBounds_toArray, List.set_cons_zero, List.set_cons_succ]
  refine held_take 3 (.int .i64 ((k : Int) / 256)) rfl (by kernel_rfl) (by kernel_rfl) (by kernel_rfl) (fun _ _ _ h => h) hHeld (Or.inl ⟨by rfl, fun w' hSw => by (try dsimp only at hSw); (try subst hSw); go_simp⟩) ?_
  simp only [Act.put, List.setIfInBounds_toArray, List.set_cons_zero, List.set_cons_succ]
  refine held_take 4 (.int .u8 ((k : Int) / 256)) rfl (by kernel_rfl) (by kernel_rfl) (by kernel_rfl) (fun _ _ _ h => h) hHeld (Or.inl ⟨by rfl, fun w' hSw => by (try dsimp only at hSw); (try subst hSw); go_simp⟩) ?_
  simp only [Act.put, List.setIfInBounds_toArray, List.set_cons_zero, List.set_cons_succ]
  refine held_take 5 (.int .i64 (k : Int)) rfl (by kernel_rfl) (by kernel_rfl) (by kernel_rfl) (fun _ _ _ h => h) hHeld (Or.inl ⟨by rfl, fun w' hSw => by (try dsimp only at hSw); (try subst hSw); go_simp⟩) ?_
  simp only [Act.put, List.setIfInBounds_toArray, List.set_cons_zero, List.set_cons_succ]
  refine held_take 6 (.int .u8 (k : Int)) rfl (by kernel_rfl) (by kernel_rfl) (by kernel_rfl) (fun _ _ _ h => h) hHeld (Or.inl ⟨by rfl, fun w' hSw => by (try dsimp only at hSw); (try subst hSw); go_simp⟩) ?_
  simp only [Act.put, List.setIfInBounds_toArray, List.set_cons_zero, List.set_cons_succ]
  refine held_step2 1 7 rfl rfl (by kernel_rfl) (fun K hK => ?_) (fun K hK => ?_)
  · go_simp
    refine (hp _).mono ?_; rintro e w1 ⟨rfl, k1⟩
    go_wp2_with fail
    refine hK.out _ _ trivial (fun hHeld => ?_)
    clear hK K
    refine held_step 7 rfl (by kernel_rfl) (fun K hK => ?_)
    go_simp
    go_wp2_with fail
    refine hK.out _ _ trivial (fun hHeld => ?_)
    clear hK K
    refine held_step 8 rfl (by kernel_rfl) (fun K hK => ?_)
    refine step_to_string rfl 88 9 5 (.tmp 18) rfl Tryz.underlying88 Tryz.underlying5 Tryz.underlying9 (some ⟨w1.heap.size, 0, none⟩) 2 2 [0, UInt8.ofNat k] rfl (key_src hk (Blk.new w1 5 _)) ?_
    go_wp2_with fail
    refine hK.out _ _ trivial (fun hHeld => ?_)
    clear hK K
    refine held_step 9 rfl (by kernel_rfl) (fun K hK => ?_)
    go_simp
    go_wp2_with fail
    refine hK.out _ _ trivial (fun hHeld => ?_)
    clear hK K
    refine held_step 10 rfl (by kernel_rfl) (fun K hK => ?_)
    go_simp
    go_wp2_with fail
    refine hK.out _ _ trivial (fun hHeld => ?_)
    clear hK K
    refine wpAnyH_done (by kernel_rfl) ?_ _
    clear hHeld
    have hfin := Lib.hid ((kd.trans k1).alloc (.cells #[.int .u8 ((k : Int) / 256), .int .u8 (k : Int)] 5))
    go_wp2
    go_ret
    exact ⟨rfl, hfin.out⟩
  · go_simp
    go_wp2_with fail
    refine hK.out _ _ trivial (fun hHeld => ?_)
    clear hK K
    refine held_step2 1 8 rfl rfl (by kernel_rfl) (fun K hK => ?_) (fun K hK => ?_)
    · go_simp
      refine (hp _).mono ?_; rintro e w1 ⟨rfl, k1⟩
      have hb := (Blk.new wd 5 #[.int .u8 ((k : Int) / 256), .int .u8 (k : Int)]).kept k1 (by simp)
      go_wp2_with fail
      refine hK.out _ _ trivial (fun hHeld => ?_)
      clear hK K
      refine held_step 8 rfl (by kernel_rfl) (fun K hK => ?_)
      refine step_to_string rfl 88 9 5 (.tmp 18) rfl Tryz.underlying88 Tryz.underlying5 Tryz.underlying9 (some ⟨wd.heap.size, 0, none⟩) 2 2 [0, UInt8.ofNat k] rfl (key_src hk hb) ?_
      go_wp2_with fail
      refine hK.out _ _ trivial (fun hHeld => ?_)
      clear hK K
      refine held_step 9 rfl (by kernel_rfl) (fun K hK => ?_)
      go_simp
      go_wp2_with fail
      refine hK.out _ _ trivial (fun hHeld => ?_)
      clear hK K
      refine held_step 10 rfl (by kernel_rfl) (fun K hK => ?_)
      go_simp
      go_wp2_with fail
      refine hK.out _ _ trivial (fun hHeld => ?_)
      clear hK K
      refine wpAnyH_done (by kernel_rfl) ?_ _
      clear hHeld
      have hfin := Lib.hid ((kd.alloc (.cells #[.int .u8 ((k : Int) / 256), .int .u8 (k : Int)] 5)).trans k1)
      go_wp2
      go_ret
      exact ⟨rfl, hfin.out⟩
    · refine step_to_string rfl 88 9 5 (.tmp 18) rfl Tryz.underlying88 Tryz.underlying5 Tryz.underlying9 (some ⟨wd.heap.size, 0, none⟩) 2 2 [0, UInt8.ofNat k] rfl (key_src hk (Blk.new wd 5 _)) ?_
      go_wp2_with fail
      refine hK.out _ _ trivial (fun hHeld => ?_)
      clear hK K
      refine held_step 1 rfl (by kernel_rfl) (fun K hK => ?_)
      go_simp
      refine (hp _).mono ?_; rintro e w1 ⟨rfl, k1⟩
      go_wp2_with fail
      refine hK.out _ _ trivial (fun hHeld => ?_)
      clear hK K
      refine held_step 9 rfl (by kernel_rfl) (fun K hK => ?_)
      go_simp
      go_wp2_with fail
      refine hK.out _ _ trivial (fun hHeld => ?_)
      clear hK K
      refine held_step 10 rfl (by kernel_rfl) (fun K hK => ?_)
      go_simp
      go_wp2_with fail
      refine hK.out _ _ trivial (fun hHeld => ?_)
      clear hK K
      refine wpAnyH_done (by kernel_rfl) ?_ _
      clear hHeld
      have hfin := Lib.hid ((kd.alloc (.cells #[.int .u8 ((k : Int) / 256), .int .u8 (k : Int)] 5)).trans k1)
      go_wp2
      go_ret
      exact ⟨rfl, hfin.out⟩

theorem key_no (w : World) (x k : Int) (h : ¬ (0 ≤ k ∧ k < 32)) :
    Calls Tryz.prog 38 #[.int .u32 x, .int .i64 k] w fun e w' => e = .returned (.string ⟨#[]⟩) ∧ w' = w := by
  by_cases h0 : k < 0
  · clear h
    go_enter Tryz.func38, Tryz.ntmps38
    go_wp2
    go_ret
    exact ⟨rfl, rfl⟩
  · have h1 : (32 : Int) ≤ k := by omega
    clear h
    go_enter Tryz.func38, Tryz.ntmps38
    go_wp2
    go_ret
    exact ⟨rfl, rfl⟩
end Go.Proofs.YtchlcmgdfbabdaaGreatDoor.Pgs
