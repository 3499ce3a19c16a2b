/- spread: an object's bytes; page: one of a body; pages: the object of a body. -/
import Derived.Test.YtchlcmgdfbabdaaGreatDoorCell7
namespace Go.Proofs.YtchlcmgdfbabdaaGreatDoor.Pgs
open Go.RowKit

theorem results_row {fn : Func} {p : Tmp} {ty : TypeId} (h : fn.results = #[.cell p ty]) (tmps : Array Value) (P : Program) (w : World) (g : Nat) (hp : tmps.getD p undef = .pointer (some ⟨g, 0, none⟩)) (cs : List Value) (d : TypeDesc)
    (hc : w.rangeAt g 0 cs) (hu : P.underlying ty = some d) (hd : d.isRow = true) (hi : (P.info? ty).map (·.size) = some cs.length) : (results fn tmps).run P w = .ok (.agg cs.toArray) w := by
  rw [results_cell h, hp]
  simp [asAddr, Result.andThen, run_loadVar_mid (P := P) w g 0 ty cs d hc hu hd hi]

/-- 'b[k:]' of a body. -/
theorem body_from (q k : Nat) (x : Int) (hx : x = k) (hk : k ≤ 1024) :
    ∃ off : Nat, (k < 1024 → off = k) ∧ off ≤ k ∧ ∀ W : World, (Instr.sliceAt 71 (.pointer (some ⟨q, 0, none⟩)) (some (.int .i64 x)) none none).run Tryz.prog W = .ok (.slice (some ⟨q, off, none⟩) (1024 - k) (1024 - k)) W := by
  subst hx
  have ht : Tryz.prog.underlying 71 = some (.array (Tryz.prog.arrayLen 71) (Tryz.prog.elem 71)) := by kernel_rfl
  have hl : Tryz.prog.arrayLen 71 = 1024 := by kernel_rfl
  have he : Tryz.prog.elem 71 = 5 := by kernel_rfl
  refine ⟨if 1024 = k then 0 else k, fun h => by rw [if_neg (by omega)], by split <;> omega, fun W => ?_⟩
  rw [run_sliceAt_array_l W _ _ ht .i64 (k : Int) (by omega) (by rw [hl]; omega), hl, he, Tryz.sizeOf5]
  by_cases h : 1024 = k
  · simp [Result.andThen, slicedAt, ← h]
  · simp [Result.andThen, slicedAt, h, addr_add]

theorem size_body : (Tryz.prog.info? 71).map (·.size) = some 1024 := (zero_of_info zero_body).2
theorem size_page : (Tryz.prog.info? 86).map (·.size) = some 32 := (zero_of_info zero_page).2

theorem take_snoc {o : List Pg} {k : Nat} (h : k < o.length) : o.take (k + 1) = o.take k ++ [o[k]] := by
  rw [List.take_add_one, List.getElem?_eq_getElem h]
  rfl

set_option maxRecDepth 100000 in
set_option maxHeartbeats 1000000 in
theorem spread_any (w : World) (A : Option Addr) (c n : Nat) (o : List Pg) (hn : n = o.length) (hA : Els pgE 2 w A o) (hr : right o = true) :
    Calls Tryz.prog 24 #[.slice A n c] w fun e w' => e = .returned (.agg (byteVs (body o)).toArray) ∧ Only [] w w' := by
  have hn32 : n ≤ 32 := by have := right_len hr; omega
  have HN := Lib.hid hn
  have HR := Lib.hid hr
  clear hn hr
  obtain ⟨Z, hZ⟩ : ∃ Z, Z = (byteVs (zs 1024)).toArray := ⟨_, rfl⟩
  have hz0 := (zero_of_info zero_body).1
  rw [← hZ] at hz0
  have hZ2 : Z = (byteVs (body (o.take 0))).toArray := by rw [hZ, List.take_zero, body_nil]
  have hZ3 : Z.size = 1024 := by rw [hZ]; simp [byteVs, zs]
  replace hZ := Lib.hid hZ
  replace hZ2 := Lib.hid hZ2
  go_enter Tryz.func24, Tryz.ntmps24
  go_wp2_with fail
  obtain ⟨W2, hW2⟩ : ∃ W2, W2 = (w.alloc (.cells Z 71)).alloc (.cells Z 71) := ⟨_, rfl⟩
  have k2 : Only [] w W2 := by rw [hW2]; exact ((Only.refl [] w).alloc _).alloc _
  have b0 : Blk W2 w.heap.size 71 Z := by rw [hW2]; exact (Blk.new w _ _).alloc _
  have b1 : Blk W2 (w.heap.size + 1) 71 Z := by
    rw [hW2]
    have := Blk.new (w.alloc (.cells Z 71)) 71 Z
    simpa using this
  rw [hZ2.out] at b1
  rw [← hW2]
  replace hW2 := Lib.hid hW2
  go_loopw [8] (fun i wr => ∃ k : Nat, k ≤ n ∧ i = .int .i64 k ∧ Blk wr w.heap.size 71 Z ∧ Blk wr (w.heap.size + 1) 71 (byteVs (body (o.take k))).toArray ∧ Only [] w wr) (fun i _ => n - (intOf i).toNat)
  case atStart => exact ⟨0, Nat.zero_le _, rfl, b0, b1, k2⟩
  case round =>
    clear b0 b1 k2
    obtain ⟨k, hk, rfl, b0, b1, honly⟩ := hrel
    by_cases hlt : k < n
    · have hk' : k < o.length := by have := HN.out; omega
      obtain ⟨g, off, rfl, _, hat⟩ := hA.get hk'
      obtain ⟨c0, c1⟩ := pgs_at (hat.kept honly (by simp)) hk'
      have hmem := okP_mem o (-1) HR.out o[k] (List.getElem_mem hk')
      have hnext : body (o.take (k + 1)) = lay (body (o.take k)) (o[k].n.toNat * 32) o[k].d := by
        rw [take_snoc hk']
        exact body_snoc (by rw [← take_snoc hk']; exact right_take HR.out _)
      have hbl : (body (o.take k)).length = 1024 := body_len (right_take HR.out _)
      generalize o[k] = p at *
      obtain ⟨N, d⟩ := p
      simp only at c0 c1 hmem hnext
      obtain ⟨m0, m1, m2, _⟩ := hmem
      obtain ⟨m, rfl⟩ : ∃ m : Nat, N = m := ⟨N.toNat, by omega⟩
      rw [Int.toNat_natCast] at hnext
      have hm : m < 32 := by omega
      clear m0 m1 hat hA
      have hwr : IntKind.i64.wrap ((m : Int) * 32) = (m : Int) * 32 := by rw [IntKind.wrap_i64]; omega
      obtain ⟨off', ho1, ho2, hsl⟩ := body_from (w.heap.size + 1) (m * 32) ((m : Int) * 32) (by omega) (by omega)
      have ho3 : off' = m * 32 := ho1 (by omega)
      subst ho3
      clear ho1 ho2
      generalize hB : body (o.take k) = B at *
      replace hnext := Lib.hid hnext
      replace hB := Lib.hid hB
      have hs : (Value.string (strOf d)) = .string (strOf d) := rfl
      generalize hst : strOf d = s at *
      replace hst := Lib.hid hst
      clear hs
      go_wp2
      obtain ⟨W1, hW1⟩ : ∃ W1, W1 = wr.alloc (.cells #[.int .i64 (m : Int), .string s] 69) := ⟨_, rfl⟩
      rw [← hW1]
      have k1 : Only [] wr W1 := by rw [hW1]; exact (Only.refl [] wr).alloc _
      have p1 : Blk W1 wr.heap.size 69 #[.int .i64 (m : Int), .string s] := by rw [hW1]; exact Blk.new wr _ _
      have e0 := p1.cell 0
      have e1 := p1.cell 1
      simp only [List.getElem?_toArray, List.getElem?_cons_zero, List.getElem?_cons_succ] at e0 e1
      have d0 := b0.kept (k1.drew) (by simp)
      have d1 := b1.kept (k1.drew) (by simp)
      have donly := honly.trans k1.drew
      have hne : w.heap.size + 1 ≠ w.heap.size := by omega
      replace hW1 := Lib.hid hW1
      clear b0 b1 honly k1 p1
      go_still_tail 6, (by kernel_rfl)
      change wpList _ _ _ _ _ W1.drew
      generalize W1.drew = wd at *
      refine wpList_copy_text rfl (.tmp 15) (.tmp 17) 88 9 rfl 5 Tryz.underlying88 (by kernel_rfl) (w.heap.size + 1) (m * 32) (m * 32) (1024 - m * 32) _ d rfl (by rw [hst.out]; rfl) B 71 d1 (by omega) (fun _ => rfl) (by omega) (by omega) ?_
      intro w3 h3 k3
      have f0 := d0.kept k3 (by simp)
      have f2 := donly.then k3 (by
        intro i hi
        simp at hi
        subst hi
        exact .inr (by omega))
      rw [← hnext.out] at h3
      replace f0 := Lib.hid f0
      replace h3 := Lib.hid h3
      clear d0 d1 donly k3 e0 e1
      go_wp2
      go_roundw
      case rel => exact ⟨k + 1, by omega, by go_num, f0.out, h3.out, f2⟩
      case measure => simp [intOf]; omega
    · have hkn : o.take k = o := List.take_of_length_le (by have := HN.out; omega)
      rw [hkn] at b1
      have hbl : (byteVs (body o)).length = 1024 := by rw [byteVs_length]; exact body_len HR.out
      clear hA hkn
      have hra := Blk.range b1
      have hone := one_bytes (body o)
      generalize hC : byteVs (body o) = C at *
      replace hC := Lib.hid hC
      have hs1 : (Tryz.prog.info? 71).map (·.size) = some C.toArray.size := by rw [List.size_toArray, hbl]; exact size_body
      have hs2 : Z.size = C.toArray.size := hZ3.trans (by rw [List.size_toArray, hbl])
      replace hs1 := Lib.hid hs1
      replace hs2 := Lib.hid hs2
      replace hone := Lib.hid hone
      go_wp2_with (first
        | (refine wpList_load_mid rfl 71 (.tmp 3) rfl (w.heap.size + 1) 0 rfl C _ hra Tryz.underlying71 rfl (by rw [hbl]; exact size_body) ?_)
        | (refine wpList_store_whole rfl 71 (.tmp 2) (.tmp 20) rfl w.heap.size Z C.toArray rfl rfl b0 hs1.out hs2.out hone.out ?_; intro w3 h3 k3))
      have k4 := honly.then k3 (by
        intro i hi
        simp at hi
        subst hi
        exact .inr (Nat.le_refl _))
      go_wp2
      refine bodyPost_ret (v := .agg C.toArray) (results_row rfl _ _ _ w.heap.size rfl C _ (by rw [← hC.out] at h3 ⊢; exact Blk.range h3) Tryz.underlying71 rfl (by rw [hbl]; exact size_body)) rfl ?_
      exact ⟨by rw [hC.out], k4⟩

/-- A body in memory. -/
def BodyB (w : World) (g : Nat) (b : List UInt8) : Prop := Blk w g 71 (byteVs b).toArray ∧ b.length = 1024

set_option maxRecDepth 100000 in
set_option maxHeartbeats 1000000 in
theorem page_any (w : World) (g k : Nat) (b : List UInt8) (hb : BodyB w g b) (hk : k < 32) :
    Calls Tryz.prog 37 #[.pointer (some ⟨g, 0, none⟩), .int .i64 k] w fun e w' => e = .returned (.agg (byteVs (chunk b k)).toArray) ∧ Only [] w w' := by
  obtain ⟨hb, hl⟩ := hb
  have hz0 := (zero_of_info zero_page).1
  obtain ⟨Z, hZ⟩ : ∃ Z, Z = (byteVs (zs 32)).toArray := ⟨_, rfl⟩
  rw [← hZ] at hz0
  have hZ3 : Z.size = 32 := by rw [hZ]; simp [byteVs, zs]
  replace hZ := Lib.hid hZ
  obtain ⟨off', ho1, ho2, hsl⟩ := body_from g (k * 32) ((k : Int) * 32) (by omega) (by omega)
  have ho3 : off' = k * 32 := ho1 (by omega)
  subst ho3
  clear ho1 ho2
  have hwr : IntKind.i64.wrap ((k : Int) * 32) = (k : Int) * 32 := by rw [IntKind.wrap_i64]; omega
  go_enter Tryz.func37, Tryz.ntmps37
  go_wp2_with fail
  obtain ⟨W2, hW2⟩ : ∃ W2, W2 = (w.alloc (.cells Z 86)).alloc (.cells Z 86) := ⟨_, rfl⟩
  have k2 : Only [] w W2 := by rw [hW2]; exact ((Only.refl [] w).alloc _).alloc _
  have b0 : Blk W2 w.heap.size 86 Z := by rw [hW2]; exact (Blk.new w _ _).alloc _
  have b1 : Blk W2 (w.heap.size + 1) 86 Z := by
    rw [hW2]
    have := Blk.new (w.alloc (.cells Z 86)) 86 Z
    simpa using this
  rw [← hW2]
  have d0 := b0.kept ((Only.refl [] W2).drew) (by simp)
  have d1 := b1.kept ((Only.refl [] W2).drew) (by simp)
  have dg := hb.kept (k2.drew) (by simp)
  have dk := k2.drew
  replace hW2 := Lib.hid hW2
  clear b0 b1 k2
  go_still_tail 6, (by kernel_rfl)
  change wpList _ _ _ _ _ W2.drew
  generalize W2.drew = wd at *
  rw [hZ.out] at d1
  refine wpList_copy_page rfl (.tmp 6) (.tmp 11) 88 88 rfl 5 Tryz.underlying88 (by kernel_rfl) (w.heap.size + 1) g k _ _ (1024 - k * 32) rfl rfl (by omega) (zs 32) b 86 71 d1 (zs_length 32) dg (by omega) ?_
  intro w3 h3 k3
  have f0 := d0.kept k3 (by simp)
  have f2 := dk.then k3 (by
    intro i hi
    simp at hi
    subst hi
    exact .inr (by omega))
  have hcl : (byteVs (chunk b k)).length = 32 := by rw [byteVs_length]; exact chunk_len hl hk
  have hra := Blk.range h3
  have hone := one_bytes (chunk b k)
  generalize hC : byteVs (chunk b k) = C at *
  replace hC := Lib.hid hC
  clear d0 d1 dg dk k3 hb hl
  have hs1 : (Tryz.prog.info? 86).map (·.size) = some C.toArray.size := by rw [List.size_toArray, hcl]; exact size_page
  have hs2 : Z.size = C.toArray.size := hZ3.trans (by rw [List.size_toArray, hcl])
  replace hs1 := Lib.hid hs1
  replace hs2 := Lib.hid hs2
  replace hone := Lib.hid hone
  go_wp2_with (first
    | (refine wpList_load_mid rfl 86 (.tmp 5) rfl (w.heap.size + 1) 0 rfl C _ hra Tryz.underlying86 rfl (by rw [hcl]; exact size_page) ?_)
    | (refine wpList_store_whole rfl 86 (.tmp 4) (.tmp 13) rfl w.heap.size Z C.toArray rfl rfl f0 hs1.out hs2.out hone.out ?_; intro w4 h4 k4))
  have k5 := f2.then k4 (by
    intro i hi
    simp at hi
    subst hi
    exact .inr (Nat.le_refl _))
  go_wp2
  refine bodyPost_ret (v := .agg C.toArray) (results_row rfl _ _ _ w.heap.size rfl C _ (by rw [← hC.out] at h4 ⊢; exact Blk.range h4) Tryz.underlying86 rfl (by rw [hcl]; exact size_page)) rfl ?_
  exact ⟨by rw [hC.out], k5⟩

end Go.Proofs.YtchlcmgdfbabdaaGreatDoor.Pgs
