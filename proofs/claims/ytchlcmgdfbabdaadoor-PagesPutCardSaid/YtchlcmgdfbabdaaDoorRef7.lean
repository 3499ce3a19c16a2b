/- The document's In, At, Bytes, Of. -/
import Derived.Test.YtchlcmgdfbabdaaDoorFun8
namespace Go.Proofs.YtchlcmgdfbabdaaDoor.Pgs
open Go.RowKit

theorem rin_any (w : World) (off len : Int) :
    Calls Tryd.prog 16 #[.int .i64 off, .int .i64 len] w fun e w' => e = .returned (.bool (inB off len)) ∧ w' = w := by
  by_cases h0 : 0 ≤ off
  · by_cases h1 : off ≤ 1024
    · by_cases h2 : 0 ≤ len
      · by_cases h3 : len ≤ 1024 - off
        · rw [inB_of h0 h2 (by omega)]
          go_enter Tryd.func16, Tryd.ntmps16
          go_wp2
          go_ret
          exact ⟨rfl, rfl⟩
        · rw [inB_no (fun h => h3 (by omega))]
          have d2 : decide (len ≤ 1024 - off) = false := by simpa using h3
          go_enter Tryd.func16, Tryd.ntmps16
          go_wp2
          go_ret
          exact ⟨rfl, rfl⟩
      · rw [inB_no (fun h => h2 (by omega))]
        have d2 : decide (0 ≤ len) = false := by simpa using h2
        go_enter Tryd.func16, Tryd.ntmps16
        go_wp2
        go_ret
        exact ⟨rfl, rfl⟩
    · rw [inB_no (fun h => h1 (by omega))]
      have d2 : decide (off ≤ 1024) = false := by simpa using h1
      go_enter Tryd.func16, Tryd.ntmps16
      go_wp2
      go_ret
      exact ⟨rfl, rfl⟩
  · rw [inB_no (fun h => h0 h.1)]
    have d1 : decide (0 ≤ off) = false := by simpa using h0
    go_enter Tryd.func16, Tryd.ntmps16
    go_wp2
    go_ret
    exact ⟨rfl, rfl⟩

/-- An object that came in or was made, in some world. -/
structure Obj7 (w : World) (A : Option Addr) (n : Nat) (o : List Pg) : Prop where
  len : n = o.length
  els : Els pgE 2 w A o
  okay : right o = true
theorem Obj7.few {w : World} {A : Option Addr} {n : Nat} {o : List Pg} (h : Obj7 w A n o) : n ≤ 32 := by rw [h.len]; exact right_len h.okay
theorem Obj7.kept {w w' : World} {A : Option Addr} {n : Nat} {o : List Pg} (h : Obj7 w A n o) (k : Only [] w w') : Obj7 w' A n o := ⟨h.len, h.els.kept k (by simp), h.okay⟩

/-- A byte of bytes. -/
def bAt (b : List UInt8) (i : Nat) : UInt8 := b.getD i 0

set_option maxRecDepth 100000 in
theorem at_any (w : World) (A : Option Addr) (c n : Nat) (o : List Pg) (h : Obj7 w A n o) (x : Nat) (hx : x < 1024) :
    Calls Tryd.prog 33 #[.slice A n c, .int .i64 (x : Int)] w fun e w' => e = .returned (byteV (bAt (body o) x)) ∧ w' = w := by
  have hn := h.few
  have hbody : bAt (body o) x = (find o (x / 32)).getD (x % 32) 0 := getD_of (body_get h.okay hx)
  obtain ⟨q, hq⟩ : ∃ q, q = x / 32 := ⟨_, rfl⟩
  obtain ⟨r, hr⟩ : ∃ r, r = x % 32 := ⟨_, rfl⟩
  rw [← hq, ← hr] at hbody
  have hq1 : IntKind.i64.wrap ((x : Int) / 32) = q := by rw [IntKind.wrap_i64]; omega
  have hq2 : IntKind.i64.wrap (Int.tdiv (x : Int) 32) = q := by rw [Int.tdiv_eq_ediv_of_nonneg (by omega)]; exact hq1
  have hr1 : (x : Int) % 32 = r := by omega
  have hr3 : r < 32 := by omega
  have hq3 : q < 32 := by omega
  clear hq hr
  have H := Lib.hid h
  replace hr1 := Lib.hid hr1
  clear h
  replace hbody := Lib.hid hbody
  go_enter Tryd.func33, Tryd.ntmps33
  go_wp2_with fail
  go_loopw [5] (fun i wr => ∃ k : Nat, k ≤ n ∧ i = .int .i64 k ∧ Hid (find o q = find (o.drop k) q) ∧ wr = w) (fun i _ => n - (intOf i).toNat)
  case atStart => exact ⟨0, by omega, rfl, rfl, rfl⟩
  case round =>
    obtain ⟨k, hk, rfl, hf, rfl⟩ := hrel
    by_cases hlt : k < n
    · have hk' : k < o.length := by have := H.out.len; omega
      obtain ⟨g, off, rfl, _, hat⟩ := H.out.els.get hk'
      obtain ⟨c0, c1⟩ := pgs_at hat hk'
      have hmem := okP_mem o (-1) H.out.okay o[k] (List.getElem_mem hk')
      have hd : o.drop k = o[k] :: o.drop (k + 1) := List.drop_eq_getElem_cons hk'
      generalize o[k] = p at *
      obtain ⟨N, d⟩ := p
      simp only at c0 c1 hmem
      obtain ⟨m0, m1, m2, _⟩ := hmem
      obtain ⟨m, rfl⟩ : ∃ m : Nat, N = m := ⟨N.toNat, by omega⟩
      have hm : m < 32 := by omega
      clear m0 m1 hat
      have hix := index_strOf (P := Tryd.prog) 9 Tryd.underlying9 d r ((x : Int) % 32) .i64 hr1.out (by omega)
      have hsz := strOf_size d
      rw [m2] at hsz
      generalize hs : strOf d = s at *
      replace hs := Lib.hid hs
      have hf' := hf.out
      rw [hd, find] at hf'
      replace m2 := Lib.hid m2
      replace hd := Lib.hid hd
      clear hf
      by_cases he : (m : Int) = (q : Int)
      · have hans : bAt (body o) x = d.getD r 0 := by
          rw [hbody.out, hf', if_pos he]
        have heq : ((m : Int) == (q : Int)) = true := by simpa using he
        replace hans := Lib.hid hans
        generalize hbb : d.getD r 0 = bb at *
        replace hbb := Lib.hid hbb
        replace hf' := Lib.hid hf'
        replace he := Lib.hid he
        go_wp2
        go_ret
        exact ⟨by rw [hans.out]; rfl, rfl⟩
      · have hnext : Hid (find o q = find (o.drop (k + 1)) q) := by
          show find o q = _
          rw [hf', if_neg he]
        have hne : ((m : Int) == (q : Int)) = false := by simpa using he
        clear hf' hix
        replace he := Lib.hid he
        go_wp2
        go_roundw
        case rel => exact ⟨k + 1, by omega, by go_num, hnext, trivial⟩
        case measure => simp [intOf]; omega
    · have hans : bAt (body o) x = 0 := by
        rw [hbody.out, hf.out, List.drop_of_length_le (by have := H.out.len; omega), find]
        exact zs_getD _ _
      replace hans := Lib.hid hans
      clear hf
      go_wp2
      go_ret
      exact ⟨by rw [hans.out]; rfl, rfl⟩

def byE (b : UInt8) : List Value := [byteV b]
theorem byE_length (b : UInt8) : (byE b).length = 1 := rfl
theorem byE_one (b : UInt8) : ∀ v ∈ byE b, v.oneCell' = true := by
  intro v hv
  simp [byE] at hv
  subst hv
  rfl
theorem encs_byE (l : List UInt8) : encs byE l = byteVs l := by
  induction l with
  | nil => rfl
  | cons b l ih =>
    unfold encs at ih ⊢
    rw [List.map_cons, List.flatten_cons, ih]
    rfl
theorem info_byte : (Tryd.prog.info? 5).map (fun i => (i.zero, i.size, i.bytes)) = some (some (.int .u8 0), 1, 1) := by kernel_rfl
theorem part_snoc {b : List UInt8} {p k : Nat} (h : p + k < b.length) : (b.drop p).take (k + 1) = (b.drop p).take k ++ [bAt b (p + k)] := by
  unfold bAt
  rw [List.take_add_one, List.getElem?_drop, List.getElem?_eq_getElem h, List.getD_eq_getElem?_getD, List.getElem?_eq_getElem h]
  rfl
theorem byteVs_mine {w w1 : World} {v : Value} {l : List UInt8} (h : Mine byE 1 5 w w1 v l) : ∃ A c, v = .slice A l.length c ∧ SrcV w1 (.slice A l.length c) l.length (byteVs l) := by
  have h1 := ownsRow_src h.own
  rw [encs_byE] at h1
  obtain ⟨A, c, rfl⟩ := ownsRow_slice h.own
  exact ⟨A, c, rfl, h1⟩

set_option maxRecDepth 100000 in
set_option maxHeartbeats 1000000 in
theorem rbytes_any (w : World) (A : Option Addr) (c n : Nat) (o : List Pg) (h : Obj7 w A n o) (p m : Nat) (off len : Int) (ho : off = p) (hm : len = m) (hpm : p + m ≤ 1024) :
    Calls Tryd.prog 17 #[.slice A n c, .int .i64 off, .int .i64 len] w fun e w' => e = .returned (.string (strOf (((body o).drop p).take m))) ∧ Only [] w w' := by
  have hbl := body_len h.okay
  have hat := fun W (k : Only [] w W) x (hx : x < 1024) => at_any W A c n o (h.kept k) x hx
  subst ho
  subst hm
  have hsn := fun k (hk : p + k < 1024) => part_snoc (b := body o) (p := p) (k := k) (by omega)
  have hlen : ((body o).drop p).length = 1024 - p := by rw [List.length_drop, hbl]
  generalize body o = b at *
  replace hat := Lib.hid hat
  replace hsn := Lib.hid hsn
  replace hlen := Lib.hid hlen
  clear h hbl
  go_enter Tryd.func17, Tryd.ntmps17
  go_wp2_with fail
  go_loopw [7, 8] (fun v i wr => ∃ k : Nat, k ≤ m ∧ i = .int .i64 k ∧ Mine byE 1 5 w wr v ((b.drop p).take k)) (fun _ i _ => m - (intOf i).toNat)
  case atStart => exact ⟨0, by omega, rfl, by rw [List.take_zero]; exact Mine.start _ _ _ (Only.refl [] w)⟩
  case round =>
    obtain ⟨k, hk, rfl, hmine⟩ := hrel
    by_cases hlt : k < m
    · have hcall := hat.out wr hmine.only (p + k) (by omega)
      have hnext := hsn.out k (by omega)
      have hcast : ((p + k : Nat) : Int) = (p : Int) + k := by omega
      rw [hcast] at hcall
      unfold byteV at hcall
      have hpk : (p : Int) + k < 1024 := by omega
      generalize bAt b (p + k) = x at *
      have hL : ((b.drop p).take k).length ≤ 1024 := by rw [List.length_take]; omega
      generalize (b.drop p).take k = L at *
      replace hnext := Lib.hid hnext
      go_wp2_with fail
      refine hcall.mono ?_; rintro e w1 ⟨rfl, rfl⟩
      go_wp2_with (at_builtin; go_must (refine wpList_push rfl _ _ 60 rfl 5 _ 1 byE_length (by decide) byE_one Tryd.underlying60 info_byte rfl _ L.length L rfl (hmine.keep ((Only.refl [] w1).alloc (.cells #[.int .u8 (x.toNat : Int)] 5))).own w1.heap.size x _ rfl (Blk.new w1 _ _) (by unfold maxLen; omega) (by omega) ?_); intro vv w6 h6 g6 a6)
      have hm6 := (hmine.keep ((Only.refl [] w1).alloc (.cells #[.int .u8 (x.toNat : Int)] 5))).pushed h6 g6 a6
      rw [← hnext.out] at hm6
      replace hm6 := Lib.hid hm6
      clear hmine h6 g6 a6 hcall
      go_wp2
      go_roundw
      case rel => exact ⟨k + 1, by omega, by go_num, hm6.out⟩
      case measure => simp [intOf]; omega
    · have hkm : k = m := by omega
      subst hkm
      have hll : ((b.drop p).take k).length = k := by rw [List.length_take, hlen.out]; omega
      obtain ⟨A', c', rfl, hsrc⟩ := byteVs_mine hmine
      rw [hll] at hsrc ⊢
      have hfin := Lib.hid hmine.only
      clear hmine
      generalize hLL : (b.drop p).take k = L at *
      replace hLL := Lib.hid hLL
      replace hll := Lib.hid hll
      go_wp2_with (refine wpList_to_string _ rfl 60 9 5 (.tmp 22) rfl Tryd.underlying60 Tryd.underlying5 Tryd.underlying9 A' k c' L rfl hsrc ?_)
      go_ret
      exact ⟨by rw [hLL.out]; rfl, hfin.out⟩

end Go.Proofs.YtchlcmgdfbabdaaDoor.Pgs
