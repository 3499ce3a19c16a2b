/- Changes, by the document. -/
import Derived.Test.YtchlcmgdfbabdaaDoorFind7
import Derived.Test.YtchlcmgdfbabdaaDoorChg7
namespace Go.Proofs.YtchlcmgdfbabdaaDoor.Pgs
open Go.RowKit

theorem str_some {l : List UInt8} (h : ¬ l = []) : ((strOf l).toList == ([] : List UInt8)) = false := by
  rw [show (strOf l).toList = l from ByteArray.toList_mk _]
  cases l with
  | nil => exact (h rfl).elim
  | cons _ _ => rfl
theorem str_some' {l : List UInt8} (h : ¬ l = []) : ((strOf l).toList != ([] : List UInt8)) = true := by
  unfold bne
  rw [str_some h]
  rfl
theorem str_ne' {a b : List UInt8} (h : ¬ a = b) : ((strOf a).toList == (strOf b).toList) = false := str_ne (fun e => h (strOf_inj e))

set_option maxRecDepth 100000 in
set_option maxHeartbeats 4000000 in
theorem rchanges_any (w : World) (A B : Option Addr) (c d n m x : Nat) (hx : x < 4294967296) (o p : List Pg) (ho : Obj7 w A n o) (hp : Obj7 w B m p) :
    Calls Tryd.prog 27 #[.int .u32 (x : Int), .slice A n c, .slice B m d] w fun e w' => ∃ v, e = .returned v ∧ Mine chE 3 69 w w' v (chgF (headB x) (find o) (find p) 32) := by
  have HO := Lib.hid ho
  have HP := Lib.hid hp
  clear ho hp
  go_enter Tryd.func27, Tryd.ntmps27
  go_wp2_with fail
  go_loopw [7, 8] (fun v i wr => ∃ k : Nat, k ≤ 32 ∧ i = .int .i64 k ∧ Mine chE 3 69 w wr v (chgF (headB x) (find o) (find p) k)) (fun _ i _ => 32 - (intOf i).toNat)
  case atStart => exact ⟨0, by omega, rfl, Mine.start _ _ _ (Only.refl [] w)⟩
  case round =>
    obtain ⟨k, hk, rfl, hmine⟩ := hrel
    by_cases hlt : k < 32
    · have hcl := find_len o (-1) k HO.out.okay
      have hcl' := find_len p (-1) k HP.out.okay
      have e1 := fun h => chg_same (fl := headB x) (f := find o) (g := find p) (k := k) h
      have e2 := fun h h' => chg_gone (fl := headB x) (f := find o) (g := find p) (k := k) h h'
      have e3 := fun h h' => chg_new (fl := headB x) (f := find o) (g := find p) (k := k) h h'
      have hpl := chgF_len (headB x) (find o) (find p) k
      have hcall := find_any wr A c n o (HO.out.kept hmine.only) k
      have hcall' := find_any wr B d m p (HP.out.kept hmine.only) k
      have hkey := fun W => rkey_any W x k hx hlt
      rw [keyB_eq] at hkey
      unfold findS at hcall hcall'
      generalize find o k = f at *
      generalize find p k = g at *
      generalize keyF (headB x) k = ky at *
      generalize hL : chgF (headB x) (find o) (find p) k = L at *
      replace hL := Lib.hid hL
      have hcases : (g = f) ∨ (¬ g = f ∧ allZ g = true ∧ allZ f = false) ∨ (¬ g = f ∧ allZ g = false) := by
        by_cases h1 : g = f
        · exact .inl h1
        · cases hz : allZ g with
          | false => exact .inr (.inr ⟨h1, rfl⟩)
          | true =>
            refine .inr (.inl ⟨h1, rfl, ?_⟩)
            cases hzf : allZ f with
            | false => rfl
            | true => exact (h1 ((eq_zs32 hz hcl').trans (eq_zs32 hzf hcl).symm)).elim
      rcases hcases with hgf | ⟨hgf, hzg, hzf⟩ | ⟨hgf, hzg⟩
      · have hnext := e1 hgf
        subst hgf
        rw [← hnext] at hmine
        clear e1 e2 e3 hnext
        cases hz : allZ g with
        | true =>
          rw [hz, if_pos rfl] at hcall hcall'
          rw [show strOf [] = ⟨#[]⟩ from rfl] at hcall hcall'
          replace hmine := Lib.hid hmine
          go_wp2_with fail
          refine hcall.mono ?_; rintro e w1 ⟨rfl, rfl⟩
          go_wp2_with fail
          refine hcall'.mono ?_; rintro e w2 ⟨rfl, rfl⟩
          clear hcall hcall'
          go_wp2_with fail
          go_roundw
          case rel => exact ⟨k + 1, by omega, by go_num, hmine.out⟩
          case measure => simp [intOf]; omega
        | false =>
          rw [hz, if_neg (by simp)] at hcall hcall'
          have s1 := str_some (l := g) (fun h => by rw [h] at hcl; cases hcl)
          have s2 := str_some' (l := g) (fun h => by rw [h] at hcl; cases hcl)
          generalize strOf g = s at *
          replace hmine := Lib.hid hmine
          go_wp2_with fail
          refine hcall.mono ?_; rintro e w1 ⟨rfl, rfl⟩
          go_wp2_with fail
          refine hcall'.mono ?_; rintro e w2 ⟨rfl, rfl⟩
          clear hcall hcall'
          go_wp2_with fail
          go_roundw
          case rel => exact ⟨k + 1, by omega, by go_num, hmine.out⟩
          case measure => simp [intOf]; omega
      · have hnext := Lib.hid (e2 hgf hzg)
        rw [hzf, if_neg (by simp)] at hcall
        rw [hzg, if_pos rfl] at hcall'
        rw [show strOf [] = ⟨#[]⟩ from rfl] at hcall'
        have s1 := str_some (l := f) (fun h => by rw [h] at hcl; cases hcl)
        have s2 := str_some' (l := f) (fun h => by rw [h] at hcl; cases hcl)
        generalize strOf f = s at *
        replace hgf := Lib.hid hgf
        clear e1 e2 e3
        go_wp2_with fail
        refine hcall.mono ?_; rintro e w1 ⟨rfl, rfl⟩
        go_wp2_with fail
        refine hcall'.mono ?_; rintro e w2 ⟨rfl, rfl⟩
        clear hcall hcall'
        go_wp2_with fail
        refine (hkey _).mono ?_; rintro e w6 ⟨rfl, k6⟩
        have hm6 := hmine.keep k6
        have hm7 := hm6.keep ((Only.refl [] w6).alloc (.cells #[.string (strOf ky), .string ⟨#[]⟩, .bool true] 69))
        have b7 : Blk (w6.alloc (.cells #[.string (strOf ky), .string ⟨#[]⟩, .bool true] 69)) w6.heap.size 69 (chE ⟨ky, [], true⟩).toArray := Blk.new w6 _ _
        go_wp2_with (at_builtin; go_must (refine wpList_push rfl _ _ 43 rfl 69 _ 40 chE_length (by decide) chE_one Tryd.underlying43 info_ch rfl _ L.length L rfl hm7.own w6.heap.size ⟨ky, [], true⟩ _ rfl b7 (by unfold maxLen; omega) (by omega) ?_); intro vv w8 h8 g8 a8)
        have hm8 := hm7.pushed h8 g8 a8
        rw [← hnext.out] at hm8
        replace hm8 := Lib.hid hm8
        clear hm7 hm6 hmine b7 h8 g8 a8 k6
        go_wp2
        go_roundw
        case rel => exact ⟨k + 1, by omega, by go_num, hm8.out⟩
        case measure => simp [intOf]; omega
      · have hnext := Lib.hid (e3 hgf hzg)
        rw [hzg, if_neg (by simp)] at hcall'
        have s1 := str_some (l := g) (fun h => by rw [h] at hcl'; cases hcl')
        have s2 := str_some' (l := g) (fun h => by rw [h] at hcl'; cases hcl')
        have hcmp : ((strOf (if allZ f = true then [] else f)).toList == (strOf g).toList) = false := str_ne' (fun h => by
          by_cases hzf : allZ f = true
          · rw [if_pos hzf] at h
            rw [← h] at hcl'
            cases hcl'
          · rw [if_neg hzf] at h
            exact hgf h.symm)
        generalize strOf (if allZ f = true then [] else f) = t at *
        replace hgf := Lib.hid hgf
        replace hcl := Lib.hid hcl
        replace hcl' := Lib.hid hcl'
        replace hzg := Lib.hid hzg
        clear e1 e2 e3
        generalize hs : strOf g = s at *
        replace hs := Lib.hid hs
        cases hte : (t.toList == ([] : List UInt8))
        all_goals
          have hte2 : (t.toList != ([] : List UInt8)) = !(t.toList == ([] : List UInt8)) := rfl
          rw [hte] at hte2
          simp only [Bool.not_true, Bool.not_false] at hte2
          go_wp2_with fail
          refine hcall.mono ?_; rintro e w1 ⟨rfl, rfl⟩
          go_wp2_with fail
          refine hcall'.mono ?_; rintro e w2 ⟨rfl, rfl⟩
          clear hcall hcall'
          go_wp2_with fail
          refine (hkey _).mono ?_; rintro e w6 ⟨rfl, k6⟩
          have hm6 := hmine.keep k6
          have hm7 := hm6.keep ((Only.refl [] w6).alloc (.cells #[.string (strOf ky), .string s, .bool false] 69))
          have b7 : Blk (w6.alloc (.cells #[.string (strOf ky), .string s, .bool false] 69)) w6.heap.size 69 (chE ⟨ky, g, false⟩).toArray := by
            have := Blk.new w6 69 (chE ⟨ky, g, false⟩).toArray
            simp only [chE, hs.out] at this ⊢
            exact this
          go_wp2_with (at_builtin; go_must (refine wpList_push rfl _ _ 43 rfl 69 _ 40 chE_length (by decide) chE_one Tryd.underlying43 info_ch rfl _ L.length L rfl hm7.own w6.heap.size ⟨ky, g, false⟩ _ rfl b7 (by unfold maxLen; omega) (by omega) ?_); intro vv w8 h8 g8 a8)
          have hm8 := hm7.pushed h8 g8 a8
          rw [← hnext.out] at hm8
          replace hm8 := Lib.hid hm8
          clear hm7 hm6 hmine b7 h8 g8 a8 k6
          go_wp2
          go_roundw
          case rel => exact ⟨k + 1, by omega, by go_num, hm8.out⟩
          case measure => simp [intOf]; omega
    · have hk2 : k = 32 := by omega
      subst hk2
      have hfin := Lib.hid hmine
      clear hmine
      go_wp2
      go_ret
      exact ⟨_, rfl, hfin.out⟩

end Go.Proofs.YtchlcmgdfbabdaaDoor.Pgs
