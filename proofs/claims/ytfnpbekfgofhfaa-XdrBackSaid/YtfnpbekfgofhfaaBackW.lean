/- The walk of XdrBack: what was written is read as it was. -/
import Derived.Test.YtfnpbekfgofhfaaSame
import Derived.Deep.RegionHeld3
namespace Go.Proofs.Ytfnpbekfgofhfaa
open Go.RowKit

theorem Rd.drew {w : World} {p g : Nat} {bs : List UInt8} {err : Nat} (h : Rd w p g bs err) : Rd w.drew p g bs err := by
  obtain ⟨o, c, h⟩ := h
  exact ⟨o, c, ⟨h.blk, h.ne, h.le, h.max, h.bytes⟩⟩

/-- What the reading loop keeps: the rest, and what stands behind it, is left. -/
def BackAt (w : World) (its : List It) (more : List UInt8) (k p g : Nat) (wr : World) : Prop := Rd wr p g (allB (its.drop k) ++ more) 0 ∧ Only [] w wr

theorem allB_drop_more (its : List It) (more : List UInt8) (k : Nat) (h : k < its.length) : allB (its.drop k) ++ more = its[k].bytes ++ (allB (its.drop (k + 1)) ++ more) := by
  rw [allB_drop its k h, List.append_assoc]

theorem nums_new {w : World} {A : Option Addr} {l : List Nat} {B : Nat} (h : l = [] ∨ ∃ h, A = some ⟨h, 0, none⟩ ∧ B ≤ h ∧ NumsAt w h 0 l) : Nums w [] A l := by
  rcases h with h | ⟨g, h1, _, h3⟩
  · exact .inl h
  · exact .inr ⟨g, 0, h1, by simp, h3⟩
theorem nums_keep {w w' : World} {S : List Nat} {A : Option Addr} {l : List Nat} (h : Nums w S A l) (k : Only S w w') : Nums w' [] A l := by
  rcases h with h | ⟨g, o, h1, h2, h3⟩
  · exact .inl h
  · exact .inr ⟨g, o, h1, by simp, h3.kept k h2⟩

set_option maxRecDepth 100000 in
set_option maxHeartbeats 2000000 in
theorem xdrBack_walk (w : World) (A : Option Addr) (c : Nat) (its : List It) (more : ByteArray) (h : Its w w.heap.size A its) (hlen : its.length ≤ 9223372036854775807) (hmore : more.size ≤ 140737488351232) :
    Calls Try.prog 5 #[.slice A its.length c, .string more] w fun e w' => e = .returned (.bool true) ∧ Only [] w w' := by
  by_cases hg : greatB its = true ∨ 2000 < more.size
  · by_cases hg1 : greatB its = true
    · clear hg
      go_enter Try.func5, Try.ntmps5
      go_wp2_with fail
      refine (alive_any _).mono ?_
      rintro e w1 ⟨rfl, k1⟩
      have h1 := h.kept k1 (by simp)
      go_wp2_with fail
      refine (great_any _ _ A c its h1 hlen).mono ?_
      rintro e w2 ⟨rfl, rfl⟩
      rw [hg1]
      go_wp2_with fail
      refine (alive_any _).mono ?_
      rintro e w2 ⟨rfl, k2⟩
      go_wp2
      go_ret
      exact ⟨rfl, k1.trans k2⟩
    · have hg2 : (2000 : Int) < (more.size : Int) := by rcases hg with h | h; exact absurd h hg1; omega
      have hg1' : greatB its = false := by simpa using hg1
      clear hg hg1
      go_enter Try.func5, Try.ntmps5
      go_wp2_with fail
      refine (alive_any _).mono ?_
      rintro e w1 ⟨rfl, k1⟩
      have h1 := h.kept k1 (by simp)
      go_wp2_with fail
      refine (great_any _ _ A c its h1 hlen).mono ?_
      rintro e w2 ⟨rfl, rfl⟩
      rw [hg1']
      go_wp2_with fail
      refine (alive_any _).mono ?_
      rintro e w2 ⟨rfl, k2⟩
      go_wp2
      go_ret
      exact ⟨rfl, k1.trans k2⟩
  · have hg' : greatB its = false := by
      cases hgb : greatB its
      · rfl
      · exact absurd (.inl hgb) hg
    have hm2 : (more.size : Int) ≤ 2000 := by omega
    have hfit := Lib.hid (fits_of h hg')
    have h60 := (great_no hg').1
    have HG := Lib.hid hg'
    have HA := Lib.hid (fun k hk => allB_take_length its hfit.out k hk)
    clear hg hg'
    go_enter Try.func5, Try.ntmps5
    go_wp2_with fail
    refine (alive_any _).mono ?_
    rintro e w1 ⟨rfl, k1⟩
    have h1 := h.kept k1 (by simp)
    go_wp2_with fail
    refine (great_any _ _ A c its h1 hlen).mono ?_
    rintro e w2 ⟨rfl, rfl⟩
    rw [HG.out]
    have hw1 := k1.size
    have hnew := Wr.new w1
    have g1 : Only [] w (w1.alloc (.cells #[.slice none 0 0] 27)) := k1.alloc _
    clear h1 k1
    go_wp2_with fail
    obtain ⟨W, hW⟩ : ∃ W, W = w1.alloc (.cells #[.slice none 0 0] 27) := ⟨_, rfl⟩
    rw [← hW] at hnew g1 ⊢
    clear hW
    go_loopw [6] (fun i wr => ∃ k : Nat, k ≤ its.length ∧ i = .int .i64 k ∧ Wrote W wr w1.heap.size [] (allB (its.take k))) (fun i _ => its.length - (intOf i).toNat)
    case atStart => exact ⟨0, Nat.zero_le _, rfl, ⟨[], by simpa [allB] using hnew, Only.refl _ _, by simp⟩⟩
    case round =>
      clear hnew
      obtain ⟨k, hk, rfl, hwr⟩ := hrel
      by_cases hlt : k < its.length
      · obtain ⟨F1, a1, a2, a3, a4⟩ := hwr.parts
        have gr : Only [] w wr := g1.then a2 (fun i hi => .inr (by simp at hi; omega))
        have hr := h.kept gr (by simp)
        have hF : ∀ i ∈ w1.heap.size :: F1, w.heap.size ≤ i := fun i hi => by
          rcases List.mem_cons.1 hi with rfl | hi
          · exact hw1
          · rcases a3.out i hi with h0 | h0
            · simp at h0
            · exact Nat.le_trans g1.size h0
        have hnum := nums_of hr (w1.heap.size :: F1) hF _ (List.getElem_mem hlt)
        obtain ⟨g, o, rfl, hgB, hits⟩ : ∃ g o, A = some ⟨g, o, none⟩ ∧ g < w.heap.size ∧ ItemsAt wr g o its := by
          rcases hr.at_ with h0 | h0
          · rw [h0] at hlt; simp at hlt
          · exact h0
        obtain ⟨c0, c1, c2, c3⟩ := hits k hlt
        have hb := (HA.out k hk).1
        have H1 := Lib.hid (allB_take its k hlt)
        have hfx := hfit.out _ (List.getElem_mem hlt)
        clear hits hF hr h hwr
        go_wp2_with fail
        refine (write_any _ _ F1 _ its[k] hfx a1 hnum (by omega)).mono ?_
        rintro e w2 ⟨rfl, hw2⟩
        have hW2 := Wrote.join a2 a3.out hw2
        rw [H1.out.symm] at hW2
        clear hw2 c0 c1 c2 c3 hnum a1 a2 a3 a4
        go_wp2
        go_roundw
        case rel => exact ⟨k + 1, by omega, by go_num, hW2⟩
        case measure => simp [intOf]; omega
      · obtain rfl : k = its.length := by omega
        obtain ⟨F1, a1, a2, a3, a4⟩ := hwr.parts
        have gr : Only [] w wr := g1.then a2 (fun i hi => .inr (by simp at hi; omega))
        have hb := (HA.out its.length (Nat.le_refl _)).1
        rw [List.take_length] at a1 hb
        have HM := Lib.hid (strOf_toList more)
        have hml : more.data.toList.length = more.size := by simp
        have HML := Lib.hid hml
        clear hwr a2 a3 a4 HA HG hk hml
        go_wp2_with fail
        refine (bytes_any _ _ F1 _ a1).mono ?_
        rintro e w6 ⟨rfl, rfl⟩
        go_wp2_with (refine wpList_concat _ rfl 9 9 (.tmp 32) (.tmp 33) rfl (allB its) more.data.toList rfl (congrArg Value.string HM.out.symm) (by rw [HML.out]; omega) ?_)
        refine (newReader_any _ _ (by rw [strOf_size, List.length_append, HML.out]; omega)).mono ?_
        rintro e w7 ⟨p, g, rfl, hr7, hp, hg, k7⟩
        rw [strOf_list] at hr7
        have g7 := gr.trans k7
        have hpw : w.heap.size ≤ p := Nat.le_trans gr.size hp
        have hback : BackAt w its more.data.toList 0 p g w7 := ⟨by simpa using hr7, g7⟩
        clear hr7 k7 hp a1 gr g7
        go_wp2_with fail
        go_loopw [8] (fun i wr => ∃ k : Nat, k ≤ its.length ∧ i = .int .i64 k ∧ BackAt w its more.data.toList k p g wr) (fun i _ => its.length - (intOf i).toNat)
        case atStart => exact ⟨0, Nat.zero_le _, rfl, hback⟩
        case round =>
          clear hback hg
          obtain ⟨k, hk, rfl, hrd, gk⟩ := hrel
          by_cases hlt : k < its.length
          · have hr := h.kept gk (by simp)
            have hnum := nums_of hr [p] (by simpa using hpw) _ (List.getElem_mem hlt)
            obtain ⟨ga, oa, rfl, hgB, hits⟩ : ∃ g o, A = some ⟨g, o, none⟩ ∧ g < w.heap.size ∧ ItemsAt wr g o its := by
              rcases hr.at_ with h0 | h0
              · rw [h0] at hlt; simp at hlt
              · exact h0
            obtain ⟨c0, c1, c2, c3⟩ := hits k hlt
            have hfx := Lib.hid (hfit.out _ (List.getElem_mem hlt))
            clear hits hr h
            rw [allB_drop_more its _ k hlt] at hrd
            obtain ⟨rest, hrest⟩ : ∃ rest, rest = allB (its.drop (k + 1)) ++ more.data.toList := ⟨_, rfl⟩
            rw [← hrest] at hrd
            have HR := Lib.hid hrest
            have hbl : rest.length ≤ 200000 := by
              have h1 := (allB_length (its.drop (k + 1)) (fun x hx => hfit.out x (List.mem_of_mem_drop hx))).1
              rw [List.length_drop] at h1
              have h2 := HML.out
              rw [hrest, List.length_append]
              omega
            have k0 : Only [] wr (wr.alloc (.cells #[.int .i64 its[k].kind, .int .u64 (its[k].n : Int), .string its[k].s, .slice its[k].A its[k].l.length its[k].c] 33)) := (Only.refl [] wr).alloc _
            have hN : Blk (wr.alloc (.cells #[.int .i64 its[k].kind, .int .u64 (its[k].n : Int), .string its[k].s, .slice its[k].A its[k].l.length its[k].c] 33)) wr.heap.size 33 #[.int .i64 its[k].kind, .int .u64 (its[k].n : Int), .string its[k].s, .slice its[k].A its[k].l.length its[k].c] := Blk.new _ _ _
            have hpN : p < wr.heap.size := by obtain ⟨o, c, hh⟩ := hrd; exact hh.blk.lt
            have hrdN := hrd.kept k0 (by simp) (by simp)
            clear hrd hrest
            have hNp : wr.heap.size ∉ [p] := by simp; omega
            have d0 := hN.cell 0
            have d1 := hN.cell 1
            have d2 := hN.cell 2
            have d3 := hN.cell 3
            simp only [List.getElem?_toArray, List.getElem?_cons_zero, List.getElem?_cons_succ] at d0 d1 d2 d3
            obtain ⟨w9, hw9⟩ : ∃ w9, wr.alloc (.cells #[.int .i64 its[k].kind, .int .u64 (its[k].n : Int), .string its[k].s, .slice its[k].A its[k].l.length its[k].c] 33) = w9 := ⟨_, rfl⟩
            rw [hw9] at d0 d1 d2 d3 hrdN k0
            by_cases e_ : its[k].kind.tmod 5 = 0
            · have E := Lib.hid e_
              rw [bytes_0 _ e_] at hrdN
              have hcall := (rnum_any w9.drew p g _ 0 hrdN.drew)
              rw [rNumber_be4 _ _ (by omega)] at hcall
              have HC := Lib.hid hcall
              clear hcall
              go_wp2_with fail
              clear hw9
              go_region_held3 (fun w' => w'.cell? ⟨wr.heap.size, 1, none⟩ = some (.int .u64 (its[k].n : Int))) ((first | exact d1 | exact k8.cell d1 hNp))
                (first | (go_at_call 16; refine (HC.out).mono ?_; rintro e w8 ⟨rfl, h8, k8⟩))
              have g8 : Only [] w w8 := ((gk.trans k0).drew).then k8 (by simpa using hpw)
              have heq : ((its[k].n : Int) % 4294967296 == IntKind.u32.wrap (its[k].n : Int)) = true := by rw [IntKind.wrap_u32]; simp
              clear d0 d1 d2 d3
              obtain ⟨o9, c9, r9⟩ := h8
              go_wp2_with fail
              refine (err_any _ p g o9 c9 _ _ r9).mono ?_
              rintro e w10 ⟨rfl, rfl⟩
              have hb10 : BackAt w its more.data.toList (k + 1) p g w8 := ⟨by rw [← HR.out]; exact ⟨o9, c9, r9⟩, g8⟩
              go_wp2
              go_roundw
              case rel => exact ⟨k + 1, by omega, by go_num, hb10⟩
              case measure => simp [intOf]; omega
            · have f0 : (its[k].kind.tmod 5 == 0) = false := by simpa using e_
              have E0 := Lib.hid e_
              clear e_
              by_cases e_ : its[k].kind.tmod 5 = 1
              · clear f0
                have E := Lib.hid e_
                rw [bytes_1 _ e_] at hrdN
                have hcall := (rlong_any w9.drew p g _ 0 hrdN.drew)
                rw [rLong_be8 _ _ hfx.out.n] at hcall
                have HC := Lib.hid hcall
                clear hcall
                go_wp2_with fail
                clear hw9
                go_region_held3 (fun w' => w'.cell? ⟨wr.heap.size, 1, none⟩ = some (.int .u64 (its[k].n : Int))) ((first | exact d1 | exact k8.cell d1 hNp))
                  (first | (go_at_call 18; refine (HC.out).mono ?_; rintro e w8 ⟨rfl, h8, k8⟩))
                have g8 : Only [] w w8 := ((gk.trans k0).drew).then k8 (by simpa using hpw)
                clear d0 d1 d2 d3
                obtain ⟨o9, c9, r9⟩ := h8
                go_wp2_with fail
                refine (err_any _ p g o9 c9 _ _ r9).mono ?_
                rintro e w10 ⟨rfl, rfl⟩
                have hb10 : BackAt w its more.data.toList (k + 1) p g w8 := ⟨by rw [← HR.out]; exact ⟨o9, c9, r9⟩, g8⟩
                go_wp2
                go_roundw
                case rel => exact ⟨k + 1, by omega, by go_num, hb10⟩
                case measure => simp [intOf]; omega
              · have f1 : (its[k].kind.tmod 5 == 1) = false := by simpa using e_
                have E1 := Lib.hid e_
                clear e_
                by_cases e_ : its[k].kind.tmod 5 = 2
                · clear f0 f1
                  have E := Lib.hid e_
                  rw [bytes_2 _ e_] at hrdN
                  have hcall := (rflag_any w9.drew p g _ 0 hrdN.drew)
                  rw [rFlag_be4] at hcall
                  have HC := Lib.hid hcall
                  clear hcall
                  go_wp2_with fail
                  clear hw9
                  go_region_held3 (fun w' => w'.cell? ⟨wr.heap.size, 1, none⟩ = some (.int .u64 (its[k].n : Int))) ((first | exact d1 | exact k8.cell d1 hNp))
                    (first | (go_at_call 20; refine (HC.out).mono ?_; rintro e w8 ⟨rfl, h8, k8⟩))
                  have g8 : Only [] w w8 := ((gk.trans k0).drew).then k8 (by simpa using hpw)
                  have heq : (decide (its[k].n % 2 = 1) == ((its[k].n : Int).tmod 2 == 1)) = true := by
                    have : ((its[k].n : Int).tmod 2 == 1) = decide (its[k].n % 2 = 1) := by
                      rw [Int.tmod_eq_emod_of_nonneg (by omega), Bool.eq_iff_iff]; simp; omega
                    rw [this]; simp
                  clear d0 d1 d2 d3
                  obtain ⟨o9, c9, r9⟩ := h8
                  go_wp2_with fail
                  refine (err_any _ p g o9 c9 _ _ r9).mono ?_
                  rintro e w10 ⟨rfl, rfl⟩
                  have hb10 : BackAt w its more.data.toList (k + 1) p g w8 := ⟨by rw [← HR.out]; exact ⟨o9, c9, r9⟩, g8⟩
                  go_wp2
                  go_roundw
                  case rel => exact ⟨k + 1, by omega, by go_num, hb10⟩
                  case measure => simp [intOf]; omega
                · have f2 : (its[k].kind.tmod 5 == 2) = false := by simpa using e_
                  have E2 := Lib.hid e_
                  clear e_
                  by_cases e_ : its[k].kind.tmod 5 = 3
                  · clear f0 f1 f2
                    have E := Lib.hid e_
                    rw [bytes_3 _ e_] at hrdN
                    have hcall := (rtext_any w9.drew p g _ 0 2000 (by decide) hrdN.drew)
                    have hss : its[k].s.data.toList.length ≤ 2000 := by have := hfx.out.s; simpa using this
                    rw [rText_encT _ _ _ (by omega) (by omega), strOf_toList] at hcall
                    have HC := Lib.hid hcall
                    clear hcall
                    go_wp2_with fail
                    clear hw9
                    go_region_held3 (fun w' => w'.cell? ⟨wr.heap.size, 2, none⟩ = some (.string its[k].s)) ((first | exact d2 | exact k8.cell d2 hNp))
                      (first | (go_at_call 22; refine (HC.out).mono ?_; rintro e w8 ⟨rfl, h8, k8⟩))
                    have g8 : Only [] w w8 := ((gk.trans k0).drew).then k8 (by simpa using hpw)
                    clear d0 d1 d2 d3
                    obtain ⟨o9, c9, r9⟩ := h8
                    go_wp2_with fail
                    refine (err_any _ p g o9 c9 _ _ r9).mono ?_
                    rintro e w10 ⟨rfl, rfl⟩
                    have hb10 : BackAt w its more.data.toList (k + 1) p g w8 := ⟨by rw [← HR.out]; exact ⟨o9, c9, r9⟩, g8⟩
                    go_wp2
                    go_roundw
                    case rel => exact ⟨k + 1, by omega, by go_num, hb10⟩
                    case measure => simp [intOf]; omega
                  · have f3 : (its[k].kind.tmod 5 == 3) = false := by simpa using e_
                    have E3 := Lib.hid e_
                    clear e_
                    by_cases e_ : its[k].kind.tmod 5 = 4
                    · clear f0 f1 f2 f3
                      have E := Lib.hid e_
                      rw [bytes_4 _ e_] at hrdN
                      have hll := hfx.out.l
                      have hcall := (rlist_any w9.drew p g _ 0 500 (by decide) (by rw [List.length_append, encL_length]; omega) hrdN.drew)
                      rw [rList_encL _ _ _ (by omega) (by omega) hfx.out.u] at hcall
                      have HC := Lib.hid hcall
                      clear hcall
                      go_wp2_with fail
                      clear hw9
                      have hLx := Lib.hid hnum
                      clear hnum
                      go_region_held3 (fun w' => w'.cell? ⟨wr.heap.size, 3, none⟩ = some (.slice its[k].A its[k].l.length its[k].c)) ((first | exact d3 | exact ks.cell (k8.cell d3 hNp) (by simp) | exact k8.cell d3 hNp))
                        (first
                          | (go_at_call 25; refine (HC.out).mono ?_; rintro e w8 ⟨A8, c8, rfl, l8, h8, k8⟩)
                          | (go_at_call 24; refine (same_yes _ A8 its[k].A c8 its[k].c its[k].l (nums_new l8) (nums_keep hLx.out ((k0.drew.more (by simp)).trans k8)) (by have := hfx.out.l; omega)).mono ?_; rintro e w11 ⟨rfl, ks⟩))
                      have g8 : Only [] w w11 := (((gk.trans k0).drew).then k8 (by simpa using hpw)).trans ks
                      replace h8 := h8.kept ks (by simp) (by simp)
                      clear l8
                      clear d0 d1 d2 d3
                      obtain ⟨o9, c9, r9⟩ := h8
                      go_wp2_with fail
                      refine (err_any _ p g o9 c9 _ _ r9).mono ?_
                      rintro e w10 ⟨rfl, rfl⟩
                      have hb10 : BackAt w its more.data.toList (k + 1) p g w11 := ⟨by rw [← HR.out]; exact ⟨o9, c9, r9⟩, g8⟩
                      go_wp2
                      go_roundw
                      case rel => exact ⟨k + 1, by omega, by go_num, hb10⟩
                      case measure => simp [intOf]; omega
                    · have f4 : (its[k].kind.tmod 5 == 4) = false := by simpa using e_
                      have E4 := Lib.hid e_
                      clear e_
                      rw [bytes_5 _ E0.out E1.out E2.out E3.out E4.out] at hrdN
                      go_wp2_with fail
                      clear hw9
                      have h8 : Rd w9 p g rest 0 := by simpa using hrdN
                      have g8 : Only [] w w9 := gk.trans k0
                      clear d0 d1 d2 d3
                      obtain ⟨o9, c9, r9⟩ := h8
                      refine (err_any _ p g o9 c9 _ _ r9).mono ?_
                      rintro e w10 ⟨rfl, rfl⟩
                      have hb10 : BackAt w its more.data.toList (k + 1) p g w9 := ⟨by rw [← HR.out]; exact ⟨o9, c9, r9⟩, g8⟩
                      go_wp2
                      go_roundw
                      case rel => exact ⟨k + 1, by omega, by go_num, hb10⟩
                      case measure => simp [intOf]; omega
          · obtain rfl : k = its.length := by omega
            rw [List.drop_length, show allB [] = [] from rfl, List.nil_append] at hrd
            have hml := HML.out
            by_cases hz : more.size = 0
            · have e0 : more.data.toList = [] := List.eq_nil_of_length_eq_zero (by omega)
              rw [e0] at hrd
              have hms : more = ⟨#[]⟩ := by rw [← strOf_toList more, e0]; rfl
              subst hms
              clear e0 hz hml HML HM h
              go_wp2_with fail
              refine (alive_any _).mono ?_
              rintro e w8 ⟨rfl, k8⟩
              obtain ⟨o9, c9, r9⟩ := hrd.kept k8 (by simp) (by simp)
              have g8 := gk.trans k8
              clear hrd
              go_wp2_with fail
              refine (left_any _ p g o9 c9 _ _ r9).mono ?_
              rintro e w9 ⟨rfl, rfl⟩
              go_wp2_with fail
              refine (rend_any _ p g [] 0 ⟨o9, c9, r9⟩).mono ?_
              rintro e w9 ⟨rfl, _, k9⟩
              have e9 : rEnd [] 0 = 0 := by decide
              rw [e9]
              clear e9
              go_wp2
              go_ret
              exact ⟨rfl, g8.then k9 (by simpa using hpw)⟩
            · have hne : (more.toList == []) = false := by
                rw [ByteArray.toList_eq, beq_eq_false_iff_ne]
                intro e
                rw [e] at hml
                exact hz (by simpa using hml.symm)
              have hne2 : more.toList.isEmpty = false := by
                rw [ByteArray.toList_eq, List.isEmpty_eq_false_iff]
                intro e
                rw [e] at hml
                exact hz (by simpa using hml.symm)
              have hlz := Lib.hid hml
              clear hz hml HML HM h
              go_wp2_with fail
              refine (alive_any _).mono ?_
              rintro e w8 ⟨rfl, k8⟩
              obtain ⟨o9, c9, r9⟩ := hrd.kept k8 (by simp) (by simp)
              have g8 := gk.trans k8
              clear hrd
              go_wp2_with fail
              refine (left_any _ p g o9 c9 _ _ r9).mono ?_
              rintro e w9 ⟨rfl, rfl⟩
              rw [hlz.out]
              go_wp2_with fail
              refine (rend_any _ p g _ 0 ⟨o9, c9, r9⟩).mono ?_
              rintro e w9 ⟨rfl, _, k9⟩
              have e9 : rEnd more.data.toList 0 = 4 := by
                unfold rEnd
                rw [if_neg (by simp), if_neg]
                intro e
                have e2 := List.eq_nil_of_length_eq_zero e
                rw [ByteArray.toList_eq, e2] at hne2
                simp at hne2
              rw [e9]
              clear e9
              go_wp2
              go_ret
              exact ⟨rfl, g8.then k9 (by simpa using hpw)⟩

end Go.Proofs.Ytfnpbekfgofhfaa
