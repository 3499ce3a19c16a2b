/- The walk of XdrReads: all calls of a reader, in any order, are answered as the document says. -/
import Derived.Test.YtfnpbekfgofhfaaFr2
import Derived.Test.YtfnpbekfgofhfaaAsk
import Derived.Deep.RegionHeld3
namespace Go.Proofs.Ytfnpbekfgofhfaa
open Go.RowKit

theorem Rd.drew_ {w : World} {p g : Nat} {bs : List UInt8} {err : Nat} (h : Rd w p g bs err) : Rd w.drew p g bs err := by
  obtain ⟨o, c, h⟩ := h
  exact ⟨o, c, ⟨h.blk, h.ne, h.le, h.max, h.bytes⟩⟩

theorem quiet_eq {P : Program} {f : FuncId} {args : Array Value} {w : World} {n : Nat} {v : Value} (h : Calls P f args (w.drewN n) fun e w' => e = .returned v ∧ w.drewN n = w') :
    Calls P f args (w.drewN n) fun e w'' => e = .returned v ∧ ∃ m, w'' = w.drewN m := h.mono fun _ _ ⟨he, hm⟩ => ⟨he, n, hm.symm⟩

/-- Both readers stand alike. -/
def Alike2 (w : World) (p g q : Nat) (wr : World) : Prop := ∃ bs err, Rd wr p g bs err ∧ Rf wr q bs err ∧ bs.length ≤ 4000 ∧ Only [] w wr

theorem nums_fresh {w : World} {A : Option Addr} {l : List Nat} {B : Nat} (h : l = [] ∨ ∃ h, A = some ⟨h, 0, none⟩ ∧ B ≤ h ∧ NumsAt w h 0 l) (S : List Nat) (hS : ∀ i ∈ S, i < B) : Nums w S A l := by
  rcases h with h | ⟨g, h1, h2, h3⟩
  · exact .inl h
  · exact .inr ⟨g, 0, h1, fun hm => by have := hS g hm; omega, h3⟩

theorem nums_keep8 {w8 w9 : World} {A : Option Addr} {l : List Nat} {B q : Nat} (h : l = [] ∨ ∃ h, A = some ⟨h, 0, none⟩ ∧ B ≤ h ∧ NumsAt w8 h 0 l) (k : Only [q] w8 w9) (hq : q < B) : Nums w9 [] A l := by
  rcases h with h | ⟨g, h1, h2, h3⟩
  · exact .inl h
  · exact .inr ⟨g, 0, h1, by simp, h3.kept k (by simp; omega)⟩
theorem nums_new9 {w : World} {A : Option Addr} {l : List Nat} {B : Nat} (h : l = [] ∨ ∃ h, A = some ⟨h, 0, none⟩ ∧ B ≤ h ∧ NumsAt w h 0 l) : Nums w [] A l := by
  rcases h with h | ⟨g, h1, _, h3⟩
  · exact .inl h
  · exact .inr ⟨g, 0, h1, by simp, h3⟩
theorem rList_small (m : Int) (bs : List UInt8) (e : Nat) : 4 * (rList m bs e).1.length ≤ bs.length := by
  unfold rList
  split
  · simp
  split
  · simp
  split
  · simp
  split
  · simp
  · simp only [decNs_length]; omega

set_option maxRecDepth 100000 in
set_option maxHeartbeats 2000000 in
theorem xdrReads_walk (w : World) (s : ByteArray) (A : Option Addr) (c : Nat) (l : List (Int × Int)) (h : Asks w w.heap.size A l) (hs : s.size ≤ 140737488351232) (hlen : l.length ≤ 9223372036854775807) :
    Calls Try.prog 4 #[.string s, .slice A l.length c] w fun e w' => e = .returned (.bool true) ∧ Only [] w w' := by
  by_cases hg : 4000 < s.size ∨ 60 < l.length
  · rcases Nat.lt_or_ge 4000 s.size with h2 | h2
    · have h2' : (4000 : Int) < (s.size : Int) := by omega
      clear hg h2
      go_enter Try.func4, Try.ntmps4
      go_wp2_with fail
      refine (alive_any _).mono ?_
      rintro e w1 ⟨rfl, k1⟩
      go_wp2_with fail
      refine (alive_any _).mono ?_
      rintro e w2 ⟨rfl, k2⟩
      go_wp2
      go_ret
      exact ⟨rfl, k1.trans k2⟩
    · have h2' : (s.size : Int) ≤ 4000 := by omega
      have h3' : (60 : Int) < (l.length : Int) := by omega
      clear hg h2
      go_enter Try.func4, Try.ntmps4
      go_wp2_with fail
      refine (alive_any _).mono ?_
      rintro e w1 ⟨rfl, k1⟩
      go_wp2_with fail
      refine (alive_any _).mono ?_
      rintro e w2 ⟨rfl, k2⟩
      go_wp2
      go_ret
      exact ⟨rfl, k1.trans k2⟩
  · have h2' : (s.size : Int) ≤ 4000 := by omega
    have h3' : (l.length : Int) ≤ 60 := by omega
    have h3 : l.length ≤ 60 := by omega
    have hsl : s.data.toList.length ≤ 4000 := by simp; omega
    have HSL := Lib.hid hsl
    clear hg hsl hlen
    go_enter Try.func4, Try.ntmps4
    go_wp2_with fail
    refine (alive_any _).mono ?_
    rintro e w1 ⟨rfl, k1⟩
    go_wp2_with fail
    refine (newReader_two _ s hs).mono ?_
    rintro e w2 ⟨p, g, rfl, hr2, hp2, hg2, k2, hgl⟩
    have g2 := k1.trans k2
    have kz := k1.size
    have gz := g2.size
    have hpl : p < w2.heap.size := by obtain ⟨o, c, hh⟩ := hr2; exact hh.blk.lt
    have kq : Only [] w2 (w2.alloc (.cells #[.string s, .int .i64 0] 41)) := (Only.refl [] w2).alloc _
    have hrf0 : Rf (w2.alloc (.cells #[.string s, .int .i64 0] 41)) w2.heap.size s.data.toList 0 := by
      have := Blk.new w2 41 #[.string s, .int .i64 0]
      unfold Rf
      rw [strOf_toList]
      exact this
    have hal : Alike2 w p g w2.heap.size (w2.alloc (.cells #[.string s, .int .i64 0] 41)) := ⟨_, _, hr2.kept kq (by simp) (by simp), hrf0, HSL.out, g2.trans kq⟩
    have hpw : w.heap.size ≤ p := Nat.le_trans kz hp2
    have hqp : p ≠ w2.heap.size := by omega
    have hqg : g ≠ w2.heap.size := by omega
    have HQ := Lib.hid gz
    clear k1 k2 hr2 hrf0 kq g2 gz kz hp2 hg2
    go_wp2_with fail
    go_loopw [7] (fun i wr => ∃ k : Nat, k ≤ l.length ∧ i = .int .i64 k ∧ Alike2 w p g w2.heap.size wr) (fun i _ => l.length - (intOf i).toNat)
    case atStart => exact ⟨0, Nat.zero_le _, rfl, hal⟩
    case round =>
      clear hal
      obtain ⟨k, hk, rfl, bs, err, hrd, hrf, hbl, gk⟩ := hrel
      by_cases hlt : k < l.length
      · have hr := h.kept gk (by simp)
        have hmost := Lib.hid (hr.r _ (List.getElem_mem hlt))
        obtain ⟨ga, oa, rfl, hgB, hasks⟩ : ∃ g o, A = some ⟨g, o, none⟩ ∧ g < w.heap.size ∧ AsksAt wr g o l := by
          rcases hr.at_ with h0 | h0
          · rw [h0] at hlt; simp at hlt
          · exact h0
        obtain ⟨c0, c1⟩ := hasks k hlt
        have hap : ga ∉ [p] := by simp; omega
        have haq : ga ∉ [w2.heap.size] := by have := HQ.out; simp; omega
        clear hasks hr h
        by_cases e_ : l[k].1.tmod 6 = 0
        · go_wp2_with fail
          refine (rnum_any _ p g bs err hrd).mono ?_
          rintro e w8 ⟨rfl, h8, k8⟩
          have f8 := hrf.kept k8 (by simpa using fun e => hqp e.symm)
          go_wp2_with fail
          refine (gnum_any _ w2.heap.size bs err f8).mono ?_
          rintro e w9 ⟨rfl, f9, k9⟩
          have h9 := h8.kept k9 (by simpa using hqp) (by simpa using hqg)
          have g9 : Only [] w w9 := (gk.then k8 (by simpa using hpw)).then k9 (by simpa using HQ.out)
          clear hrd hrf h8 f8 k8 k9 c0 c1
          have hbl9 : ((rNumber bs err).2.1).length ≤ 4000 := Nat.le_trans (rNumber_len bs err) hbl
          obtain ⟨o9, c9, r9⟩ := h9
          have q0 := f9.c0
          have q1 := f9.c1
          have q2 := strOf_size ((rNumber bs err).2.1)
          go_wp2_with fail
          go_quiet ((first
            | ((with_reducible refine quiet_eq (err_any _ p g o9 c9 ((rNumber bs err).2.1) ((rNumber bs err).2.2) ?_)); exact r9.drewN _)
            | ((with_reducible refine quiet_eq (left_any _ p g o9 c9 ((rNumber bs err).2.1) ((rNumber bs err).2.2) ?_)); exact r9.drewN _)))
          clear q0 q1 q2
          go_wp2
          go_roundw
          case rel => exact ⟨k + 1, by omega, by go_num, _, _, ⟨o9, c9, r9.drewN _⟩, f9.drewN _, hbl9, g9.drewN _⟩
          case measure => simp [intOf]; omega
        · have f0 : (l[k].1.tmod 6 == 0) = false := by simpa using e_
          clear e_
          by_cases e_ : l[k].1.tmod 6 = 1
          · clear f0
            go_wp2_with fail
            refine (rlong_any _ p g bs err hrd).mono ?_
            rintro e w8 ⟨rfl, h8, k8⟩
            have f8 := hrf.kept k8 (by simpa using fun e => hqp e.symm)
            go_wp2_with fail
            refine (glong_any _ w2.heap.size bs err f8).mono ?_
            rintro e w9 ⟨rfl, f9, k9⟩
            have h9 := h8.kept k9 (by simpa using hqp) (by simpa using hqg)
            have g9 : Only [] w w9 := (gk.then k8 (by simpa using hpw)).then k9 (by simpa using HQ.out)
            clear hrd hrf h8 f8 k8 k9 c0 c1
            have hbl9 : ((rLong bs err).2.1).length ≤ 4000 := Nat.le_trans (rLong_len bs err) hbl
            obtain ⟨o9, c9, r9⟩ := h9
            have q0 := f9.c0
            have q1 := f9.c1
            have q2 := strOf_size ((rLong bs err).2.1)
            go_wp2_with fail
            go_quiet ((first
              | ((with_reducible refine quiet_eq (err_any _ p g o9 c9 ((rLong bs err).2.1) ((rLong bs err).2.2) ?_)); exact r9.drewN _)
              | ((with_reducible refine quiet_eq (left_any _ p g o9 c9 ((rLong bs err).2.1) ((rLong bs err).2.2) ?_)); exact r9.drewN _)))
            clear q0 q1 q2
            go_wp2
            go_roundw
            case rel => exact ⟨k + 1, by omega, by go_num, _, _, ⟨o9, c9, r9.drewN _⟩, f9.drewN _, hbl9, g9.drewN _⟩
            case measure => simp [intOf]; omega
          · have f1 : (l[k].1.tmod 6 == 1) = false := by simpa using e_
            clear e_
            by_cases e_ : l[k].1.tmod 6 = 2
            · clear f0 f1
              go_wp2_with fail
              refine (rflag_any _ p g bs err hrd).mono ?_
              rintro e w8 ⟨rfl, h8, k8⟩
              have f8 := hrf.kept k8 (by simpa using fun e => hqp e.symm)
              go_wp2_with fail
              refine (gflag_any _ w2.heap.size bs err f8).mono ?_
              rintro e w9 ⟨rfl, f9, k9⟩
              have h9 := h8.kept k9 (by simpa using hqp) (by simpa using hqg)
              have g9 : Only [] w w9 := (gk.then k8 (by simpa using hpw)).then k9 (by simpa using HQ.out)
              clear hrd hrf h8 f8 k8 k9 c0 c1
              have hbl9 : ((rFlag bs err).2.1).length ≤ 4000 := Nat.le_trans (rFlag_len bs err) hbl
              obtain ⟨o9, c9, r9⟩ := h9
              have q0 := f9.c0
              have q1 := f9.c1
              have q2 := strOf_size ((rFlag bs err).2.1)
              go_wp2_with fail
              go_quiet ((first
                | ((with_reducible refine quiet_eq (err_any _ p g o9 c9 ((rFlag bs err).2.1) ((rFlag bs err).2.2) ?_)); exact r9.drewN _)
                | ((with_reducible refine quiet_eq (left_any _ p g o9 c9 ((rFlag bs err).2.1) ((rFlag bs err).2.2) ?_)); exact r9.drewN _)))
              clear q0 q1 q2
              go_wp2
              go_roundw
              case rel => exact ⟨k + 1, by omega, by go_num, _, _, ⟨o9, c9, r9.drewN _⟩, f9.drewN _, hbl9, g9.drewN _⟩
              case measure => simp [intOf]; omega
            · have f2 : (l[k].1.tmod 6 == 2) = false := by simpa using e_
              clear e_
              by_cases e_ : l[k].1.tmod 6 = 3
              · clear f0 f1 f2
                have hmst := hmost.out
                have kd : Only [] wr wr.drew := (Only.refl [] wr).drew
                go_wp2_with fail
                go_region_held3 (fun w' => w'.cell? ⟨ga, oa + k * 2 + 1, none⟩ = some (.int .i64 l[k].2)) ((first | exact c1 | exact k9.cell (k8.cell c1 hap) haq | exact k8.cell c1 hap))
                  (first
                    | (go_at_call 22; refine (rtext_any _ p g bs err l[k].2 hmst ?_).mono ?_; exact hrd.drew_; rintro e w8 ⟨rfl, h8, k8⟩)
                    | (go_at_call 23; refine (gtext_any _ w2.heap.size bs err l[k].2 (by omega) ?_).mono ?_; exact (hrf.drew).kept k8 (by simpa using fun e => hqp e.symm); rintro e w9 ⟨rfl, f9, k9⟩))
                have h9 := h8.kept k9 (by simpa using hqp) (by simpa using hqg)
                have g9 : Only [] w w9 := ((gk.trans kd).then k8 (by simpa using hpw)).then k9 (by simpa using HQ.out)
                clear hrd hrf h8 k8 k9 c0 c1
                have hbl9 : ((rText l[k].2 bs err).2.1).length ≤ 4000 := Nat.le_trans (rText_len l[k].2 bs err) hbl
                obtain ⟨o9, c9, r9⟩ := h9
                have q0 := f9.c0
                have q1 := f9.c1
                have q2 := strOf_size ((rText l[k].2 bs err).2.1)
                go_wp2_with fail
                go_quiet ((first
                  | ((with_reducible refine quiet_eq (err_any _ p g o9 c9 ((rText l[k].2 bs err).2.1) ((rText l[k].2 bs err).2.2) ?_)); exact r9.drewN _)
                  | ((with_reducible refine quiet_eq (left_any _ p g o9 c9 ((rText l[k].2 bs err).2.1) ((rText l[k].2 bs err).2.2) ?_)); exact r9.drewN _)))
                clear q0 q1 q2
                go_wp2
                go_roundw
                case rel => exact ⟨k + 1, by omega, by go_num, _, _, ⟨o9, c9, r9.drewN _⟩, f9.drewN _, hbl9, g9.drewN _⟩
                case measure => simp [intOf]; omega
              · have f3 : (l[k].1.tmod 6 == 3) = false := by simpa using e_
                clear e_
                by_cases e_ : l[k].1.tmod 6 = 4
                · clear f0 f1 f2 f3
                  have hwq : w2.heap.size < wr.drew.heap.size := hrf.lt
                  have hmst := hmost.out
                  have kd : Only [] wr wr.drew := (Only.refl [] wr).drew
                  go_wp2_with fail
                  go_region_held3 (fun w' => w'.cell? ⟨ga, oa + k * 2 + 1, none⟩ = some (.int .i64 l[k].2)) ((first | exact c1 | exact ks.cell (k9.cell (k8.cell c1 hap) haq) (by simp) | exact k9.cell (k8.cell c1 hap) haq | exact k8.cell c1 hap))
                    (first
                      | (go_at_call 25; refine (rlist_any _ p g bs err l[k].2 hmst (by omega) ?_).mono ?_; exact hrd.drew_; rintro e w8 ⟨A8, c8, rfl, l8, h8, k8⟩)
                      | (go_at_call 26; refine (glist_any _ w2.heap.size bs err l[k].2 (by omega) ?_).mono ?_; exact (hrf.drew).kept k8 (by simpa using fun e => hqp e.symm); rintro e w9 ⟨A9, c9', rfl, l9, f9, k9⟩)
                      | (go_at_call 24; refine (same_yes _ A8 A9 c8 c9' (rList l[k].2 bs err).1 (nums_keep8 l8 k9 hwq) (nums_new9 l9) (by have := rList_small l[k].2 bs err; omega)).mono ?_; rintro e w10 ⟨rfl, ks⟩))
                  have h9 := (h8.kept k9 (by simpa using hqp) (by simpa using hqg)).kept ks (by simp) (by simp)
                  replace f9 := f9.kept ks (by simp)
                  have g9 : Only [] w w10 := (((gk.trans kd).then k8 (by simpa using hpw)).then k9 (by simpa using HQ.out)).trans ks
                  clear hrd hrf h8 k8 k9 c0 c1 l8 l9 ks
                  have hbl9 : ((rList l[k].2 bs err).2.1).length ≤ 4000 := Nat.le_trans (rList_len l[k].2 bs err) hbl
                  obtain ⟨o9, c9, r9⟩ := h9
                  have q0 := f9.c0
                  have q1 := f9.c1
                  have q2 := strOf_size ((rList l[k].2 bs err).2.1)
                  go_wp2_with fail
                  go_quiet ((first
                    | ((with_reducible refine quiet_eq (err_any _ p g o9 c9 ((rList l[k].2 bs err).2.1) ((rList l[k].2 bs err).2.2) ?_)); exact r9.drewN _)
                    | ((with_reducible refine quiet_eq (left_any _ p g o9 c9 ((rList l[k].2 bs err).2.1) ((rList l[k].2 bs err).2.2) ?_)); exact r9.drewN _)))
                  clear q0 q1 q2
                  go_wp2
                  go_roundw
                  case rel => exact ⟨k + 1, by omega, by go_num, _, _, ⟨o9, c9, r9.drewN _⟩, f9.drewN _, hbl9, g9.drewN _⟩
                  case measure => simp [intOf]; omega
                · have f4 : (l[k].1.tmod 6 == 4) = false := by simpa using e_
                  clear e_
                  by_cases e_ : l[k].1.tmod 6 = 5
                  · clear f0 f1 f2 f3 f4
                    go_wp2_with fail
                    refine (rend_any _ p g bs err hrd).mono ?_
                    rintro e w8 ⟨rfl, h8, k8⟩
                    have f8 := hrf.kept k8 (by simpa using fun e => hqp e.symm)
                    go_wp2_with fail
                    refine (gend_any _ w2.heap.size bs err f8).mono ?_
                    rintro e w9 ⟨rfl, f9, k9⟩
                    have h9 := h8.kept k9 (by simpa using hqp) (by simpa using hqg)
                    have g9 : Only [] w w9 := (gk.then k8 (by simpa using hpw)).then k9 (by simpa using HQ.out)
                    clear hrd hrf h8 f8 k8 k9 c0 c1
                    have hbl9 : (bs).length ≤ 4000 := Nat.le_trans (Nat.le_refl _) hbl
                    obtain ⟨o9, c9, r9⟩ := h9
                    have q0 := f9.c0
                    have q1 := f9.c1
                    have q2 := strOf_size (bs)
                    go_wp2_with fail
                    go_quiet ((first
                      | ((with_reducible refine quiet_eq (err_any _ p g o9 c9 (bs) (rEnd bs err) ?_)); exact r9.drewN _)
                      | ((with_reducible refine quiet_eq (left_any _ p g o9 c9 (bs) (rEnd bs err) ?_)); exact r9.drewN _)))
                    clear q0 q1 q2
                    go_wp2
                    go_roundw
                    case rel => exact ⟨k + 1, by omega, by go_num, _, _, ⟨o9, c9, r9.drewN _⟩, f9.drewN _, hbl9, g9.drewN _⟩
                    case measure => simp [intOf]; omega
                  · have f5 : (l[k].1.tmod 6 == 5) = false := by simpa using e_
                    clear e_
                    have h9 := hrd
                    have f9 := hrf
                    have g9 := gk
                    clear hrd hrf c1
                    have hbl9 : (bs).length ≤ 4000 := Nat.le_trans (Nat.le_refl _) hbl
                    obtain ⟨o9, c9, r9⟩ := h9
                    have q0 := f9.c0
                    have q1 := f9.c1
                    have q2 := strOf_size (bs)
                    go_wp2_with fail
                    go_quiet ((first
                      | ((with_reducible refine quiet_eq (err_any _ p g o9 c9 (bs) (err) ?_)); exact r9.drewN _)
                      | ((with_reducible refine quiet_eq (left_any _ p g o9 c9 (bs) (err) ?_)); exact r9.drewN _)))
                    clear q0 q1 q2
                    go_wp2
                    go_roundw
                    case rel => exact ⟨k + 1, by omega, by go_num, _, _, ⟨o9, c9, r9.drewN _⟩, f9.drewN _, hbl9, g9.drewN _⟩
                    case measure => simp [intOf]; omega
      · obtain rfl : k = l.length := by omega
        clear hrd hrf
        go_wp2_with fail
        refine (alive_any _).mono ?_
        rintro e w8 ⟨rfl, k8⟩
        go_wp2
        go_ret
        exact ⟨rfl, gk.trans k8⟩

end Go.Proofs.Ytfnpbekfgofhfaa
