/- WalTwice: to open a device twice is as once, and a log that was opened commits on. -/
import Derived.Test.YtihoebmfanelkaaLaw2
namespace Go.Proofs.Ytihoebmfanelkaa
open Go.RowKit

/-! Marks of number nought or one alone. -/
def Mk (s : St) : Prop := markN (s.firm.getD 0 []) ≤ 1 ∧ ∀ x ∈ s.late, x.1 = 0 → markN x.2 ≤ 1
theorem Mk.settled {s : St} (h : Mk s) (keep : Nat) (h1 : 1 ≤ s.firm.length) : Mk (settledAll s keep) := by
  refine ⟨?_, fun x hx => by cases hx⟩
  show markN ((settle keep s.late s.firm).getD 0 []) ≤ 1
  have hg := getD_get (l := settle keep s.late s.firm) (k := 0) (by rw [settle_length]; omega) ([] : List UInt8)
  rcases settle_mem keep s.firm 0 _ s.late hg with h' | h'
  · have := getD_get (l := s.firm) (k := 0) (by omega) ([] : List UInt8)
    rw [h'] at this
    injection this with this
    rw [this]
    exact h.1
  · exact h.2 _ h' rfl
theorem Mk.burnt {s : St} (h : Mk s) : Mk (burnt s) := by
  unfold Mk
  rw [burnt_firm, burnt_late]
  exact h
theorem Mk.written {s : St} (h : Mk s) (k : Int) (b : List UInt8) (hb : k = 0 → markN b ≤ 1) : Mk (written s k b) := by
  unfold Go.Proofs.Ytihoebmfanelkaa.written
  split
  · exact h
  · rename_i hk
    split
    · exact h.burnt
    · refine ⟨h.burnt.1, fun x hx hx0 => ?_⟩
      rcases List.mem_append.1 hx with hx | hx
      · exact h.2 x hx hx0
      · simp at hx
        subst hx
        simp only at hx0
        simp [hasBlock] at hk
        exact hb (by omega)
theorem Mk.barred {s : St} (h : Mk s) (h1 : 1 ≤ s.firm.length) : Mk (barred s) := by
  unfold Go.Proofs.Ytihoebmfanelkaa.barred
  split
  · exact h.burnt
  · exact h.burnt.settled _ (by rw [burnt_firm]; exact h1)
theorem Mk.settleW : ∀ (l : List Bk) (s : St), Mk s → 1 ≤ s.firm.length → (∀ x ∈ l, x.at_ = 0 → markN x.data ≤ 1) → Mk (settleW s l).2
  | [], s, h, h1, _ => h.barred h1
  | x :: r, s, h, h1, hl => by
    have hw := h.written x.at_ x.data (hl x (by simp))
    rw [Go.Proofs.Ytihoebmfanelkaa.settleW]
    split
    · exact Mk.settleW r _ hw (by rw [written_firm]; exact h1) (fun y hy => hl y (by simp [hy]))
    · exact hw
theorem Mk.commitW {s : St} {l : List Bk} (h : Mk s) (hr : RightL l ((s.firm.length : Int) - 41)) : Mk (commitW s 0 l).2 := by
  have hN := right_size hr
  have h40 := hr.2.1
  have c1 : ∀ x ∈ copiesOf (homesOf (0 + 1) l), x.at_ = 0 → markN x.data ≤ 1 := fun x hx h0 => by
    obtain ⟨i, hi, rfl⟩ := copies_at hx
    simp only at h0
    omega
  have c2 : ∀ x ∈ [(⟨0, markL (0 + 1) l.length⟩ : Bk)], x.at_ = 0 → markN x.data ≤ 1 := fun x hx _ => by
    simp only [List.mem_singleton] at hx
    subst hx
    simp only
    rw [(markL_num (0 + 1) l.length (by decide) (by omega)).1]
    omega
  have c3 : ∀ x ∈ homesOf (0 + 1) l, x.at_ = 0 → markN x.data ≤ 1 := fun x hx h0 => by
    obtain ⟨y, hy, rfl⟩ := homes_at hx
    have := (right_all hr y hy).1
    simp only at h0
    omega
  have m1 := Mk.settleW _ s h (by omega) c1
  have f1 := settleW_firm_len (copiesOf (homesOf (0 + 1) l)) s
  have m2 := Mk.settleW _ _ m1 (by omega) c2
  have f2 := settleW_firm_len [⟨0, markL (0 + 1) l.length⟩] (Go.Proofs.Ytihoebmfanelkaa.settleW s (copiesOf (homesOf (0 + 1) l))).2
  have m3 := Mk.settleW _ _ m2 (by omega) c3
  unfold Go.Proofs.Ytihoebmfanelkaa.commitW
  split
  · exact m1
  · split
    · exact m2
    · exact m3
theorem Mk.crashed {s : St} (h : Mk s) (keep : Nat) (h1 : 1 ≤ s.firm.length) : Mk (crashed s keep) := h.settled keep h1
theorem Mk.number {s : St} (h : Mk s) : openN s ≤ 1 := by
  unfold openN blkB
  rcases last_spec (s.firm.getD 0 []) 0 s.late with ⟨_, h2, _⟩ | ⟨_, _, h3⟩
  · rw [h2]; exact h.1
  · exact h.2 _ (List.mem_of_getElem? h3) rfl
theorem Mk.fresh (N : Nat) (hN : 1 ≤ N) : Mk (fresh N) := by
  refine ⟨?_, fun x hx => by cases hx⟩
  show markN ((List.replicate N (rep 256 0)).getD 0 []) ≤ 1
  rw [List.getD_eq_getElem?_getD, List.getElem?_replicate, if_pos (by omega)]
  show markN (rep 256 0) ≤ 1
  rw [mark_zero.1]
  omega

theorem crashed_live (s : St) (keep : Nat) : Live (crashed s keep) := ⟨rfl, by show (-1 : Int) < 0; decide⟩
theorem crashed_len (s : St) (keep : Nat) : (crashed s keep).firm.length = s.firm.length := by simp [crashed, settledAll, settle_length]
theorem crashed_blk (s : St) (hl : s.late = []) (k : Nat) : blkB (crashed s 0) k = blkB s k := by
  unfold blkB
  simp only [crashed, settledAll, hl, settle_nil, nowOf_nil]

theorem commits_to {s s' : St} {n n' : Nat} {l : List Bk} {x : Int} {f' : Bool} (hc : CommitsTo s n false l x s' n' f') : s' = s ∨ (RightL l ((s.firm.length : Int) - 41) ∧ s' = (commitW s n l).2) := by
  rcases hc with ⟨_, _, h, _⟩ | ⟨hR, _, h, _⟩
  · exact .inl h
  · refine .inr ⟨?_, h⟩
    rcases hR with ⟨_, h1⟩ | ⟨_, _, h1⟩ | ⟨_, _, _, h1⟩ | ⟨h1, _⟩
    · omega
    · omega
    · omega
    · exact h1
theorem commitW_len (s : St) (n : Nat) (l : List Bk) : (commitW s n l).2.firm.length = s.firm.length := by
  have f1 := settleW_firm_len (copiesOf (homesOf (n + 1) l)) s
  have f2 := settleW_firm_len [⟨0, markL (n + 1) l.length⟩] (settleW s (copiesOf (homesOf (n + 1) l))).2
  have f3 := settleW_firm_len (homesOf (n + 1) l) (settleW (settleW s (copiesOf (homesOf (n + 1) l))).2 [⟨0, markL (n + 1) l.length⟩]).2
  unfold commitW
  split
  · exact f1
  · split
    · omega
    · omega

section
variable {w w1 : World} {F : List Nat} {lp p n : Nat} {s : St} {f : Bool}
theorem OwnD.same (h : OwnD w w1 F p s) {w2 : World} {t : St} (k : Same w1 w2 p F t) : OwnD w w2 F p t :=
  ⟨k.1, h.only.then k.2 (fun i hi => .inr (h.new i hi).1), fun j hj => ⟨(h.new j hj).1, Nat.lt_of_lt_of_le (h.new j hj).2 k.2.size⟩⟩
theorem Own.fuse (h : Own w w1 F lp p s n f) (x : Int) (h0 : -9223372036854775808 ≤ x) (h1 : x ≤ 9223372036854775807) :
    Calls Try.prog 19 #[.pointer (some ⟨p, 0, none⟩), .int .i64 x] w1 fun e w' => e = .returned (.tuple #[]) ∧ Own w w' F lp p (lit s x) n f :=
  (fuse_any w1 p F s x h0 h1 h.dev).mono fun _ _ ⟨he, hs⟩ => ⟨he, (h.d.same hs).dev, Blk.kept h.log hs.2 h.out, h.out, h.old, (h.d.same hs).only, (h.d.same hs).new⟩
theorem OwnD.crash (h : OwnD w w1 F p s) (keep : Nat) (hk : keep < 18446744073709551616) :
    Calls Try.prog 21 #[.pointer (some ⟨p, 0, none⟩), .int .u64 (keep : Int)] w1 fun e w' => e = .returned (.tuple #[]) ∧ OwnD w w' F p (crashed s keep) ∧ Only F w1 w' :=
  (crash_any w1 p F s keep hk h.dev).mono fun _ _ ⟨he, hs⟩ => ⟨he, h.same hs, hs.2⟩
/-- A list that came in is none of the call's own blocks. -/
theorem Own.came {A : Option Addr} {l : List Bk} (h : Own w w1 F lp p s n f) (hb : Blks w A l) (hl : 1 ≤ l.length) : ∀ a, A = some a → a.block ∉ lp :: F := by
  obtain ⟨g, o, rfl, hg, _⟩ := hb.get (i := 0) (by omega)
  intro a ha hm
  injection ha with ha
  subst ha
  rcases List.mem_cons.1 hm with h' | h'
  · have := h.old; simp only at h'; omega
  · have := (h.new _ h').1; simp only at this; omega
end

theorem dataS_few (s : St) (h : s.firm.length = 46) : (dataS s).length = 5 := by rw [dataS_length, h]

set_option maxRecDepth 100000 in
set_option maxHeartbeats 4000000 in
theorem walTwice_walk (w : World) (A B : Option Addr) (c d : Nat) (l m : List Bk) (z : Int) (keep : Nat) (hA : Blks w A l) (hB : Blks w B m) (hl : l.length ≤ 9223372036854775807) (hm : m.length ≤ 9223372036854775807) (hc : l.length ≤ c) (hd : m.length ≤ d) (hz0 : 0 ≤ z) (hz1 : z < 256) (hkeep : keep < 18446744073709551616) :
    Calls Try.prog 4 #[.slice A l.length c, .slice B m.length d, .int .u8 z, .int .u64 (keep : Int)] w fun e w' => e = .returned (.bool true) ∧ Only [] w w' := by
  have halive := fun W => alive_any W
  have hr1 := fun W k => right5_any W A c l (hA.kept (S := []) k (by simp)) hl
  have hr2 := fun W k => right5_any W B d m (hB.kept (S := []) k (by simp)) hm
  replace halive := Lib.hid halive
  replace hr1 := Lib.hid hr1
  replace hr2 := Lib.hid hr2
  replace hkeep := Lib.hid hkeep
  go_enter Try.func4, Try.ntmps4
  go_wp2_with fail
  refine (halive.out _).mono ?_
  rintro e w1 ⟨rfl, k1⟩
  go_wp2_with fail
  refine (hr1.out w1 k1).mono ?_
  rintro e w2 ⟨⟨r1, rfl, q1⟩, k2⟩
  have k12 := k1.trans k2
  cases r1 with
  | false =>
    go_wp2_with fail
    refine (halive.out _).mono ?_
    rintro e w3 ⟨rfl, k3⟩
    have kend := k12.trans k3
    go_wp2
    go_ret
    exact ⟨rfl, kend⟩
  | true =>
  have hrl := q1.1 rfl
  go_wp2_with fail
  refine (hr2.out w2 k12).mono ?_
  rintro e w3 ⟨⟨r2, rfl, q2⟩, k3⟩
  have k13 := k12.trans k3
  cases r2 with
  | false =>
    go_wp2_with fail
    refine (halive.out _).mono ?_
    rintro e w4 ⟨rfl, k4⟩
    have kend := k13.trans k4
    go_wp2
    go_ret
    exact ⟨rfl, kend⟩
  | true =>
  have hrm := q2.1 rfl
  replace hrl := Lib.hid hrl
  replace hrm := Lib.hid hrm
  clear q1 q2 k1 k2 k3 k12 hr1 hr2
  have hnew := ownNew_any w w3 46 (by decide) (by decide) k13
  obtain ⟨e1, e2, e3⟩ := open_fresh 46 (by decide)
  have hmk := Mk.fresh 46 (by decide)
  have hflen := fresh_firm 46
  have hlate : (fresh 46).late.length = 0 := rfl
  generalize fresh 46 = s0 at *
  replace hnew := Lib.hid hnew
  replace hmk := Lib.hid hmk
  replace hflen := Lib.hid hflen
  replace hlate := Lib.hid hlate
  replace e2 := Lib.hid e2
  replace e3 := Lib.hid e3
  replace e1 := Lib.hid e1
  go_wp2_with fail
  refine hnew.out.mono ?_
  rintro e w4 ⟨p, F, rfl, hd4, k4, _⟩
  go_wp2_with fail
  refine (hd4.opens e1.out (by have := hlate.out; omega)).mono ?_
  rintro e w5 ⟨lp, F5, rfl, h5, _, _, _⟩
  rw [e2.out, e3.out] at h5
  clear hd4 k4
  go_wp2_with fail
  refine (h5.fuse (z % 20) (by omega) (by omega)).mono ?_
  rintro e w6 ⟨rfl, h6⟩
  go_wp2_with fail
  refine (h6.commit A c l (by decide) (hA.kept h6.only (by simp)) (h6.came hA hrl.out.1) hl hc (by have := hlate.out; show s0.late.length + 200 ≤ 1048576; omega)).mono ?_
  rintro e w7 ⟨x2, s2, n2, f2, F7, rfl, hc2, h7, _, _⟩
  have hs2 : Mk s2 ∧ s2.firm.length = 46 := by
    have hml : Mk (lit s0 (z % 20)) := hmk.out
    have hll : (lit s0 (z % 20)).firm.length = 46 := hflen.out
    rcases commits_to hc2 with rfl | ⟨hr, rfl⟩
    · exact ⟨hml, hll⟩
    · exact ⟨hml.commitW hr, by rw [commitW_len]; exact hll⟩
  replace hc2 := Lib.hid hc2
  replace hs2 := Lib.hid hs2
  clear h5 h6
  go_wp2_with fail
  refine (h7.d.crash keep hkeep.out).mono ?_
  rintro e w8 ⟨rfl, hd8, _⟩
  have hlive3 := crashed_live s2 keep
  have hmk3 := hs2.out.1.crashed keep (by have := hs2.out.2; omega)
  have hlen3 := crashed_len s2 keep
  have hlate3 : (crashed s2 keep).late.length = 0 := rfl
  rw [hs2.out.2] at hlen3
  generalize crashed s2 keep = s3 at *
  clear h7
  have hfine3 := hd8.dev.fine
  obtain ⟨o1, o2, o3, o4, _⟩ := openSt_live hfine3 hlive3 (by omega)
  have hn3 := hmk3.number
  go_wp2_with fail
  refine (hd8.opens o1 (by omega)).mono ?_
  rintro e w9 ⟨la, F9, rfl, h9, _, _, _⟩
  obtain ⟨t1, t2⟩ := open_twice hfine3 h9.dev.fine hlive3 (by omega)
  rw [hlen3] at o3
  obtain ⟨u1, u2, u3, u4, _⟩ := openSt_live h9.dev.fine o2 (by omega)
  have hdat : dataS (openSt s3) = dataS (openSt (openSt s3)) := dataS_congr (by omega) (fun k hk => (t2 k (by omega)).symm)
  generalize openSt s3 = sa at *
  generalize openN s3 = na at *
  replace hlive3 := Lib.hid hlive3
  replace hmk3 := Lib.hid hmk3
  replace hlen3 := Lib.hid hlen3
  replace hlate3 := Lib.hid hlate3
  replace hfine3 := Lib.hid hfine3
  replace o1 := Lib.hid o1
  replace o2 := Lib.hid o2
  replace o3 := Lib.hid o3
  replace o4 := Lib.hid o4
  replace t1 := Lib.hid t1
  replace t2 := Lib.hid t2
  replace u1 := Lib.hid u1
  replace u2 := Lib.hid u2
  replace u3 := Lib.hid u3
  replace u4 := Lib.hid u4
  replace hn3 := Lib.hid hn3
  replace hdat := Lib.hid hdat
  clear hd8
  go_wp2_with fail
  refine (datas_any w9 la p na F9 sa h9.log h9.dev o2.out.1 (by have := o3.out; omega)).mono ?_
  rintro e w10 ⟨v1, rfl, A1, c1, rfl, hs1, k10, hnew1⟩
  have h10 := h9.keep k10
  have hA1 : ∀ a, A1 = some a → a.block ∉ F9 := fun a ha hm => by have := hnew1 a ha; have := (h9.new _ hm).2; omega
  replace hnew1 := Lib.hid hnew1
  go_wp2_with fail
  refine (h10.d.opens u1.out (by have := o4.out; have := hlate3.out; omega)).mono ?_
  rintro e w11 ⟨lb, F11, rfl, h11, k11, _, _⟩
  have hloga : LogB w11 la p na false := Blk.kept h10.log k11 h10.out
  have hs1' := hs1.kept k11 hA1
  rw [t1.out] at h11
  generalize hsb : openSt sa = sb at *
  replace hsb := Lib.hid hsb
  replace hA1 := Lib.hid hA1
  clear hs1 h9 h10 k11
  have hlenb : sb.firm.length = 46 := by have := u3.out; have := o3.out; omega
  go_wp2_with fail
  refine (datas_any w11 lb p na F11 sb h11.log h11.dev u2.out.1 (by omega)).mono ?_
  rintro e w12 ⟨v2, rfl, A2, c2, rfl, hs2', k12, hnew2⟩
  have h12 := h11.keep k12
  obtain ⟨g2, p2, rfl, hg2, _⟩ := hs2'.get (i := 0) (by rw [dataS_length]; omega)
  have hA2 : ∀ a, (some ⟨g2, p2, none⟩ : Option Addr) = some a → a.block ∉ lb :: F11 := fun a ha hm => by
    have h0 := hnew2 a ha
    rcases List.mem_cons.1 hm with h | h
    · have := h11.lt; omega
    · have := (h11.new _ h).2; omega
  replace hnew2 := Lib.hid hnew2
  have hsame1 := same_any w12 A1 (some ⟨g2, p2, none⟩) c1 c2 (dataS sa) (dataS sb) (hs1'.kept k12 (by simp)) hs2' (by rw [dataS_length]; have := o3.out; omega)
  replace hsame1 := Lib.hid hsame1
  have hloga12 : LogB w12 la p na false := Blk.kept hloga k12 (by simp)
  clear hloga h11
  go_wp2_with fail
  refine hsame1.out.mono ?_
  rintro e w13 ⟨⟨r3, rfl, q3⟩, k13'⟩
  obtain rfl : r3 = true := q3.2 hdat.out
  replace q3 := Lib.hid q3
  have h13 := h12.keep k13'
  have hloga13 : LogB w13 la p na false := Blk.kept hloga12 k13' (by simp)
  have hla := last_any w13 la p na false hloga13
  have hlb := last_any w13 lb p na false h13.log
  have hs13 := hs2'.kept k13' (by simp)
  generalize (na : Int) = y at *
  replace hla := Lib.hid hla
  replace hlb := Lib.hid hlb
  clear hloga12 hloga13 h12 hs1'
  go_wp2_with fail
  refine hla.out.mono ?_
  rintro e w14 ⟨rfl, rfl⟩
  go_wp2_with fail
  refine hlb.out.mono ?_
  rintro e w15 ⟨rfl, rfl⟩
  go_wp2_with fail
  refine (h13.commit B d m (by have := hn3.out; omega) (hB.kept h13.only (by simp)) (h13.came hB hrm.out.1) hm hd (by have := u4.out; have := o4.out; have := hlate3.out; omega)).mono ?_
  rintro e w16 ⟨x4, s4, n4, f4, F16, rfl, hc4, h16, k16, hF16⟩
  have hg2F : g2 ∉ F16 := away hF16 (fun hm => hA2 _ rfl (List.mem_cons_of_mem _ hm)) (Nat.lt_of_lt_of_le hg2 k13'.size)
  have hrm' : RightL m ((sb.firm.length : Int) - 41) := by rw [hlenb]; exact hrm.out
  obtain ⟨rfl, rfl, rfl, rfl⟩ := commits_live u2.out hrm' (by have := hn3.out; omega) hc4
  obtain ⟨_, _, l4, l5, _⟩ := commitW_live (n := na) u2.out hrm'
  have hopen := fun t ht hft hlen hb => open_commit (t := t) (n := na) u2.out hrm' (by omega) (by have := hn3.out; omega) ht hft hlen hb
  have hdc := dataS_commit (n := na) u2.out hrm'
  generalize (commitW sb na m).2 = s4 at *
  have hs16 := hs13.kept k16 hA2
  replace hc4 := Lib.hid hc4
  replace hrm' := Lib.hid hrm'
  replace hopen := Lib.hid hopen
  replace hdc := Lib.hid hdc
  replace l4 := Lib.hid l4
  replace l5 := Lib.hid l5
  clear h13 k16 hs13 hs2'
  go_wp2_with fail
  refine (h16.d.crash 0 (by decide)).mono ?_
  rintro e w17 ⟨rfl, hd17, k17⟩
  have hA2F : ∀ a, (some ⟨g2, p2, none⟩ : Option Addr) = some a → a.block ∉ F16 := fun a ha => by injection ha with ha; subst ha; exact hg2F
  have hs17 := hs16.kept k17 hA2F
  have hlive5 := crashed_live s4 0
  have hlen5 := crashed_len s4 0
  have hlate5 : (crashed s4 0).late.length = 0 := rfl
  have hblk5 := crashed_blk s4 l4.out
  generalize crashed s4 0 = s5 at *
  have hfine5 := hd17.dev.fine
  rw [l5.out] at hlen5
  obtain ⟨y1, y2, y3, y4, _⟩ := openSt_live hfine5 hlive5 (by omega)
  have hsc := hopen.out s5 hlive5 hfine5 hlen5 (fun k _ => hblk5 k)
  have hdat5 : dataS (openSt s5) = afterL (dataS sb) m := by
    rw [← hdc.out]
    exact dataS_congr (by rw [y3, hlen5]; exact l5.out.symm) (fun k hk => by
      rw [hsc k (by omega)]; exact hblk5 k)
  clear hs16 h16 k17
  go_wp2_with fail
  refine (hd17.opens y1 (by omega)).mono ?_
  rintro e w18 ⟨lc, F18, rfl, h18, k18, _, _⟩
  have hs18 := hs17.kept k18 hA2F
  have hlen6 : (openSt s5).firm.length = 46 := by rw [y3]; omega
  have hdead6 := y2.1
  generalize openSt s5 = sc at *
  generalize openN s5 = nc at *
  replace hdat5 := Lib.hid hdat5
  replace hlen6 := Lib.hid hlen6
  clear hd17 hs17 hsc hblk5 y1 y2 y3 y4 hfine5 hlive5 k18
  go_wp2_with fail
  refine (datas_any w18 lc p nc F18 sc h18.log h18.dev hdead6 (by have := hlen6.out; omega)).mono ?_
  rintro e w19 ⟨v3, rfl, A3, c3, rfl, hs3, k19, hnew3⟩
  have h19 := h18.keep k19
  have hs19 := hs18.kept k19 (by simp)
  clear h18 hs18
  go_wp2_with fail
  refine (halive.out _).mono ?_
  rintro e w20 ⟨rfl, k20⟩
  have h20 := h19.keep k20
  have hs20 := hs19.kept k20 (by simp)
  have hs3' := hs3.kept k20 (by simp)
  have haft := after_any w20 (some ⟨g2, p2, none⟩) B c2 d (dataS sb) m hs20 (hB.kept h20.only (by simp)) (by rw [dataS_length]; omega) (by have := hrm.out.2.1; omega) (fun x hx => by
    have h0 := hrm'.out
    have := right_all h0 x hx
    rw [dataS_length]
    omega)
  replace haft := Lib.hid haft
  go_wp2_with fail
  refine haft.out.mono ?_
  rintro e w21 ⟨v4, rfl, A4, c4, rfl, hs4, k21, _⟩
  have hsame2 := same_any w21 A3 A4 c3 c4 (dataS sc) (afterL (dataS sb) m) (hs3'.kept k21 (by simp)) hs4 (by rw [dataS_length]; have := hlen6.out; omega)
  have kend := h20.only.trans k21
  replace hsame2 := Lib.hid hsame2
  clear h19 h20 hs19 hs20 hs3 hs3' hs4
  go_wp2_with fail
  refine hsame2.out.mono ?_
  rintro e w22 ⟨⟨r5, rfl, q5⟩, k22⟩
  obtain rfl : r5 = true := q5.2 hdat5.out
  replace q5 := Lib.hid q5
  have kend2 := kend.trans k22
  go_wp2
  go_ret
  exact ⟨rfl, kend2⟩

end Go.Proofs.Ytihoebmfanelkaa
