/- WalRefuses: what may not be committed is refused, and changes nothing; and no log does nothing. -/
import Derived.Test.YtihoebmfanelkaaLaw2
namespace Go.Proofs.Ytihoebmfanelkaa
open Go.RowKit

theorem commits_not {s s' : St} {n n' : Nat} {l : List Bk} {x : Int} {f' : Bool} (hr : ¬ RightL l ((s.firm.length : Int) - 41)) (hc : CommitsTo s n false l x s' n' f') : x = 1 ∧ s' = s ∧ n' = n ∧ f' = false := by
  rcases hc with ⟨hx, hR, h1, h2, h3⟩ | ⟨hR, _⟩
  · rcases hR with ⟨_, h⟩ | ⟨h, _⟩ | ⟨h, _⟩ | ⟨h, _⟩
    · exact ⟨h, h1, h2, h3⟩
    · exact absurd h hr
    · exact absurd h hr
    · exact absurd h hr
  · rcases hR with ⟨_, h⟩ | ⟨_, _, h⟩ | ⟨_, _, _, h⟩ | ⟨h, _⟩
    · omega
    · omega
    · omega
    · exact absurd h hr

set_option maxRecDepth 100000 in
set_option maxHeartbeats 4000000 in
theorem walRefuses_walk (w : World) (A B : Option Addr) (c d : Nat) (l m : List Bk) (hA : Blks w A l) (hB : Blks w B m) (hl : l.length ≤ 9223372036854775807) (hm : m.length ≤ 9223372036854775807) (hc : l.length ≤ c) (hd : m.length ≤ d) :
    Calls Try.prog 5 #[.slice A l.length c, .slice B m.length d] w fun e w' => e = .returned (.bool true) ∧ Only [] w w' := by
  have halive := fun W => alive_any W
  have hr1 := fun W k => right5_any W A c l (hA.kept (S := []) k (by simp)) hl
  have hr2 := fun W k => right5_any W B d m (hB.kept (S := []) k (by simp)) hm
  replace halive := Lib.hid halive
  replace hr1 := Lib.hid hr1
  replace hr2 := Lib.hid hr2
  by_cases hbig : 100 < m.length
  · have hbig' : (100 : Int) < (m.length : Int) := by omega
    go_enter Try.func5, Try.ntmps5
    go_wp2_with fail
    refine (halive.out _).mono ?_
    rintro e w1 ⟨rfl, k1⟩
    go_wp2_with fail
    refine (halive.out _).mono ?_
    rintro e w2 ⟨rfl, k2⟩
    have kend := k1.trans k2
    go_wp2
    go_ret
    exact ⟨rfl, kend⟩
  have hbig' : ¬ (100 : Int) < (m.length : Int) := by omega
  go_enter Try.func5, Try.ntmps5
  go_wp2_with fail
  refine (halive.out _).mono ?_
  rintro e w1 ⟨rfl, k1⟩
  go_wp2_with fail
  refine (hr1.out w1 k1).mono ?_
  rintro e w2 ⟨⟨r1, rfl, q1⟩, k2⟩
  have k12 := k1.trans k2
  clear k1 k2
  cases r1 with
  | false =>
    go_wp2_with fail
    refine (halive.out _).mono ?_
    rintro e w3 ⟨rfl, k3⟩
    have kend := k12.trans k3
    go_wp2
    go_ret
    exact ⟨rfl, kend⟩
  | true =>
  have hrl := q1.1 rfl
  replace hrl := Lib.hid hrl
  clear q1
  go_wp2_with fail
  go_loopw [5] (fun i wr => ∃ k : Nat, k ≤ m.length ∧ i = .int .i64 k ∧ Hid (∀ j x, j < k → m[j]? = some x → x.data.length ≤ 1000) ∧ Only [] w wr) (fun i _ => m.length - (intOf i).toNat)
  case atStart => exact ⟨0, Nat.zero_le _, rfl, fun j x hj => by omega, k12⟩
  case round =>
    clear k12
    obtain ⟨k, hk, rfl, hsmall, honly⟩ := hrel
    by_cases hlt : k < m.length
    · obtain ⟨g, o, rfl, hg, hat⟩ := hB.get hlt
      have c1 := honly.cell (hat k hlt).2 (by simp)
      have hx : m[k]? = some m[k] := List.getElem?_eq_getElem hlt
      have hsz : (strOf m[k].data).size = m[k].data.length := strOf_size _
      generalize m[k] = x at *
      obtain ⟨at_, data⟩ := x
      simp only at c1 hsz
      generalize strOf data = bs at *
      by_cases hb : 1000 < data.length
      · have hb' : (1000 : Int) < (bs.size : Int) := by omega
        replace hsz := Lib.hid hsz
        clear hx hsmall
        go_wp2_with fail
        refine (halive.out _).mono ?_
        rintro e w3 ⟨rfl, k3⟩
        have kend := honly.trans k3
        go_wp2
        go_ret
        exact ⟨rfl, kend⟩
      · have hb' : ¬ (1000 : Int) < (bs.size : Int) := by omega
        have hsmall2 : Hid (∀ j x, j < k + 1 → m[j]? = some x → x.data.length ≤ 1000) := fun j y hj hy => by
          by_cases hjk : j = k
          · subst hjk
            rw [hx] at hy
            injection hy with hy
            subst hy
            simp only
            omega
          · exact hsmall.out j y (by omega) hy
        replace hsz := Lib.hid hsz
        clear hx hsmall
        go_wp2
        go_roundw
        case rel => exact ⟨k + 1, by omega, by go_num, hsmall2, honly⟩
        case measure => simp [intOf]; omega
    · have hge : (m.length : Int) ≤ k := by omega
      clear hsmall
      have hnew := ownNew_any w wr 46 (by decide) (by decide) honly
      obtain ⟨e1, e2, e3⟩ := open_fresh 46 (by decide)
      have hlive := fresh_live 46
      have hflen := fresh_firm 46
      have hlate : (fresh 46).late.length = 0 := rfl
      generalize fresh 46 = s0 at *
      replace hnew := Lib.hid hnew
      replace hlive := Lib.hid hlive
      replace hflen := Lib.hid hflen
      replace hlate := Lib.hid hlate
      replace e2 := Lib.hid e2
      replace e3 := Lib.hid e3
      replace e1 := Lib.hid e1
      have hrl0 : RightL l ((s0.firm.length : Int) - 41) := by rw [hflen.out]; exact hrl.out
      obtain ⟨_, p2, p3, p4, _⟩ := commitW_live (n := 0) hlive.out hrl0
      replace hrl0 := Lib.hid hrl0
      go_wp2_with fail
      refine hnew.out.mono ?_
      rintro e w4 ⟨p, F, rfl, hd4, _, _⟩
      go_wp2_with fail
      refine (hd4.opens e1.out (by have := hlate.out; omega)).mono ?_
      rintro e w5 ⟨lp, F5, rfl, h5, _, _, _⟩
      rw [e2.out, e3.out] at h5
      clear hd4
      go_wp2_with fail
      refine (h5.commit A c l (by decide) (hA.kept h5.only (by simp)) hl hc (by have := hlate.out; omega)).mono ?_
      rintro e w6 ⟨x1, s1, n1, f1, F6, rfl, hc1, h6, _, _⟩
      obtain ⟨rfl, rfl, rfl, rfl⟩ := commits_live hlive.out hrl0.out (by decide) hc1
      generalize (commitW s0 0 l).2 = s1 at *
      have hlen1 : s1.firm.length = 46 := by rw [p4]; exact hflen.out
      have hlate1 : s1.late.length = 0 := by rw [p3]; rfl
      replace p2 := Lib.hid p2
      replace hlen1 := Lib.hid hlen1
      replace hlate1 := Lib.hid hlate1
      replace hc1 := Lib.hid hc1
      clear h5 p3 p4
      go_wp2_with fail
      refine (datas_any w6 lp p 1 F6 s1 h6.log h6.dev p2.out.1 (by have := hlen1.out; omega)).mono ?_
      rintro e w7 ⟨v1, rfl, A1, c1, rfl, hs1, k7, hnew1⟩
      have h7 := h6.keep k7
      obtain ⟨g1, o1, rfl, hg1, _⟩ := hs1.get (i := 0) (by rw [dataS_length]; have := hlen1.out; omega)
      have hg1F : g1 ∉ lp :: F6 := fun hm => by
        have h0 := hnew1 _ rfl
        simp only at h0
        rcases List.mem_cons.1 hm with h | h
        · have := h6.lt; omega
        · have := (h6.new _ h).2; omega
      replace hnew1 := Lib.hid hnew1
      clear h6
      go_wp2_with fail
      refine (h7.commit B d m (by decide) (hB.kept h7.only (by simp)) hm hd (by have := hlate1.out; omega)).mono ?_
      rintro e w8 ⟨x2, s2, n2, f2, F8, rfl, hc2, h8, k8, _⟩
      have hs8 := hs1.kept k8 (fun a ha => by injection ha with ha; subst ha; exact hg1F)
      clear h7 k8 hs1
      have hNN : ((s1.firm.length : Int) - 41) = 5 := by rw [hlen1.out]; rfl
      -- the end
      have hread0 : ∀ W, Calls Try.prog 25 #[.pointer none, .int .i64 0] W fun e w' => e = .returned (.tuple #[.string ⟨#[]⟩, .int .i64 5]) ∧ w' = W := fun W => lread_nil W 0
      have hopen0 := fun W => open_nil W
      have hcom0 := fun W v => commit_nil W v
      have hsize0 := fun W => size_nil W
      have hlast0 := fun W => last_nil W
      replace hread0 := Lib.hid hread0
      replace hopen0 := Lib.hid hopen0
      replace hcom0 := Lib.hid hcom0
      replace hsize0 := Lib.hid hsize0
      replace hlast0 := Lib.hid hlast0
      by_cases hrm : RightL m 5
      · have hrm' : RightL m ((s1.firm.length : Int) - 41) := by rw [hNN]; exact hrm
        obtain ⟨rfl, rfl, rfl, rfl⟩ := commits_live p2.out hrm' (by decide) hc2
        obtain ⟨_, u2, u3, u4, _⟩ := commitW_live (n := 1) p2.out hrm'
        generalize (commitW s1 1 m).2 = s2 at *
        replace hc2 := Lib.hid hc2
        replace hrm := Lib.hid hrm
        replace hrm' := Lib.hid hrm'
        go_wp2_with fail
        refine (datas_any w8 lp p 2 F8 s2 h8.log h8.dev u2.1 (by have := hlen1.out; omega)).mono ?_
        rintro e w9 ⟨v2, rfl, A2, c2, rfl, hs2, k9, _⟩
        have k09 := h8.only.trans k9
        clear u2 u3 u4 h8 hs2 k9 hs8
        go_wp2_with fail
        refine (hr2.out w9 k09).mono ?_
        rintro e w10 ⟨⟨r3, rfl, q3⟩, k10⟩
        obtain rfl : r3 = true := q3.2 hrm.out
        have k010 := k09.trans k10
        replace q3 := Lib.hid q3
        clear k09 k10
        go_wp2_with fail
        refine (hread0.out _).mono ?_
        rintro e w11 ⟨rfl, rfl⟩
        go_wp2_with fail
        refine (hopen0.out _).mono ?_
        rintro e w12 ⟨rfl, rfl⟩
        go_wp2_with fail
        refine (halive.out _).mono ?_
        rintro e w13 ⟨rfl, k13⟩
        have k013 := k010.trans k13
        go_wp2_with fail
        refine (hcom0.out _ _).mono ?_
        rintro e w14 ⟨rfl, k14⟩
        have k014 := k013.trans k14
        clear k13 k14 k010 k013
        go_wp2_with fail
        refine (hsize0.out _).mono ?_
        rintro e w15 ⟨rfl, rfl⟩
        go_wp2_with fail
        refine (hlast0.out _).mono ?_
        rintro e w16 ⟨rfl, rfl⟩
        go_wp2
        go_ret
        exact ⟨rfl, k014⟩
      · have hrm' : ¬ RightL m ((s1.firm.length : Int) - 41) := by rw [hNN]; exact hrm
        obtain ⟨rfl, rfl, rfl, rfl⟩ := commits_not hrm' hc2
        replace hc2 := Lib.hid hc2
        replace hrm := Lib.hid hrm
        replace hrm' := Lib.hid hrm'
        go_wp2_with fail
        refine (datas_any w8 lp p 1 F8 s2 h8.log h8.dev p2.out.1 (by have := hlen1.out; omega)).mono ?_
        rintro e w9 ⟨v2, rfl, A2, c2, rfl, hs2, k9, _⟩
        have h9 := h8.keep k9
        have hs9 := hs8.kept k9 (by simp)
        clear h8 hs8
        go_wp2_with fail
        refine (hr2.out w9 h9.only).mono ?_
        rintro e w10 ⟨⟨r3, rfl, q3⟩, k10⟩
        obtain rfl : r3 = false := by
          cases r3 with
          | false => rfl
          | true => exact absurd (q3.1 rfl) hrm.out
        have h10 := h9.keep k10
        have hs10 := hs9.kept k10 (by simp)
        have hs2' := hs2.kept k10 (by simp)
        have hsame := same_any w10 (some ⟨g1, o1, none⟩) A2 c1 c2 (dataS s2) (dataS s2) hs10 hs2' (by rw [dataS_length]; have := hlen1.out; omega)
        replace hsame := Lib.hid hsame
        replace q3 := Lib.hid q3
        clear h9 hs9 hs2 k9 k10
        go_wp2_with fail
        refine hsame.out.mono ?_
        rintro e w11 ⟨⟨r4, rfl, q4⟩, k11⟩
        obtain rfl : r4 = true := by simpa using q4
        replace q4 := Lib.hid q4
        have h11 := h10.keep k11
        have hla := last_any w11 lp p 1 false h11.log
        replace hla := Lib.hid hla
        have k011 := h11.only
        clear h10 h11 hs10 hs2' k11
        go_wp2_with fail
        refine hla.out.mono ?_
        rintro e w12 ⟨rfl, rfl⟩
        go_wp2_with fail
        refine (hread0.out _).mono ?_
        rintro e w13 ⟨rfl, rfl⟩
        go_wp2_with fail
        refine (hopen0.out _).mono ?_
        rintro e w14 ⟨rfl, rfl⟩
        go_wp2_with fail
        refine (halive.out _).mono ?_
        rintro e w15 ⟨rfl, k15⟩
        have k015 := k011.trans k15
        go_wp2_with fail
        refine (hcom0.out _ _).mono ?_
        rintro e w16 ⟨rfl, k16⟩
        have k016 := k015.trans k16
        clear k15 k16 k011 k015
        go_wp2_with fail
        refine (hsize0.out _).mono ?_
        rintro e w17 ⟨rfl, rfl⟩
        go_wp2_with fail
        refine (hlast0.out _).mono ?_
        rintro e w18 ⟨rfl, rfl⟩
        go_wp2
        go_ret
        exact ⟨rfl, k016⟩

end Go.Proofs.Ytihoebmfanelkaa
