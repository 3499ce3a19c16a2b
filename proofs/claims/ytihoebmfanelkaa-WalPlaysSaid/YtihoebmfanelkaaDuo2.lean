/- Both logs are opened. -/
import Derived.Test.YtihoebmfanelkaaDuo
namespace Go.Proofs.Ytihoebmfanelkaa
open Go.RowKit

section
variable {w w1 w2 : World} {bp p m : Nat} {F G : List Nat} {s t : St} {v2 v3 : Value} {e : Ending}
theorem Core.open1 (h : Core w w1 bp p m F G s t v2 v3) (ho : Opened w1 w2 p F s e) : ∃ F', Core w w2 bp p m F' G (openSt s) t v2 v3 ∧
    ((openErr s ≠ 0 ∧ e = .returned (.tuple #[.pointer none, .int .i64 (openErr s)])) ∨
     (openErr s = 0 ∧ ∃ lp, e = .returned (.tuple #[.pointer (some ⟨lp, 0, none⟩), .int .i64 0]) ∧ LogB w2 lp p (openN s) false ∧ lp ∉ F' ∧ lp ∉ G ∧ lp ≠ bp ∧ w.heap.size ≤ lp)) := by
  obtain ⟨F', h1, h2, h3, h4⟩ := ho
  refine ⟨F', h.turnF h1 h2 (fun i hi => ⟨(h.fnew i hi).1, h.apart i hi, fun e => h.bF (e ▸ hi)⟩) h3.out, h4.imp id ?_⟩
  rintro ⟨h5, lp, he, hl, hlp, hout⟩
  have hs := h.only.size
  have hlt := h.lt
  exact ⟨h5, lp, he, hl, hout, fun hm => by have := (h.gnew _ hm).2; omega, by omega, by omega⟩
theorem Core.open2 (h : Core w w1 bp p m F G s t v2 v3) (ho : ROpened w1 w2 m G t e) : ∃ G', Core w w2 bp p m F G' s (openSt t) v2 v3 ∧ Only G w1 w2 ∧ (∀ j ∈ G', j ∈ G ∨ w1.heap.size ≤ j) ∧
    ((openErr t ≠ 0 ∧ e = .returned (.tuple #[.pointer none, .int .i64 (openErr t)])) ∨
     (openErr t = 0 ∧ ∃ xp, e = .returned (.tuple #[.pointer (some ⟨xp, 0, none⟩), .int .i64 0]) ∧ RLogB w2 xp m (openN t) false ∧ w1.heap.size ≤ xp ∧ xp ∉ G')) := by
  obtain ⟨G', h1, h2, h3, h4⟩ := ho
  exact ⟨G', h.turnG h1 h2 (fun i hi => ⟨(h.gnew i hi).1, fun hf => h.apart i hf hi, fun e => h.bG (e ▸ hi)⟩) h3.out, h2, fun j hj => (h3.out j hj).1, h4⟩
end

theorem openErr_big {s : St} (h : openErr s = 0) : 42 ≤ s.firm.length := by
  unfold openErr at h
  split at h
  · exact absurd h (by decide)
  · omega

set_option maxRecDepth 100000 in
set_option maxHeartbeats 4000000 in
theorem duoOpen_any (w w1 : World) (bp p m N k : Nat) (F G : List Nat) (s t : St) (v2 v3 : Value) (h : Core w w1 bp p m F G s t v2 v3) (like : Like s t) (len : s.firm.length = N) (late : s.late.length + 40 ≤ 200 * k) (hk : k ≤ 1000) :
    Calls Try.prog 12 #[.pointer (some ⟨bp, 0, none⟩)] w1 fun e w' => e = .returned (.bool true) ∧ Duo w w' bp p m N k := by
  obtain ⟨c0, c1, c2, c3⟩ := h.cells
  obtain ⟨q1, q2, q3⟩ := like.opens
  obtain ⟨b1, b2⟩ := openSt_late s
  have hop := open_any w1 p F s h.dev (by omega)
  have hro := fun W (hr : Ref W m G t) => ropen_any W m G t (by rw [← like.2.1]; omega) hr
  have hlate : Hid ((openSt s).late.length ≤ 200 * k) := show _ ≤ _ by omega
  have hlen : Hid ((openSt s).firm.length = N) := show _ = _ by rw [b2, len]
  replace q2 := Lib.hid q2
  replace hro := Lib.hid hro
  replace late := Lib.hid late
  replace b1 := Lib.hid b1
  replace b2 := Lib.hid b2
  replace like := Lib.hid like
  go_enter Try.func12, Try.ntmps12
  go_wp2_with fail
  refine hop.mono ?_
  rintro e w2 ho
  obtain ⟨F2, h2, ho2⟩ := h.open1 ho
  obtain ⟨_, d1, _, _⟩ := h2.cells
  clear ho h c0 c1 c2 c3 hop
  rcases ho2 with ⟨h0, rfl⟩ | ⟨h0, lp, rfl, hlog, a1, a2, a3, a4⟩
  · obtain ⟨er, her⟩ : ∃ er, er = openErr s := ⟨_, rfl⟩
    rw [← her] at h0 q1
    rw [← her]
    replace her := Lib.hid her
    go_wp2_with fail
    refine (hro.out _ h2.ref).mono ?_
    rintro e w3 ho3
    obtain ⟨G3, h3, k3, hG3, ho4⟩ := h2.open2 ho3
    rcases ho4 with ⟨g0, rfl⟩ | ⟨g0, _⟩
    · rw [← q1]
      obtain ⟨h4, k4⟩ := h3.lay (.pointer none) (.pointer none)
      have fr2 := Blk.free h3.blk 2
      have fr3 := Blk.free h3.blk 3
      have fr3' : (w3.setCell ⟨bp, 2, none⟩ (.pointer none)).frozen? ⟨bp, 3, none⟩ = false := Blk.free (Blk.set h3.blk 2 (.pointer none)) 3
      obtain ⟨c0, c1, c2, c3⟩ := h3.cells
      have hfin := Duo.none (k := k) F2 G3 _ _ h4 q2.out hlen.out hlate.out
      replace hfin := Lib.hid hfin
      clear h4 k4 h3 k3 hG3 ho3 h2 q1 g0 d1
      go_wp2
      go_ret
      exact ⟨rfl, hfin.out⟩
    · rw [← q1] at g0
      exact absurd g0 h0
  · rw [h0] at q1
    have hbig : 42 ≤ N := by rw [← len]; exact openErr_big h0
    go_wp2_with fail
    refine (hro.out _ h2.ref).mono ?_
    rintro e w3 ho3
    obtain ⟨G3, h3, k3, hG3, ho4⟩ := h2.open2 ho3
    rcases ho4 with ⟨g0, _⟩ | ⟨_, xp, rfl, hrlog, b1, b2⟩
    · exact absurd q1.symm g0
    · rw [← q3] at hrlog
      obtain ⟨h4, k4⟩ := h3.lay (.pointer (some ⟨lp, 0, none⟩)) (.pointer (some ⟨xp, 0, none⟩))
      have fr2 := Blk.free h3.blk 2
      have fr3 := Blk.free h3.blk 3
      have fr3' : (w3.setCell ⟨bp, 2, none⟩ (.pointer (some ⟨lp, 0, none⟩))).frozen? ⟨bp, 3, none⟩ = false := Blk.free (Blk.set h3.blk 2 (.pointer (some ⟨lp, 0, none⟩))) 3
      obtain ⟨c0, c1, c2, c3⟩ := h3.cells
      have hlp2 := Blk.lt hlog
      have hb2 := h2.lt
      have hs2 := h2.only.size
      have hlogs : Logs w ((w3.setCell ⟨bp, 2, none⟩ (.pointer (some ⟨lp, 0, none⟩))).setCell ⟨bp, 3, none⟩ (.pointer (some ⟨xp, 0, none⟩))) bp p m F2 G3 lp xp (openN s) false (openN s) false := by
        refine ⟨Blk.kept (Blk.kept hlog k3 a2) k4 (by simpa using a3), Blk.kept hrlog k4 (by simp; omega), a1, fun hm => ?_, fun hm => ?_, b2, by omega, a3, by omega, a4, by omega⟩
        · rcases hG3 _ hm with h' | h'
          · exact a2 h'
          · omega
        · have := (h2.fnew _ hm).2; omega
      have hfin := Duo.some (k := k) F2 G3 _ _ lp xp (openN s) false h4 hlogs q2.out hlen.out hlate.out (openN_lt s) hbig
      replace hfin := Lib.hid hfin
      clear h4 k4 h3 k3 hG3 ho3 h2 q1 d1 hlogs
      go_wp2
      go_ret
      exact ⟨rfl, hfin.out⟩

end Go.Proofs.Ytihoebmfanelkaa
