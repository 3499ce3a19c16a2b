/- Commit. -/
import Derived.Test.YtihoebmfanelkaaWal8
namespace Go.Proofs.Ytihoebmfanelkaa
open Go.RowKit

def commitW (s : St) (n : Nat) (l : List Bk) : Int × St :=
  if (settleW s (copiesOf (homesOf (n + 1) l))).1 ≠ 0 then settleW s (copiesOf (homesOf (n + 1) l)) else
  if (settleW (settleW s (copiesOf (homesOf (n + 1) l))).2 [⟨0, markL (n + 1) l.length⟩]).1 ≠ 0 then settleW (settleW s (copiesOf (homesOf (n + 1) l))).2 [⟨0, markL (n + 1) l.length⟩] else
  settleW (settleW (settleW s (copiesOf (homesOf (n + 1) l))).2 [⟨0, markL (n + 1) l.length⟩]).2 (homesOf (n + 1) l)

section
variable {s s1 s2 : St} {n : Nat} {l : List Bk} {x : Int}
theorem commitW_1 (h1 : settleW s (copiesOf (homesOf (n + 1) l)) = (x, s1)) (h : x ≠ 0) : commitW s n l = (x, s1) := by
  unfold commitW
  rw [h1, if_pos h]
theorem commitW_2 (h1 : settleW s (copiesOf (homesOf (n + 1) l)) = (0, s1)) (h2 : settleW s1 [⟨0, markL (n + 1) l.length⟩] = (x, s2)) (h : x ≠ 0) : commitW s n l = (x, s2) := by
  unfold commitW
  rw [h1]
  simp only [ne_eq, not_true_eq_false, if_false, h2]
  rw [if_pos h]
theorem commitW_3 (h1 : settleW s (copiesOf (homesOf (n + 1) l)) = (0, s1)) (h2 : settleW s1 [⟨0, markL (n + 1) l.length⟩] = (0, s2)) : commitW s n l = settleW s2 (homesOf (n + 1) l) := by
  unfold commitW
  rw [h1]
  simp only [ne_eq, not_true_eq_false, if_false, h2]
end

theorem markL_length (n k : Nat) : (markL n k).length = 256 := fillL_length _ (by simp [lcom, be4_length])

theorem written_firm (s : St) (k : Int) (b : List UInt8) : (written s k b).firm = s.firm := by
  unfold written
  split
  · rfl
  · split <;> simp [burnt_firm]
theorem barred_firm_len (s : St) : (barred s).firm.length = s.firm.length := by
  unfold barred
  split
  · rw [burnt_firm]
  · simp [settledAll, settle_length, burnt_firm]
theorem settleW_firm_len : ∀ (l : List Bk) (s : St), (settleW s l).2.firm.length = s.firm.length
  | [], s => barred_firm_len s
  | x :: r, s => by
    rw [settleW]
    split
    · rw [settleW_firm_len r, written_firm]
    · rw [written_firm]
theorem barred_late (s : St) : (barred s).late.length ≤ s.late.length := by
  unfold barred
  split
  · rw [burnt_late]; omega
  · simp [settledAll]
theorem settleW_late : ∀ (l : List Bk) (s : St), (settleW s l).2.late.length ≤ s.late.length + l.length
  | [], s => by have := barred_late s; simpa [settleW] using this
  | x :: r, s => by
    have h1 := written_late s x.at_ x.data
    rw [settleW]
    split
    · have := settleW_late r (written s x.at_ x.data)
      simp only [List.length_cons]
      omega
    · simp only [List.length_cons]
      omega
/-- Where all blocks are there, nothing is wrong but death. -/
theorem settleW_err : ∀ (l : List Bk) (s : St), (∀ x ∈ l, hasBlock s.firm.length x.at_ = true ∧ x.data.length = 256) → (settleW s l).1 = 0 ∨ (settleW s l).1 = 5
  | [], s, _ => by
    simp only [settleW, barErr]
    split
    · exact .inr rfl
    · exact .inl rfl
  | x :: r, s, h => by
    have hx := h x (by simp)
    have he : writeErr s x.at_ x.data = 0 ∨ writeErr s x.at_ x.data = 5 := by
      rw [writeErr, hx.1, if_neg (by simp [hx.2])]
      split
      · exact .inr rfl
      · exact .inl rfl
    rw [settleW]
    split
    · exact settleW_err r _ (fun y hy => by rw [written_firm]; exact h y (by simp [hy]))
    · rename_i h0
      exact .inr (he.resolve_left h0)

theorem copies_there {n N : Nat} {l : List Bk} (hl : l.length ≤ 40) (hN : 42 ≤ N) (hd : ∀ x ∈ l, x.data.length ≤ 248) : ∀ x ∈ copiesOf (homesOf n l), hasBlock N x.at_ = true ∧ x.data.length = 256 := by
  intro x hx
  simp only [copiesOf, List.mem_mapIdx] at hx
  obtain ⟨i, hi, rfl⟩ := hx
  rw [homesOf_length] at hi
  refine ⟨by simp only [hasBlock, decide_eq_true_eq]; omega, ?_⟩
  simp only [homesOf, List.getElem_map]
  exact homeL_length n _ (hd _ (List.getElem_mem hi))
theorem homes_there {n N : Nat} {l : List Bk} (hd : ∀ x ∈ l, (0 ≤ x.at_ ∧ x.at_ < (N : Int) - 41) ∧ x.data.length ≤ 248) : ∀ x ∈ homesOf n l, hasBlock N x.at_ = true ∧ x.data.length = 256 := by
  intro x hx
  simp only [homesOf, List.mem_map] at hx
  obtain ⟨y, hy, rfl⟩ := hx
  obtain ⟨h1, h2⟩ := hd y hy
  exact ⟨by simp only [hasBlock, decide_eq_true_eq]; omega, homeL_length n y h2⟩
theorem right_all {l : List Bk} {N : Nat} (h : RightL l ((N : Int) - 41)) : ∀ x ∈ l, (0 ≤ x.at_ ∧ x.at_ < (N : Int) - 41) ∧ x.data.length ≤ 248 := by
  intro x hx
  obtain ⟨i, hi, rfl⟩ := List.getElem_of_mem hx
  obtain ⟨h1, h2, h3, _⟩ := h.2.2 i hi _ (List.getElem?_eq_getElem hi)
  exact ⟨⟨h1, h2⟩, h3⟩
theorem right_size {l : List Bk} {N : Nat} (h : RightL l ((N : Int) - 41)) : 42 ≤ N := by
  have h1 := h.1
  have := right_all h (l[0]'(by omega)) (List.getElem_mem _)
  omega

/-- What a commit answers, and what it makes of the device and the log. -/
def CommitsTo (s : St) (n : Nat) (f : Bool) (l : List Bk) (x : Int) (s' : St) (n' : Nat) (f' : Bool) : Prop :=
  (x ≠ 0 ∧ Refusal ((s.firm.length : Int) - 41) f n l x ∧ s' = s ∧ n' = n ∧ f' = f) ∨
  (Refusal ((s.firm.length : Int) - 41) f n l 0 ∧ x = (commitW s n l).1 ∧ s' = (commitW s n l).2 ∧ ((x = 0 ∧ n' = n + 1 ∧ f' = false) ∨ (x = 5 ∧ n' = n ∧ f' = true)))

/-- A log in memory, with its device: behind a call. -/
def Acted (w w' : World) (lp p : Nat) (F : List Nat) (s : St) (n : Nat) (f : Bool) : Prop :=
  ∃ F', Dev w' p F' s ∧ LogB w' lp p n f ∧ Only (lp :: F) w w' ∧ ∀ j ∈ F', (j ∈ F ∨ w.heap.size ≤ j) ∧ j < w'.heap.size

theorem commit_nil (w : World) (v : Value) : Calls Try.prog 20 #[.pointer none, v] w fun e w' => e = .returned (.int .i64 5) ∧ Only [] w w' := by
  go_enter Try.func20, Try.ntmps20
  go_wp2_with fail
  refine wp_scope_forth 0 rfl ?_
  go_wp2_with fail
  refine (refusal_nil _ _).mono ?_
  rintro e w1 ⟨rfl, rfl⟩
  have k : Only [] w (w.alloc (.cells #[.int .u32 0, .int .u32 0] 91)) := (Only.refl [] w).alloc _
  go_wp2_with fail
  go_step3
  refine ⟨rfl, ?_⟩
  go_wp2
  rw [Exit.noGoto_ret]
  go_ret
  exact ⟨rfl, k⟩

/-- A failed commit's end. -/
theorem acted_fail {w w0 w' : World} {lp p n : Nat} {F : List Nat} {s : St} (k : Only [] w w0) (hd : Did w0 w' p F s) (hlog : LogB w0 lp p n false) (hlp : lp ∉ F) (hlpw : lp < w.heap.size) :
    Acted w (w'.setCell ⟨lp, 2, none⟩ (.bool true)) lp p F s n true := by
  obtain ⟨F1, h1, h2, h3⟩ := hd
  obtain ⟨F2, k1, k2, k3⟩ := h1.trim
  have hl1 : LogB w' lp p n false := Blk.kept hlog h2 hlp
  have hlF : lp ∉ F2 := fun hm => by
    rcases h3.out lp (k2 _ hm) with h | h
    · exact hlp h
    · have := k.size; omega
  have ks : Only [lp] w' (w'.setCell ⟨lp, 2, none⟩ (.bool true)) := Only.set w' [lp] (by simp) _
  refine ⟨F2, k1.kept ks (by intro i hi; simp; rintro rfl; exact hlF hi), ?_, ?_, fun j hj => ⟨?_, by have := k3 j hj; simpa [World.setCell] using this⟩⟩
  · have := Blk.set hl1 2 (.bool true)
    simpa [LogB] using this
  · exact ((k.more (T := lp :: F) (by simp)).then h2 (fun i hi => .inl (by simp [hi]))).then ks (by simp)
  · rcases h3.out j (k2 j hj) with h | h
    · exact .inl h
    · have := k.size; exact .inr (by omega)
theorem acted_ok {w w0 w' : World} {lp p n : Nat} {x : Int} {F : List Nat} {s : St} (k : Only [] w w0) (hd : Did w0 w' p F s) (hlog : LogB w0 lp p n false) (hlp : lp ∉ F) (hlpw : lp < w.heap.size) (hx : x = ((n + 1 : Nat) : Int)) :
    Acted w (w'.setCell ⟨lp, 1, none⟩ (.int .u32 x)) lp p F s (n + 1) false := by
  obtain ⟨F1, h1, h2, h3⟩ := hd
  obtain ⟨F2, k1, k2, k3⟩ := h1.trim
  have hl1 : LogB w' lp p n false := Blk.kept hlog h2 hlp
  have hlF : lp ∉ F2 := fun hm => by
    rcases h3.out lp (k2 _ hm) with h | h
    · exact hlp h
    · have := k.size; omega
  have ks : Only [lp] w' (w'.setCell ⟨lp, 1, none⟩ (.int .u32 x)) := Only.set w' [lp] (by simp) _
  refine ⟨F2, k1.kept ks (by intro i hi; simp; rintro rfl; exact hlF hi), ?_, ?_, fun j hj => ⟨?_, by have := k3 j hj; simpa [World.setCell] using this⟩⟩
  · have := Blk.set hl1 1 (.int .u32 x)
    rw [hx] at this
    simpa [LogB, hx] using this
  · exact ((k.more (T := lp :: F) (by simp)).then h2 (fun i hi => .inl (by simp [hi]))).then ks (by simp)
  · rcases h3.out j (k2 j hj) with h | h
    · exact .inl h
    · have := k.size; exact .inr (by omega)
theorem acted_same {w w' : World} {lp p n : Nat} {f : Bool} {F : List Nat} {s : St} (hd : Dev w p F s) (hlog : LogB w lp p n f) (hF : ∀ i ∈ F, i < w.heap.size) (k : Only [] w w') : Acted w w' lp p F s n f :=
  ⟨F, hd.kept k (by simp), Blk.kept hlog k (by simp), k.more (by simp), fun j hj => ⟨.inl hj, Nat.lt_of_lt_of_le (hF j hj) k.size⟩⟩
theorem Acted.mono {w w' : World} {lp p n : Nat} {f : Bool} {F G : List Nat} {s : St} (h : Acted w w' lp p F s n f) (hG : ∀ i ∈ F, i ∈ G) : Acted w w' lp p G s n f := by
  obtain ⟨F', h1, h2, h3, h4⟩ := h
  exact ⟨F', h1, h2, h3.more (fun i hi => .inl (by rcases List.mem_cons.1 hi with rfl | hi; simp; simp [hG i hi])), fun j hj => ⟨(h4 j hj).1.imp (hG j) id, (h4 j hj).2⟩⟩

/-- A device's steps, one behind the other. -/
theorem Did.trans' {w w1 w2 : World} {p : Nat} {F F1 : List Nat} {t : St} (h : Only F w w1) (hF1 : Hid (∀ k ∈ F1, k ∈ F ∨ w.heap.size ≤ k)) (k : Did w1 w2 p F1 t) : Did w w2 p F t := by
  obtain ⟨F2, h1, h2, h3⟩ := k
  refine ⟨F2, h1, h.then h2 (fun i hi => hF1.out i hi), fun j hj => ?_⟩
  rcases h3.out j hj with h' | h'
  · exact hF1.out j h'
  · exact .inr (Nat.le_trans h.size h')

set_option maxRecDepth 100000 in
set_option maxHeartbeats 4000000 in
theorem commit_any (w : World) (lp p n : Nat) (f : Bool) (F : List Nat) (s : St) (A : Option Addr) (c : Nat) (l : List Bk) (hn : n < 4294967296) (h : LogB w lp p n f) (hd : Dev w p F s) (hlp : lp ∉ F) (hb : Blks w A l) (hl : l.length ≤ 9223372036854775807) (hc : l.length ≤ c) (hlate : s.late.length + 200 ≤ 1048576) :
    Calls Try.prog 20 #[.pointer (some ⟨lp, 0, none⟩), .slice A l.length c] w fun e w' => ∃ x s' n' f', e = .returned (.int .i64 x) ∧ CommitsTo s n f l x s' n' f' ∧ Acted w w' lp p F s' n' f' := by
  obtain ⟨F0, hd0, hsub, hF0⟩ := hd.trim
  refine Calls.mono (R := fun e w' => ∃ x s' n' f', e = .returned (.int .i64 x) ∧ CommitsTo s n f l x s' n' f' ∧ Acted w w' lp p F0 s' n' f') ?_ (fun e w' ⟨x, s', n', f', h1, h2, h3⟩ => ⟨x, s', n', f', h1, h2, h3.mono hsub⟩)
  have hlp0 : lp ∉ F0 := fun hm => hlp (hsub _ hm)
  clear hd hlp hsub F
  rename List Nat => F
  rename Dev w p F s => hd
  have hlpw := Blk.lt h
  have hpre := fun W (k : Only [] w W) => refusal_any W lp p n f F s A c l (Blk.kept h k (by simp)) (hd.kept k (by simp)) (hb.kept k (by simp)) hl hc
  obtain ⟨m, hm⟩ : ∃ m, m = w.heap.size := ⟨_, rfl⟩
  have km : Only [] w (w.alloc (.cells #[.int .u32 0, .int .u32 0] 91)) := (Only.refl [] w).alloc _
  have bm : Blk (w.alloc (.cells #[.int .u32 0, .int .u32 0] 91)) m 91 #[.int .u32 0, .int .u32 0] := by rw [hm]; exact Blk.new w _ _
  obtain ⟨z, hz⟩ : ∃ z : Int, z = (n : Int) := ⟨_, rfl⟩
  replace hn := Lib.hid hn
  replace hlate := Lib.hid hlate
  replace hF0 := Lib.hid hF0
  replace hpre := Lib.hid hpre
  replace hz := Lib.hid hz
  go_enter Try.func20, Try.ntmps20
  go_wp2_with fail
  refine wp_scope_forth 0 rfl ?_
  go_wp2_with fail
  simp only [← hm]
  generalize w.alloc (.cells #[.int .u32 0, .int .u32 0] 91) = W at *
  have hmw : w.heap.size ≤ m := by omega
  replace hm := Lib.hid hm
  refine (hpre.out W km).mono ?_
  rintro e w1 ⟨⟨x, rfl, hx⟩, k1⟩
  have kw1 := km.trans k1
  by_cases hx0 : x = 0
  · subst hx0
    have hx' := hx
    simp only [Refusal] at hx'
    have hok : RightL l ((s.firm.length : Int) - 41) ∧ f = false ∧ n ≠ 4294967295 := by
      rcases hx' with ⟨_, h⟩ | ⟨_, _, h⟩ | ⟨_, _, _, h⟩ | ⟨h1, h2, h3, _⟩
      · omega
      · omega
      · omega
      · exact ⟨h1, h2, h3⟩
    clear hx'
    obtain ⟨hright, hf, hnm⟩ := hok
    rw [hf] at h
    have hlog1 : LogB w1 lp p n false := Blk.kept h kw1 (by simp)
    obtain ⟨l0, l1, l2⟩ := hlog1.cells
    rw [← hz.out] at l1
    have hall := right_all hright
    have hN := right_size hright
    have hl40 : l.length ≤ 40 := hright.2.1
    have hl40' : (l.length : Int) ≤ 40 := by omega
    have bm1 := bm.kept k1 (by simp)
    have f0 := bm1.free 0
    have f1 := bm1.free 1
    have hz0 : 0 ≤ z := by have := hz.out; omega
    have hz1 : z < 4294967295 := by have := hz.out; have := hn.out; omega
    have hzz : IntKind.u32.wrap (z + 1) = z + 1 := by rw [IntKind.wrap_u32]; omega
    have b0 := bm1.cell 0
    have b1 := bm1.cell 1
    simp only [List.getElem?_toArray, List.getElem?_cons_zero, List.getElem?_cons_succ] at b0 b1
    replace hx := Lib.hid hx
    replace hall := Lib.hid hall
    replace hright := Lib.hid hright
    replace hN := Lib.hid hN
    replace hf := Lib.hid hf
    replace hnm := Lib.hid hnm
    replace hlog1 := Lib.hid hlog1
    replace hl := Lib.hid hl
    replace hl40 := Lib.hid hl40
    go_wp2_with fail
    have k2 : Only [m] w1 ((w1.setCell ⟨m, 0, none⟩ (.int .u32 (z + 1))).setCell ⟨m, 1, none⟩ (.int .u32 (l.length : Int))) := ((Only.refl [m] w1).setCell (.inl (by simp)) _).setCell (.inl (by simp)) _
    have bm2 := Blk.set (Blk.set bm1 0 (.int .u32 (z + 1))) 1 (.int .u32 (l.length : Int))
    simp only [List.setIfInBounds_toArray, List.set_cons_zero, List.set_cons_succ] at bm2
    generalize (w1.setCell ⟨m, 0, none⟩ (.int .u32 (z + 1))).setCell ⟨m, 1, none⟩ (.int .u32 (l.length : Int)) = W2 at *
    have hlpm : lp ≠ m := by omega
    have kw2 : Only [] w W2 := kw1.then k2 (by simp; exact hmw)
    have hlog2 := Blk.kept hlog1.out k2 (by simp; exact hlpm)
    have hd2 := hd.kept kw2 (by simp)
    have hb2 := hb.kept kw2 (by simp)
    have hz2 : z + 1 = ((n + 1 : Nat) : Int) := by have := hz.out; omega
    have hn2 : n + 1 < 4294967296 := by have := hn.out; have := hnm.out; omega
    have hch := changed_any W2 A c l (n + 1) hn2 hb2 (by have := hl40.out; omega) (fun y hy => by have := hall.out y hy; have := hd.fine.few; omega)
    rw [← hz2] at hch
    have hthere := homes_there (n := n + 1) hall.out
    have hcthere := copies_there (n := n + 1) hl40.out hN.out (fun y hy => (hall.out y hy).2)
    have hhl := homesOf_length (n + 1) l
    generalize hhs : homesOf (n + 1) l = hs at *
    have hcl := copiesOf_length hs
    replace hhs := Lib.hid hhs
    replace hthere := Lib.hid hthere
    replace hcthere := Lib.hid hcthere
    replace hz2 := Lib.hid hz2
    replace hn2 := Lib.hid hn2
    have hcl40 : (copiesOf hs).length ≤ 40 := by have := hl40.out; omega
    have hhl40 : hs.length ≤ 40 := by have := hl40.out; omega
    replace hhl := Lib.hid hhl
    replace hcl := Lib.hid hcl
    replace hcl40 := Lib.hid hcl40
    replace hhl40 := Lib.hid hhl40
    replace hd2 := Lib.hid hd2
    clear hb2 k1 k2 km bm bm1 f0 f1 b0 b1 l0 l1 l2 hlog1
    refine hch.mono ?_
    rintro e w3 ⟨v1, rfl, A1, c1, rfl, hbl1, k3, hnew1⟩
    have kw3 := kw2.trans k3
    have hlog3 := Blk.kept hlog2 k3 (by simp)
    have bm3 := bm2.kept k3 (by simp)
    have hd3 := hd.kept kw3 (by simp)
    have hA1 : ∀ a, A1 = some a → a.block ∉ F := fun a ha hm => by
      have := hnew1 a ha
      have := hF0.out _ hm
      have := kw2.size
      omega
    clear hch bm2 hd2
    go_wp2_with fail
    have kd : Only [] w3 w3.drew := (Only.refl [] w3).drew
    have l0 := (LogB.cells hlog3).1
    refine wp_region_held_drew (S := fun w' => w'.cell? ⟨lp, 0, none⟩ = some (.pointer (some ⟨p, 0, none⟩))) (by kernel_rfl) (kd.cell l0 (by simp)) (fun hHeld => ?_)
    refine held_take 0 (.pointer (some ⟨lp, 0, none⟩)) rfl (by kernel_rfl) (by kernel_rfl) (by kernel_rfl) (fun _ _ _ h => h) hHeld (Or.inl ⟨by rfl, fun w' hSw => by (try dsimp only at hSw); (try subst hSw); go_simp⟩) ?_
    simp only [Act.put, List.setIfInBounds_toArray, List.set_cons_zero, List.set_cons_succ]
    refine held_take 1 (.pointer (some ⟨lp, 0, none⟩)) rfl (by kernel_rfl) (by kernel_rfl) (by kernel_rfl) (fun _ _ _ h => h) hHeld (Or.inl ⟨by rfl, fun w' hSw => by (try dsimp only at hSw); (try subst hSw); go_simp⟩) ?_
    simp only [Act.put, List.setIfInBounds_toArray, List.set_cons_zero, List.set_cons_succ]
    refine held_take 2 (.pointer (some ⟨lp, 0, none⟩)) rfl (by kernel_rfl) (by kernel_rfl) (by kernel_rfl) (fun _ _ _ h => h) hHeld (Or.inl ⟨by rfl, fun w' hSw => by (try dsimp only at hSw); (try subst hSw); go_simp⟩) ?_
    simp only [Act.put, List.setIfInBounds_toArray, List.set_cons_zero, List.set_cons_succ]
    refine held_take 3 (.pointer (some ⟨p, 0, none⟩)) rfl (by kernel_rfl) (by kernel_rfl) (by kernel_rfl) (fun _ _ _ h => h) hHeld (Or.inl ⟨by rfl, fun w' hSw => by (try dsimp only at hSw); (try subst hSw); go_simp⟩) ?_
    simp only [Act.put, List.setIfInBounds_toArray, List.set_cons_zero, List.set_cons_succ]
    refine held_take 4 (.slice A1 hs.length c1) rfl (by kernel_rfl) (by kernel_rfl) (by kernel_rfl) (fun _ _ _ h => h) hHeld (Or.inl ⟨by rfl, fun w' hSw => by (try dsimp only at hSw); (try subst hSw); go_simp⟩) ?_
    simp only [Act.put, List.setIfInBounds_toArray, List.set_cons_zero, List.set_cons_succ]
    refine held_step 5 rfl (by kernel_rfl) (fun K hK => ?_)
    go_simp
    go_at_call 44
    refine (copies_any _ A1 c1 hs (hbl1.kept kd (by simp)) (by have := hhl40.out; omega)).mono ?_
    rintro e w4 ⟨v2, rfl, A2, c2, rfl, hbl2, k4, hnew2⟩
    go_wp2_with fail
    refine hK.out _ _ (k4.cell (kd.cell l0 (by simp)) (by simp)) (fun hHeld => ?_)
    clear hK K
    have kw4 := (kw3.trans kd).trans k4
    have hA2 : ∀ a, A2 = some a → a.block ∉ F := fun a ha hm => by
      have h1 := hnew2 a ha
      have h2 := hF0.out _ hm
      have h3 := kw3.size
      have h4 := kd.size
      omega
    refine held_step 6 rfl (by kernel_rfl) (fun K hK => ?_)
    go_simp
    go_at_call 41
    refine (wsettle_any w4 p F s A2 c2 (copiesOf hs) (hd.kept kw4 (by simp)) hbl2 hA2 (by have := hlate.out; have := hcl40.out; omega)).mono ?_
    rintro e w5 ⟨rfl, hdid5⟩
    have hlog4 := (Blk.kept (Blk.kept hlog3 kd (by simp)) k4 (by simp))
    have bm4 := ((bm3.kept kd (by simp)).kept k4 (by simp))
    have hbl4 := (hbl1.kept kd (by simp)).kept k4 (by simp)
    have hmF : m ∉ F := fun hm => by have := hF0.out _ hm; omega
    have l5 := hdid5.cell (LogB.cells hlog4).1 hlp0
    go_wp2_with fail
    refine hK.out _ _ l5 (fun hHeld => ?_)
    clear hK K
    refine held_take 7 (.int .i64 (settleW s (copiesOf hs)).1) rfl (by kernel_rfl) (by kernel_rfl) (by kernel_rfl) (fun _ _ _ h => h) hHeld (Or.inl ⟨by rfl, fun w' hSw => by (try dsimp only at hSw); (try subst hSw); go_simp⟩) ?_
    simp only [Act.put, List.setIfInBounds_toArray, List.set_cons_zero, List.set_cons_succ]
    refine wpAnyH_done (by kernel_rfl) ?_ _
    clear hHeld
    clear hbl2 k4 kd hnew2 hA2 l0 l5
    have herr1 := settleW_err (copiesOf hs) s hcthere.out
    have hlate1 := settleW_late (copiesOf hs) s
    have hfl1 := settleW_firm_len (copiesOf hs) s
    generalize hr1 : settleW s (copiesOf hs) = r1 at *
    obtain ⟨x1, s1⟩ := r1
    simp only at herr1 hlate1 hfl1 hdid5 ⊢
    replace hr1 := Lib.hid hr1
    by_cases hx1 : x1 = 0
    · subst hx1
      have hblk : ∀ W, Calls Try.prog 45 #[.agg #[.int .u32 (z + 1), .int .u32 (l.length : Int)]] W fun e w' => e = .returned (.string (strOf (markL (n + 1) l.length))) ∧ Only [] W w' := fun W => by
        have := block_any W (n + 1) l.length hn2.out (by have := hl40.out; omega)
        rwa [← hz2.out] at this
      obtain ⟨F5a, hd5a, k5, f5a⟩ := id hdid5
      obtain ⟨F5, hd5, hsub5, hlt5⟩ := hd5a.trim
      have f5 : Hid (∀ i ∈ F5, i ∈ F ∨ w4.heap.size ≤ i) := fun i hi => f5a.out i (hsub5 i hi)
      clear hd5a f5a hsub5
      have hlog5 : LogB w5 lp p n false := Blk.kept hlog4 k5 hlp0
      have bm5 := bm4.kept k5 hmF
      obtain ⟨g1, o1, rfl, hg1, _⟩ := hbl4.get (i := 0) (by have := hhl.out; have := hright.out.1; omega)
      have hF5 : ∀ i ∈ F5, i ∈ F ∨ w4.heap.size ≤ i := f5.out
      have hmF5 : m ∉ F5 := fun h => by
        rcases hF5 m h with h | h
        · exact hmF h
        · have := bm4.lt; omega
      have hlpF5 : lp ∉ F5 := fun h => by
        rcases hF5 lp h with h | h
        · exact hlp0 h
        · have := Blk.lt hlog4; omega
      have hg1F : g1 ∉ F := hA1 _ rfl
      have hg1F5 : g1 ∉ F5 := fun h => by
        rcases hF5 g1 h with h | h
        · exact hg1F h
        · omega
      have hbl5 := hbl4.kept k5 (fun a ha => by injection ha with ha; subst ha; exact hg1F)
      have hlate5 : s1.late.length + 2 ≤ 1048576 := by have := hlate.out; have := hcl40.out; omega
      have l0 := (LogB.cells hlog5).1
      have m0 := bm5.cell 0
      have m1 := bm5.cell 1
      simp only [List.getElem?_toArray, List.getElem?_cons_zero, List.getElem?_cons_succ] at m0 m1
      have hml := markL_length (n + 1) l.length
      generalize hM : markL (n + 1) l.length = ML at *
      replace hblk := Lib.hid hblk
      replace hM := Lib.hid hM
      clear hbl1 hbl4 bm3 bm4 hlog3 k3 hd3 hnew1
      go_wp2_with fail
      have kd : Only [] w5 w5.drew := (Only.refl [] w5).drew
      refine wp_region_held_drew (S := fun w' => w'.cell? ⟨lp, 0, none⟩ = some (.pointer (some ⟨p, 0, none⟩)) ∧ w'.cell? ⟨m, 0, none⟩ = some (.int .u32 (z + 1)) ∧ w'.cell? ⟨m, 1, none⟩ = some (.int .u32 (l.length : Int))) (by kernel_rfl) ⟨kd.cell l0 (by simp), kd.cell m0 (by simp), kd.cell m1 (by simp)⟩ (fun hHeld => ?_)
      refine held_take 0 (.pointer (some ⟨lp, 0, none⟩)) rfl (by kernel_rfl) (by kernel_rfl) (by kernel_rfl) (fun _ _ _ h => h) hHeld (Or.inl ⟨by rfl, fun w' hSw => by (try dsimp only at hSw); (try subst hSw); go_simp⟩) ?_
      simp only [Act.put, List.setIfInBounds_toArray, List.set_cons_zero, List.set_cons_succ]
      refine held_take 1 (.pointer (some ⟨lp, 0, none⟩)) rfl (by kernel_rfl) (by kernel_rfl) (by kernel_rfl) (fun _ _ _ h => h) hHeld (Or.inl ⟨by rfl, fun w' hSw => by (try dsimp only at hSw); (try subst hSw); go_simp⟩) ?_
      simp only [Act.put, List.setIfInBounds_toArray, List.set_cons_zero, List.set_cons_succ]
      refine held_take 2 (.pointer (some ⟨lp, 0, none⟩)) rfl (by kernel_rfl) (by kernel_rfl) (by kernel_rfl) (fun _ _ _ h => h) hHeld (Or.inl ⟨by rfl, fun w' hSw => by (try dsimp only at hSw); (try subst hSw); go_simp⟩) ?_
      simp only [Act.put, List.setIfInBounds_toArray, List.set_cons_zero, List.set_cons_succ]
      refine held_take 3 (.pointer (some ⟨p, 0, none⟩)) rfl (by kernel_rfl) (by kernel_rfl) (by kernel_rfl) (fun _ _ _ h => h) hHeld (Or.inl ⟨by rfl, fun w' hSw => by (try dsimp only at hSw); (try subst hSw); go_simp⟩) ?_
      simp only [Act.put, List.setIfInBounds_toArray, List.set_cons_zero, List.set_cons_succ]
      refine held_take 4 (.agg #[.int .u32 (z + 1), .int .u32 (l.length : Int)]) rfl (by kernel_rfl) (by kernel_rfl) (by kernel_rfl) (fun _ _ _ h => h) hHeld (Or.inl ⟨by rfl, fun w' hSw => by (try dsimp only at hSw); (try subst hSw); go_simp⟩) ?_
      simp only [Act.put, List.setIfInBounds_toArray, List.set_cons_zero, List.set_cons_succ]
      refine held_step 5 rfl (by kernel_rfl) (fun K hK => ?_)
      go_simp
      go_at_call 45
      refine (hblk.out _).mono ?_
      rintro e w6 ⟨rfl, k6⟩
      go_wp2_with fail
      refine hK.out _ _ ⟨k6.cell (kd.cell l0 (by simp)) (by simp), k6.cell (kd.cell m0 (by simp)) (by simp), k6.cell (kd.cell m1 (by simp)) (by simp)⟩ (fun hHeld => ?_)
      clear hK K
      have k56 := kd.trans k6
      generalize hMs : strOf ML = M at *
      refine held_take 6 (.agg #[.int .i64 0, .string M]) rfl (by kernel_rfl) (by kernel_rfl) (by kernel_rfl) (fun _ _ _ h => h) hHeld (Or.inl ⟨by rfl, fun w' hSw => by (try dsimp only at hSw); (try subst hSw); go_simp⟩) ?_
      simp only [Act.put, List.setIfInBounds_toArray, List.set_cons_zero, List.set_cons_succ]
      refine held_step 7 rfl (by kernel_rfl) (fun K hK => ?_)
      go_simp
      have ka : Only [] w6 (w6.alloc (.cells #[.int .i64 0, .string M] 100)) := (Only.refl [] w6).alloc _
      have ba : Blk (w6.alloc (.cells #[.int .i64 0, .string M] 100)) w6.heap.size 100 #[.int .i64 0, .string M] := Blk.new _ _ _
      obtain ⟨g2, hg2⟩ : ∃ g, g = w6.heap.size := ⟨_, rfl⟩
      rw [← hg2] at ba
      generalize w6.alloc (.cells #[.int .i64 0, .string M] 100) = w7 at *
      have k57 := k56.trans ka
      refine hK.out _ _ ⟨k57.cell l0 (by simp), k57.cell m0 (by simp), k57.cell m1 (by simp)⟩ (fun hHeld => ?_)
      clear hK K
      have hblM : Blks w7 (some ⟨g2, 0, none⟩) [⟨0, ML⟩] := by
        refine ⟨.inr ⟨g2, 0, rfl, ba.lt, fun i hi => ?_⟩, fun y hy => ?_⟩
        · have hi0 : i = 0 := by simpa using hi
          subst hi0
          have q0 := ba.cell 0
          have q1 := ba.cell 1
          simp only [List.getElem?_toArray, List.getElem?_cons_zero, List.getElem?_cons_succ] at q0 q1
          exact ⟨q0, by rw [List.getElem_cons_zero, hMs]; exact q1⟩
        · simp only [List.mem_singleton] at hy
          subst hy
          exact ⟨⟨by simp only; omega, by simp only; omega⟩, by simp only; omega⟩
      have hg2F5 : g2 ∉ F5 := fun h => by
        have := hlt5 _ h
        have := k56.size
        omega
      rw [hg2] at hblM hg2F5
      refine held_step 8 rfl (by kernel_rfl) (fun K hK => ?_)
      go_simp
      go_at_call 41
      refine (wsettle_any w7 p F5 s1 (some ⟨w6.heap.size, 0, none⟩) 1 [⟨0, ML⟩] (hd5.kept k57 (by simp)) hblM (fun a ha => by injection ha with ha; subst ha; exact hg2F5) (by simp; omega)).mono ?_
      rintro e w8 ⟨rfl, hdid8⟩
      have hdid58 := hdid8.from k57
      obtain ⟨F8a, hd8a, k58, f8a⟩ := id hdid58
      obtain ⟨F8, hd8, hsub8, hlt8⟩ := hd8a.trim
      have f8 : Hid (∀ i ∈ F8, i ∈ F5 ∨ w5.heap.size ≤ i) := fun i hi => f8a.out i (hsub8 i hi)
      clear hd8a f8a hsub8
      have hdid48 := Did.trans' k5 f5 hdid58
      have hlog8 : LogB w8 lp p n false := Blk.kept hlog5 k58 hlpF5
      have bm8 := bm5.kept k58 hmF5
      have hbl8 := hbl5.kept k58 (fun a ha => by injection ha with ha; subst ha; exact hg1F5)
      have hlpF8 : lp ∉ F8 := fun h => by
        rcases f8.out lp h with h | h
        · exact hlpF5 h
        · have := Blk.lt hlog5; omega
      have hg1F8 : g1 ∉ F8 := fun h => by
        rcases f8.out g1 h with h | h
        · exact hg1F5 h
        · have := k5.size; omega
      go_wp2_with fail
      refine hK.out _ _ ⟨(LogB.cells hlog8).1, by simpa using bm8.cell 0, by simpa using bm8.cell 1⟩ (fun hHeld => ?_)
      clear hK K
      refine held_take 9 (.int .i64 (settleW s1 [⟨0, ML⟩]).1) rfl (by kernel_rfl) (by kernel_rfl) (by kernel_rfl) (fun _ _ _ h => h) hHeld (Or.inl ⟨by rfl, fun w' hSw => by (try dsimp only at hSw); (try subst hSw); go_simp⟩) ?_
      simp only [Act.put, List.setIfInBounds_toArray, List.set_cons_zero, List.set_cons_succ]
      refine wpAnyH_done (by kernel_rfl) ?_ _
      clear hHeld
      have hthere1 : ∀ y ∈ [(⟨0, ML⟩ : Bk)], hasBlock s1.firm.length y.at_ = true ∧ y.data.length = 256 := by
        intro y hy
        simp only [List.mem_singleton] at hy
        subst hy
        exact ⟨by simp only [hasBlock, decide_eq_true_eq]; have := hN.out; omega, hml⟩
      have herr2 := settleW_err _ s1 hthere1
      have hlate2 := settleW_late [⟨0, ML⟩] s1
      have hfl2 := settleW_firm_len [⟨0, ML⟩] s1
      generalize hr2 : settleW s1 [⟨0, ML⟩] = r2 at *
      obtain ⟨x2, s2⟩ := r2
      simp only at herr2 hlate2 hfl2 hd8 hdid48 hdid58 hdid8 ⊢
      replace hr2 := Lib.hid hr2
      clear hblM ba ka hdid8 hdid58 k6 k56 k57 kd hHeld
      by_cases hx2 : x2 = 0
      · subst hx2
        have hcw' : commitW s n l = settleW s2 hs := by
          rw [commitW_3 (by rw [hhs.out]; exact hr1.out) (by rw [hM.out]; exact hr2.out), hhs.out]
        have l08 := (LogB.cells hlog8).1
        have hsetF := wsettle_any w8 p F8 s2 (some ⟨g1, o1, none⟩) c1 hs hd8 hbl8 (fun a ha => by injection ha with ha; subst ha; exact hg1F8) (by have := hhl40.out; have := hlate.out; have := hcl40.out; simp at hlate2; omega)
        have herr3 := settleW_err hs s2 (by rw [hfl2, hfl1]; exact hthere.out)
        generalize hr3 : settleW s2 hs = r3 at *
        obtain ⟨x3, s3⟩ := r3
        simp only at herr3 hsetF
        replace hsetF := Lib.hid hsetF
        go_wp2_with fail
        refine hsetF.out.mono ?_
        rintro e w9 ⟨rfl, hdid9⟩
        have hlog9 : LogB w9 lp p n false := by
          obtain ⟨_, _, kE, _⟩ := hdid9
          exact Blk.kept hlog8 kE hlpF8
        have bm9 : Blk w9 m 91 #[.int .u32 (z + 1), .int .u32 (l.length : Int)] := by
          obtain ⟨_, _, kE, _⟩ := hdid9
          refine bm8.kept kE (fun h => ?_)
          rcases f8.out m h with h | h
          · exact hmF5 h
          · have := bm5.lt; omega
        have hf8F : Hid (∀ i ∈ F8, i ∈ F ∨ w4.heap.size ≤ i) := fun i hi => by
          rcases f8.out i hi with h | h
          · exact f5.out i h
          · have := k5.size; exact .inr (by omega)
        have k48 : Only F w4 w8 := k5.then k58 (fun i hi => f5.out i hi)
        have hdid49 := Did.trans' k48 hf8F hdid9
        clear hdid9 hsetF hbl5 hbl8 hd5 hd8 hdid5
        by_cases hx3 : x3 = 0
        · subst hx3
          have hlogE := hlog9
          have frE := Blk.free hlogE 1
          have lE := (LogB.cells hlogE).2.1
          have mE := bm9.cell 0
          simp only [List.getElem?_toArray, List.getElem?_cons_zero] at mE
          have hend := acted_ok kw4 hdid49 hlog4 hlp0 hlpw hz2.out
          have hcom : CommitsTo s n f l 0 s3 (n + 1) false := .inr ⟨hx.out, by rw [hcw'], by rw [hcw'], .inl ⟨rfl, rfl, rfl⟩⟩
          replace hcom := Lib.hid hcom
          replace hend := Lib.hid hend
          clear hdid49 hdid48 hlogE hcw' hlog4 hlog5 hlog8 hlog9 bm5 bm8 bm9
          go_wp2
          rw [Forth.ret]
          go_ret
          exact ⟨0, s3, n + 1, false, rfl, hcom.out, hend.out⟩
        · obtain rfl : x3 = 5 := herr3.resolve_left hx3
          have hlogE : LogB w9 lp p n false := by
            obtain ⟨_, _, kE, _⟩ := hdid49
            exact Blk.kept hlog4 kE hlp0
          have frE := Blk.free hlogE 2
          have lE := (LogB.cells hlogE).2.2
          have hend := acted_fail kw4 hdid49 hlog4 hlp0 hlpw
          have hcom : CommitsTo s n f l 5 s3 n true := .inr ⟨hx.out, by rw [hcw'], by rw [hcw'], .inr ⟨rfl, rfl, rfl⟩⟩
          replace hcom := Lib.hid hcom
          replace hend := Lib.hid hend
          clear hdid49 hlogE hcw'
          go_wp2_with fail
          go_step3
          refine ⟨rfl, ?_⟩
          go_wp2
          rw [Exit.noGoto_ret]
          go_ret
          exact ⟨5, s3, n, true, rfl, hcom.out, hend.out⟩
      · obtain rfl : x2 = 5 := herr2.resolve_left hx2
        have hcw' : commitW s n l = (5, s2) := commitW_2 (by rw [hhs.out]; exact hr1.out) (by rw [hM.out]; exact hr2.out) (by decide)
        have hlogE : LogB w8 lp p n false := by
          obtain ⟨_, _, kE, _⟩ := hdid48
          exact Blk.kept hlog4 kE hlp0
        have frE := Blk.free hlogE 2
        have lE := (LogB.cells hlogE).2.2
        have hend := acted_fail kw4 hdid48 hlog4 hlp0 hlpw
        have hcom : CommitsTo s n f l 5 s2 n true := .inr ⟨hx.out, by rw [hcw'], by rw [hcw'], .inr ⟨rfl, rfl, rfl⟩⟩
        replace hcom := Lib.hid hcom
        replace hend := Lib.hid hend
        clear hdid48 hlogE hcw'
        go_wp2_with fail
        go_step3
        refine ⟨rfl, ?_⟩
        go_wp2
        rw [Exit.noGoto_ret]
        go_ret
        exact ⟨5, s2, n, true, rfl, hcom.out, hend.out⟩
    · obtain rfl : x1 = 5 := herr1.resolve_left hx1
      have hcw' : commitW s n l = (5, s1) := commitW_1 (by rw [hhs.out]; exact hr1.out) (by decide)
      have hlogE : LogB w5 lp p n false := by
        obtain ⟨_, _, kE, _⟩ := hdid5
        exact Blk.kept hlog4 kE hlp0
      have frE := Blk.free hlogE 2
      have lE := (LogB.cells hlogE).2.2
      have hend := acted_fail kw4 hdid5 hlog4 hlp0 hlpw
      have hcom : CommitsTo s n f l 5 s1 n true := .inr ⟨hx.out, by rw [hcw'], by rw [hcw'], .inr ⟨rfl, rfl, rfl⟩⟩
      replace hcom := Lib.hid hcom
      replace hend := Lib.hid hend
      clear hdid5 hlogE hcw'
      go_wp2_with fail
      go_step3
      refine ⟨rfl, ?_⟩
      go_wp2
      rw [Exit.noGoto_ret]
      go_ret
      exact ⟨5, s1, n, true, rfl, hcom.out, hend.out⟩
  · have hcom : CommitsTo s n f l x s n f := .inl ⟨hx0, hx, rfl, rfl, rfl⟩
    have hend := acted_same hd h hF0.out kw1
    have hx5 : x = 5 → f = true := by
      intro h5
      rcases hx with ⟨_, h⟩ | ⟨_, h, _⟩ | ⟨_, _, _, h⟩ | ⟨_, _, _, h⟩
      · omega
      · exact h
      · omega
      · omega
    have hx0' : (x != 0) = true := by simpa using hx0
    replace hcom := Lib.hid hcom
    replace hx := Lib.hid hx
    by_cases h5 : x = 5
    · have hf := hx5 h5
      subst h5
      have hlogE : LogB w1 lp p n f := Blk.kept h kw1 (by simp)
      have frE := Blk.free hlogE 2
      have lE := (LogB.cells hlogE).2.2
      have hend2 : Acted w (w1.setCell ⟨lp, 2, none⟩ (.bool true)) lp p F s n f := by
        rw [hf] at hlogE ⊢
        have ks : Only [lp] w1 (w1.setCell ⟨lp, 2, none⟩ (.bool true)) := Only.set w1 [lp] (by simp) _
        refine ⟨F, (hd.kept kw1 (by simp)).kept ks (by intro i hi; simp; rintro rfl; exact hlp0 hi), ?_, (kw1.more (by simp)).trans (ks.more (by simp)), fun j hj => ⟨.inl hj, ?_⟩⟩
        · have := Blk.set hlogE 2 (.bool true)
          simpa [LogB] using this
        · have := hF0.out j hj
          have := kw1.size
          simp [World.setCell]
          omega
      replace hend2 := Lib.hid hend2
      replace hx5 := Lib.hid hx5
      replace hf := Lib.hid hf
      clear hend hlogE
      go_wp2_with fail
      go_step3
      refine ⟨rfl, ?_⟩
      go_wp2
      rw [Exit.noGoto_ret]
      go_ret
      exact ⟨5, s, n, f, rfl, hcom.out, hend2.out⟩
    · have h5' : (x == 5) = false := by simpa using h5
      replace hend := Lib.hid hend
      replace hx5 := Lib.hid hx5
      go_wp2_with fail
      go_step3
      refine ⟨rfl, ?_⟩
      go_wp2
      rw [Exit.noGoto_ret]
      go_ret
      exact ⟨x, s, n, f, rfl, hcom.out, hend.out⟩

end Go.Proofs.Ytihoebmfanelkaa
