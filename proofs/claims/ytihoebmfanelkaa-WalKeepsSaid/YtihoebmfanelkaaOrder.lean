/- WalOrder: the order of a commit's blocks counts for nothing in the data behind it. -/
import Derived.Test.YtihoebmfanelkaaLaw2
namespace Go.Proofs.Ytihoebmfanelkaa
open Go.RowKit

theorem wkCells_length (l : List Bk) : (wkCells l).length = l.length * 2 := by
  unfold wkCells
  rw [flat_len 2 _ (by intro b hb; simp only [List.mem_map] at hb; obtain ⟨y, _, rfl⟩ := hb; rfl)]
  simp
theorem wkCells_append (l m : List Bk) : wkCells (l ++ m) = wkCells l ++ wkCells m := by simp [wkCells]
theorem wkCells_one (l : List Bk) : ∀ u ∈ wkCells l, u.oneCell' = true := by
  intro u hu
  simp only [wkCells, List.mem_flatten, List.mem_map] at hu
  obtain ⟨b, ⟨x, _, rfl⟩, hu⟩ := hu
  simp at hu
  rcases hu with rfl | rfl <;> rfl
theorem blks_news {w : World} {g o : Nat} {l : List Bk} (h : BlksAt w g o l) : ∀ j u, (wkCells l)[j]? = some u → w.cell? ((⟨g, o, none⟩ : Addr).add j) = some u := by
  intro j u hu
  rw [addr_add]
  have hj : j < l.length * 2 := by
    have := (List.getElem?_eq_some_iff.1 hu).1
    rwa [wkCells_length] at this
  have hi : j / 2 < l.length := by omega
  obtain ⟨r1, r2⟩ := wkCells_at l (j / 2) l[j / 2] (List.getElem?_eq_getElem hi)
  obtain ⟨c1, c2⟩ := h (j / 2) hi
  rcases Nat.mod_two_eq_zero_or_one j with hm | hm
  · have e : j / 2 * 2 = j := by omega
    rw [e] at r1 c1
    rw [r1] at hu
    rw [c1, hu]
  · have e : j / 2 * 2 + 1 = j := by omega
    rw [e] at r2
    rw [show o + j / 2 * 2 + 1 = o + j by omega] at c2
    rw [r2] at hu
    rw [c2, hu]

section
variable {P : Program} (w : World)
/-- 'append(s, y...)' of two-celled elements. -/
theorem wpList_append_blks {ops : Array Oper} {rest : List Oper} {o : Oper} {a : Act} {Q : Exit → Act → World → Prop} (hgd : o.guard = none) (s y : Operand) (t : TypeId)
    (ho : o.op = .call { callee := .builtin .append, args := #[s, y], argTypes := #[t, t] })
    (e : TypeId) (z : Value) (bytes : Nat) (ht : P.underlying t = some (.slice e)) (hinfo : (P.info? e).map (fun i => (i.zero, i.size, i.bytes)) = some (some z, 2, bytes)) (hzs : z.cells.size = 2)
    (v : Value) (n : Nat) (xs : List Bk) (hs : a.eval s = v) (hown : w.ownsRow 0 e 2 v n (wkCells xs))
    (g p m c : Nat) (ys : List Bk) (hm : m = ys.length) (hx : a.eval y = .slice (some ⟨g, p, none⟩) m c) (hsrc : BlksAt w g p ys)
    (h63 : n + m ≤ maxLen) (hbytes : (n + m) * bytes ≤ 140737488355328)
    (h : ∀ v' w', w'.ownsRow 0 e 2 v' (n + m) (wkCells (xs ++ ys)) → w.grownBy w' v.ownBlock → (v'.ownBlock = v.ownBlock ∨ v'.ownBlock = some w.heap.size) → wpList P ops Q rest (a.put o.dst v') w') : wpList P ops Q (o :: rest) a w := by
  subst hm
  refine wpList_plain hgd fun K hK => ?_
  obtain ⟨i, hi, hz0, hz1, hz2⟩ := info_parts hinfo
  obtain ⟨v', w', hrun, h2, h3, _, h4⟩ := run_append_own_at (P := P) w 0 t o.type e i z 2 bytes ht hi hz0 hz1 hz2 hzs (by decide) v n (wkCells xs) hown ⟨g, p, none⟩ ys.length c (wkCells ys) (wkCells_length ys) (blks_news hsrc) (wkCells_one ys) h63 hbytes (Nat.zero_le _)
  rw [← wkCells_append] at h2
  unfold Oper.wp execOp
  simp only [ho, resolve, invoke, builtin, Sem.run_bind, Sem.run_pure, Result.andThen_ok, List.map_toArray, List.map_cons, List.map_nil, hs, hx, hrun]
  exact hK _ _ (h v' w' h2 h3 h4)
end

theorem BlksAt.drop {w : World} {g o : Nat} {l : List Bk} (h : BlksAt w g o l) (k : Nat) : BlksAt w g (o + k * 2) (l.drop k) := by
  intro i hi
  have hi' : k + i < l.length := by simp at hi; omega
  obtain ⟨c0, c1⟩ := h (k + i) hi'
  have e1 : o + k * 2 + i * 2 = o + (k + i) * 2 := by omega
  rw [e1]
  simp only [List.getElem_drop]
  exact ⟨c0, c1⟩
theorem BlksAt.take {w : World} {g o : Nat} {l : List Bk} (h : BlksAt w g o l) (k : Nat) : BlksAt w g o (l.take k) := by
  intro i hi
  have hi' : i < l.length := by simp at hi; omega
  obtain ⟨c0, c1⟩ := h i hi'
  simp only [List.getElem_take]
  exact ⟨c0, c1⟩
theorem BlksAt.kept {S : List Nat} {w w' : World} {g o : Nat} {l : List Bk} (h : BlksAt w g o l) (k : Only S w w') (hg : g ∉ S) : BlksAt w' g o l :=
  fun i hi => ⟨k.cell (h i hi).1 hg, k.cell (h i hi).2 hg⟩

theorem zero_ablock : (Try.prog.info? 64).map (fun i => (i.zero, i.size, i.bytes)) = some (some (.agg #[.int .i64 0, .string ⟨#[]⟩]), 2, 24) := by kernel_rfl

/-- Whether blocks may be committed does not hang on their order. -/
theorem right_perm {l m : List Bk} {N : Int} (h : RightL l N) (hlen : m.length = l.length) (hmem : ∀ x ∈ m, x ∈ l) (hnd : ∀ i j (hi : i < m.length) (hj : j < m.length), j < i → m[j].at_ ≠ m[i].at_) : RightL m N := by
  refine ⟨by rw [hlen]; exact h.1, by rw [hlen]; exact h.2.1, fun i hi x hx => ?_⟩
  have hxi : x = m[i] := by
    rw [List.getElem?_eq_getElem hi] at hx
    injection hx with hx
    exact hx.symm
  have hxl := hmem x (List.mem_of_getElem? hx)
  obtain ⟨j, hj, rfl⟩ := List.getElem_of_mem hxl
  obtain ⟨h1, h2, h3, _⟩ := h.2.2 j hj _ (List.getElem?_eq_getElem hj)
  refine ⟨h1, h2, h3, fun k y hk hy => ?_⟩
  have hkm : k < m.length := by omega
  rw [List.getElem?_eq_getElem hkm] at hy
  injection hy with hy
  rw [hxi, ← hy]
  exact hnd i k hi hkm hk
theorem right_turn {l : List Bk} {N : Int} (h : RightL l N) (k : Nat) (hk : k ≤ l.length) : RightL (l.drop k ++ l.take k) N := by
  have hdiff : ∀ i j (hi : i < l.length) (hj : j < l.length), i ≠ j → l[j].at_ ≠ l[i].at_ := by
    intro i j hi hj hij
    rcases Nat.lt_or_gt_of_ne hij with h' | h'
    · exact fun e => (h.2.2 j hj _ (List.getElem?_eq_getElem hj)).2.2.2 i _ h' (List.getElem?_eq_getElem hi) e.symm
    · exact fun e => (h.2.2 i hi _ (List.getElem?_eq_getElem hi)).2.2.2 j _ h' (List.getElem?_eq_getElem hj) e
  refine right_perm h (by simp; omega) (fun x hx => ?_) (fun i j hi hj hij => ?_)
  · rcases List.mem_append.1 hx with hx | hx
    · exact List.mem_of_mem_drop hx
    · exact List.mem_of_mem_take hx
  · have hl : (l.drop k).length = l.length - k := by simp
    have ht : (l.take k).length = k := by simp; omega
    simp only [List.length_append, hl, ht] at hi hj
    simp only [List.getElem_append, List.getElem_drop, List.getElem_take, hl]
    split <;> split
    · exact hdiff _ _ _ _ (by omega)
    · exact hdiff _ _ _ _ (by omega)
    · omega
    · exact hdiff _ _ _ _ (by omega)

/-- The same blocks in another order: the same data. -/
theorem dataS_order {s : St} {n : Nat} {l m : List Bk} (h : Live s) (hl : RightL l ((s.firm.length : Int) - 41)) (hm : RightL m ((s.firm.length : Int) - 41)) (hmem : ∀ x, x ∈ m ↔ x ∈ l) : dataS (commitW s n l).2 = dataS (commitW s n m).2 := by
  have e1 := (commitW_live (n := n) h hl).2.2.2.1
  have e2 := (commitW_live (n := n) h hm).2.2.2.1
  unfold dataS
  rw [e1, e2]
  apply List.map_congr_left
  intro j hj
  have hj' := List.mem_range.1 hj
  congr 1
  by_cases hx : ∃ x ∈ l, x.at_ = (j : Int)
  · obtain ⟨x, hx, he⟩ := hx
    have t : x.at_.toNat = j := by omega
    have a1 := commit_home (n := n) h hl hx
    have a2 := commit_home (n := n) h hm ((hmem x).2 hx)
    rw [t] at a1 a2
    rw [a1, a2]
  · rw [commit_else h hl (by omega) (fun x hx' he => hx ⟨x, hx', he⟩), commit_else h hm (by omega) (fun x hx' he => hx ⟨x, (hmem x).1 hx', he⟩)]

set_option maxRecDepth 100000 in
set_option maxHeartbeats 4000000 in
theorem walOrder_walk (w : World) (A : Option Addr) (c : Nat) (l : List Bk) (z : Int) (hA : Blks w A l) (hl : l.length ≤ 9223372036854775807) (hc : l.length ≤ c) :
    Calls Try.prog 6 #[.slice A l.length c, .int .i64 z] w fun e w' => e = .returned (.bool true) ∧ Only [] w w' := by
  have halive := fun W => alive_any W
  have hr1 := fun W k => right5_any W A c l (hA.kept (S := []) k (by simp)) hl
  replace halive := Lib.hid halive
  replace hr1 := Lib.hid hr1
  replace hl := Lib.hid hl
  go_enter Try.func6, Try.ntmps6
  go_wp2_with fail
  refine (halive.out _).mono ?_
  rintro e w1 ⟨rfl, k1⟩
  go_wp2_with fail
  refine (hr1.out w1 k1).mono ?_
  rintro e w2 ⟨⟨r1, rfl, q1⟩, k2⟩
  have k12 := k1.trans k2
  clear k1 k2
  cases r1 with
  | false =>
    go_wp2_with fail
    refine (halive.out _).mono ?_
    rintro e w3 ⟨rfl, k3⟩
    have kend := k12.trans k3
    go_wp2
    go_ret
    exact ⟨rfl, kend⟩
  | true =>
  have hrl := q1.1 rfl
  clear q1
  have hl1 := hrl.1
  have hl40 := hrl.2.1
  obtain ⟨g, o, rfl, hg, hat⟩ := hA.get (i := 0) (by omega)
  have hat2 := hat.kept k12 (by simp)
  obtain ⟨u, hu⟩ : ∃ u : Int, u = z % 18446744073709551616 := ⟨_, rfl⟩
  have hu0 : 0 ≤ u := by omega
  have hu1 : u < 18446744073709551616 := by omega
  obtain ⟨k, hk⟩ : ∃ k : Nat, (k : Int) = u % (l.length : Int) := ⟨(u % (l.length : Int)).toNat, Int.toNat_of_nonneg (Int.emod_nonneg _ (by omega))⟩
  have hkl : k < l.length := by
    have := Int.emod_lt_of_pos u (show (0 : Int) < (l.length : Int) by omega)
    omega
  have hll : (l.length : Int) ≤ 40 := by omega
  have hlp : (0 : Int) < (l.length : Int) := by omega
  have hwu : IntKind.u64.wrap z = u := by rw [IntKind.wrap_u64, hu]
  replace hrl := Lib.hid hrl
  replace hl1 := Lib.hid hl1
  replace hl40 := Lib.hid hl40
  replace hu := Lib.hid hu
  have hk' : u % (l.length : Int) = (k : Int) := hk.symm
  clear hk
  have hdrop : (l.drop k).length = l.length - k := by simp
  have htake : (l.take k).length = k := by simp; omega
  have hkc : (k : Int) ≤ (c : Int) := by omega
  have hkI : (k : Int) < (l.length : Int) := by omega
  replace hdrop := Lib.hid hdrop
  replace htake := Lib.hid htake
  go_wp2_with (at_builtin; go_must (refine wpList_append_blks _ rfl (.tmp 28) (.tmp 31) 37 rfl 64 (.agg #[.int .i64 0, .string ⟨#[]⟩]) 24 Try.underlying37 zero_ablock rfl (.slice none 0 0) 0 [] rfl (World.ownsRow_nil _ 0 _ 2) g (o + k * 2) (l.length - k) _ (l.drop k) hdrop.out.symm rfl (hat2.drop k) ?c1 ?c2 ?go))
  case c1 => unfold maxLen; omega
  case c2 => omega
  case go =>
  intro v3 w3 hown3 hg3 hat3
  have k3 : Only [] w w3 := k12.grown hg3 (fun j hj => by simp [Value.ownBlock] at hj)
  have hnew3 : ∀ j, v3.ownBlock = some j → w.heap.size ≤ j := fun j hj => by
    rcases hat3 with h | h
    · rw [h] at hj; simp [Value.ownBlock] at hj
    · rw [h] at hj; injection hj with hj; have := k12.size; omega
  have hatt3 := hat.kept k3 (by simp)
  clear hg3 hat3 hat2
  go_wp2_with (at_builtin; go_must (refine wpList_append_blks _ rfl (.tmp 33) (.tmp 36) 37 rfl 64 (.agg #[.int .i64 0, .string ⟨#[]⟩]) 24 Try.underlying37 zero_ablock rfl v3 (l.length - k) (l.drop k) rfl hown3 g o k _ (l.take k) htake.out.symm rfl (hatt3.take k) ?d1 ?d2 ?go2))
  case d1 => unfold maxLen; omega
  case d2 => omega
  case go2 =>
  intro v4 w4 hown4 hg4 hat4
  have k4 : Only [] w w4 := k3.grown hg4 (fun j hj => .inr (hnew3 j hj))
  have hnew4 : ∀ j, v4.ownBlock = some j → w.heap.size ≤ j := fun j hj => by
    rcases hat4 with h | h
    · rw [h] at hj; exact hnew3 j hj
    · rw [h] at hj; injection hj with hj; have := k3.size; omega
  have hn : l.length - k + k = l.length := by omega
  rw [hn] at hown4
  have hrotl : (l.drop k ++ l.take k).length = l.length := by rw [List.length_append, hdrop.out, htake.out]; omega
  have hrotr := fun N h => right_turn (N := N) (l := l) h k (by omega)
  have hrotm : ∀ x, x ∈ l.drop k ++ l.take k ↔ x ∈ l := fun x => by
    constructor
    · intro h
      rcases List.mem_append.1 h with h | h
      · exact List.mem_of_mem_drop h
      · exact List.mem_of_mem_take h
    · intro h
      rw [← List.take_append_drop k l] at h
      rcases List.mem_append.1 h with h | h
      · simp [h]
      · simp [h]
  generalize l.drop k ++ l.take k = rot at *
  rw [← hrotl] at hown4
  obtain ⟨Ar, cr, hv4, hblr, _, hnewr⟩ := blks_of_owns hown4 (fun x hx => hA.2 x ((hrotm x).1 hx)) k4 hnew4
  have hcr : rot.length ≤ cr := by
    rcases hown4.2 with ⟨hv, h0⟩ | ⟨_, _, _, hv, _, _, h1, _⟩
    · omega
    · rw [hv] at hv4; injection hv4 with _ _ h3; omega
  subst hv4
  obtain ⟨gr, or, rfl, hgr, _⟩ := hblr.get (i := 0) (by have := hl1.out; omega)
  rw [hrotl]
  replace hrotr := Lib.hid hrotr
  replace hrotm := Lib.hid hrotm
  replace hnewr := Lib.hid hnewr
  clear hg4 hat4 hnew4 hown4 hown3 hnew3 k3 hatt3 hn
  have hnewA := fun W (h : Only [] w W) => ownNew_any w W 46 (by decide) (by decide) h
  obtain ⟨e1, e2, e3⟩ := open_fresh 46 (by decide)
  have hlive := fresh_live 46
  have hflen := fresh_firm 46
  have hlate : (fresh 46).late.length = 0 := rfl
  generalize fresh 46 = s0 at *
  have hN5 : ((s0.firm.length : Int) - 41) = 5 := by rw [hflen]; rfl
  have hright1 : RightL l ((s0.firm.length : Int) - 41) := by rw [hN5]; exact hrl.out
  have hright2 : RightL rot ((s0.firm.length : Int) - 41) := hrotr.out _ hright1
  have hsame := dataS_order (n := 0) hlive hright1 hright2 hrotm.out
  have u1 := commitW_live (n := 0) hlive hright1
  have u2 := commitW_live (n := 0) hlive hright2
  replace hnewA := Lib.hid hnewA
  replace hlive := Lib.hid hlive
  replace hflen := Lib.hid hflen
  replace hlate := Lib.hid hlate
  replace e1 := Lib.hid e1
  replace e2 := Lib.hid e2
  replace e3 := Lib.hid e3
  replace hright1 := Lib.hid hright1
  replace hright2 := Lib.hid hright2
  replace hsame := Lib.hid hsame
  replace u1 := Lib.hid u1
  replace u2 := Lib.hid u2
  replace hN5 := Lib.hid hN5
  go_wp2_with fail
  refine (hnewA.out w4 k4).mono ?_
  rintro e w5 ⟨p1, F1, rfl, hd5, k5, hF1⟩
  have hbl5 := hblr.kept k5 (by simp)
  go_wp2_with fail
  refine (hd5.opens e1.out (by have := hlate.out; omega)).mono ?_
  rintro e w6 ⟨l6, F6, rfl, h6, k6, hl6, hF6⟩
  rw [e2.out, e3.out] at h6
  have hgF1 : gr ∉ F1 := fun hm => by have := hF1 _ hm; omega
  have hbl6 := hbl5.kept k6 (fun a ha => by injection ha with ha; subst ha; exact hgF1)
  have hgr5 : gr < w5.heap.size := Nat.lt_of_lt_of_le hgr k5.size
  have hgF6 : gr ∉ l6 :: F6 := fun hm => by
    rcases List.mem_cons.1 hm with h | h
    · omega
    · exact away hF6 hgF1 hgr5 h
  clear hd5 hblr hbl5
  go_wp2_with fail
  refine (hnewA.out w6 h6.only).mono ?_
  rintro e w7 ⟨p2, F7, rfl, hd7, k7, hF7⟩
  have h6a := h6.keep k7
  have hbl7 := hbl6.kept k7 (by simp)
  go_wp2_with fail
  refine (hd7.opens e1.out (by have := hlate.out; omega)).mono ?_
  rintro e w8 ⟨l8, F8, rfl, h8, k8, hl8, hF8⟩
  rw [e2.out, e3.out] at h8
  have h6b := h6a.beside k8 h8.only (fun i hi hm => by
    have hi7 := hF7 i hi
    rcases List.mem_cons.1 hm with h | h
    · have := h6.lt; omega
    · have := (h6.new _ h).2; omega)
  have hgF7 : gr ∉ F7 := fun hm => by have := hF7 _ hm; have := k6.size; omega
  have hbl8 := hbl7.kept k8 (fun a ha => by injection ha with ha; subst ha; exact hgF7)
  have hgr7 : gr < w7.heap.size := by have := k6.size; have := k7.size; omega
  have hgF8 : gr ∉ l8 :: F8 := fun hm => by
    rcases List.mem_cons.1 hm with h | h
    · omega
    · exact away hF8 hgF7 hgr7 h
  have hdis : ∀ i ∈ l6 :: F6, i ∉ l8 :: F8 := fun i hi hm => by
    have hi6 : i < w6.heap.size := by
      rcases List.mem_cons.1 hi with h | h
      · have := h6.lt; omega
      · exact (h6.new _ h).2
    have := k7.size
    rcases List.mem_cons.1 hm with h | h
    · omega
    · rcases hF8 i h with h' | h'
      · have := hF7 i h'; omega
      · omega
  clear h6 h6a hd7 hbl6 hbl7
  go_wp2_with fail
  refine (h6b.commit (some ⟨g, o, none⟩) c l (by decide) (hA.kept h6b.only (by simp)) hl.out hc (by have := hlate.out; omega)).mono ?_
  rintro e w9 ⟨x1, s1, n1, f1, F9, rfl, hc1, h9, k9, hF9⟩
  obtain ⟨rfl, rfl, rfl, rfl⟩ := commits_live hlive.out hright1.out (by decide) hc1
  have h8b := h8.beside k9 h9.only hdis
  have hbl9 := hbl8.kept k9 (fun a ha => by injection ha with ha; subst ha; exact hgF6)
  have hdis2 : ∀ i ∈ l8 :: F8, i ∉ l6 :: F9 := fun i hi hm => by
    rcases List.mem_cons.1 hm with h | h
    · exact hdis l6 (by simp) (h ▸ hi)
    · have hi8 : i < w8.heap.size := by
        rcases List.mem_cons.1 hi with h' | h'
        · have := h8.lt; omega
        · exact (h8.new _ h').2
      rcases hF9 i h with h' | h'
      · exact hdis i (by simp [h']) hi
      · omega
  clear h6b h8 hbl8
  go_wp2_with fail
  rw [← hrotl]
  refine (h8b.commit (some ⟨gr, or, none⟩) cr rot (by decide) hbl9 (by have := hl40.out; omega) hcr (by have := hlate.out; omega)).mono ?_
  rintro e w10 ⟨x2, s2, n2, f2, F10, rfl, hc2, h10, k10, hF10⟩
  obtain ⟨rfl, rfl, rfl, rfl⟩ := commits_live hlive.out hright2.out (by decide) hc2
  have h9b := h9.beside k10 h10.only hdis2
  replace hc1 := Lib.hid hc1
  replace hc2 := Lib.hid hc2
  obtain ⟨_, ⟨a2, _⟩, _, a4, _⟩ := u1.out
  obtain ⟨_, ⟨b2, _⟩, _, b4, _⟩ := u2.out
  generalize (commitW s0 0 l).2 = s1 at *
  generalize (commitW s0 0 rot).2 = s2 at *
  clear h9 h8b hbl9 k10
  go_wp2_with fail
  refine (datas_any w10 l6 p1 1 F9 s1 h9b.log h9b.dev a2 (by have := hflen.out; omega)).mono ?_
  rintro e w11 ⟨v11, rfl, A11, c11, rfl, hs11, k11, _⟩
  have h11 := h10.keep k11
  clear h9b h10
  go_wp2_with fail
  refine (datas_any w11 l8 p2 1 F10 s2 h11.log h11.dev b2 (by have := hflen.out; omega)).mono ?_
  rintro e w12 ⟨v12, rfl, A12, c12, rfl, hs12, k12', _⟩
  have hs11' := hs11.kept k12' (by simp)
  have k012 := h11.only.trans k12'
  clear h11 hs11
  go_wp2_with fail
  refine (halive.out _).mono ?_
  rintro e w13 ⟨rfl, k13⟩
  have k013 := k012.trans k13
  have hsm := same_any w13 A11 A12 c11 c12 (dataS s1) (dataS s2) (hs11'.kept k13 (by simp)) (hs12.kept k13 (by simp)) (by rw [dataS_length]; have := hflen.out; omega)
  replace hsm := Lib.hid hsm
  clear hs11' hs12 k012 k13
  go_wp2_with fail
  refine hsm.out.mono ?_
  rintro e w14 ⟨⟨r5, rfl, q5⟩, k14⟩
  obtain rfl : r5 = true := q5.2 hsame.out
  replace q5 := Lib.hid q5
  have kend := k013.trans k14
  go_wp2
  go_ret
  exact ⟨rfl, kend⟩

end Go.Proofs.Ytihoebmfanelkaa
