/- RowsTogether, its facts: rows that the device's data hold, behind commits and behind a crash. -/
import Derived.Test.YthpjkhmkjhgbkaaGreatDoorCrash5
import Derived.Test.YthpjkhmkjhgbkaaGreatDoorOrder5
namespace Go.Proofs.YthpjkhmkjhgbkaaGreatDoor
open Go.RowKit Go.Maps

theorem jok_congr {s t : St} (hl : s.firm.length = t.firm.length) (hb : ∀ k, blkB s k = blkB t k) {n : Nat} (h : Jok s n) : Jok t n := by
  obtain ⟨e1, _⟩ := openL_congr hl (fun k _ => hb k)
  refine ⟨by rw [← hb]; exact h.1, fun x hx => ?_⟩
  rw [← e1] at hx
  rw [← hb]
  exact h.2 x hx
theorem fresh_jok (K : Nat) (hK : 42 ≤ K) : Jok (fresh K) 0 := by
  have h0 : blkB (fresh K) 0 = rep 256 0 := fresh_blk K 0 (by omega)
  refine ⟨by rw [h0]; exact mark_zero.1, fun x hx => ?_⟩
  have : openL (fresh K) = [] := by
    unfold openL
    rw [h0, mark_zero.2]
    exact redoL_zero _ _
  rw [this] at hx
  cases hx
theorem fresh_lays (K : Nat) : Lays (dataS (fresh K)) [] := lays_zeros fun d hd => by
  simp only [dataS, List.mem_map, List.mem_range, fresh_firm] at hd
  obtain ⟨j, hj, rfl⟩ := hd
  rw [fresh_blk K (41 + j) (by omega)]
  decide +kernel

/-- Behind a commit on a living device the data hold the rows. -/
theorem holds_commit {N : Nat} {M M' : List Rw} {s s' : St} {n n' : Nat} {f' : Bool} {l : List Ch} {x : Int} (hs : Live s) (hlen : s.firm.length = 41 + N) (hfew : s.firm.length ≤ 1024) (hM : Good N M) (hn : n + 1 < 4294967295) (hL : Lays (dataS s) M) (hJ : Jok s n) (hf' : Fine s')
    (h : Commits5 N M s n false l x M' s' n' f') : Lays (dataS s') M' ∧ Jok s' n' ∧ (s.late = [] → s'.late = []) := by
  rcases h with ⟨h1, h2, rfl, rfl, rfl, rfl⟩ | ⟨h1, h2, h3, rfl, rfl, rfl, rfl⟩ | ⟨h1, h2, h3, h4, rfl, rfl, rfl, rfl⟩ | ⟨h1, h2, h3, ss, hd, _, hc, hM'⟩
  · exact ⟨hL, hJ, id⟩
  · exact ⟨hL, hJ, id⟩
  · exact ⟨hL, hJ, id⟩
  · have hrg : (s.firm.length : Int) - 41 = (N : Int) := by omega
    have hr : RightL (ss.map bkOf) ((s.firm.length : Int) - 41) := by rw [hrg]; exact right_blocks (fits_of h1).news hd h3
    obtain ⟨rfl, rfl, rfl, rfl⟩ := commits_live hs hr (by omega) hc
    obtain ⟨_, b2, b3, b4, _⟩ := commitW_live (n := n) hs hr
    rw [if_pos rfl] at hM'
    subst hM'
    have hmark := commit_mark (n := n) hs hr
    have h40 := hr.2.1
    refine ⟨?_, ?_, fun _ => b3⟩
    · rw [dataS_commit hs hr]
      exact lays_apply hM (fits_of h1).news news_gone hd hL
    · obtain ⟨_, _, o3, o4, _⟩ := open_new (s := s) hr hfew (by omega) b4 b2 hf' hmark (fun i hi => commit_copy hs hr hi) (fun j hj hne => commit_else hs hr hj hne)
      refine ⟨o4, fun y hy => ?_⟩
      rw [o3] at hy
      obtain ⟨z, hz, rfl⟩ := homes_at hy
      have hz0 := (right_all hr z hz).1
      have := commit_home (n := n) hs hr hz
      rw [show (41 + z.at_).toNat = 41 + z.at_.toNat by omega]
      exact this

/-- What is opened behind a commit that may have died, and a crash. -/
def Opens (N : Nat) (M : List Rw) (l : List Ch) (g : Int) (Mo : List Rw) : Prop :=
  (¬ FitL l ∧ g = 1 ∧ Mo = M) ∨ (FitL l ∧ (N : Int) - (M.length : Int) < growthL M (newsL M l) ∧ g = 6 ∧ Mo = M) ∨
  (FitL l ∧ growthL M (newsL M l) ≤ (N : Int) - (M.length : Int) ∧ ((g = 0 ∧ ∀ k, getR Mo k = afterK l M k) ∨ (g = 5 ∧ (Mo = M ∨ ∀ k, getR Mo k = afterK l M k))))
theorem crash_opens {N : Nat} {M M' : List Rw} {s s' : St} {n n' : Nat} {f' : Bool} {l : List Ch} {g : Int} (hlate : s.late = []) (hlen : s.firm.length = 41 + N) (hN : 1 ≤ N) (hfew : s.firm.length ≤ 1024) (hM : Good N M) (hn : n + 1 < 4294967295) (hL : Lays (dataS s) M) (hJ : Jok s n)
    (h : Commits5 N M s n false l g M' s' n' f') (keep : Nat) (hf' : Fine s') :
    openErr (crashed s' keep) = 0 ∧ ∃ Mo, parseL (dataS (openSt (crashed s' keep))) = some Mo ∧ Good N Mo ∧ Opens N M l g Mo := by
  have hdl : (dataS s).length = N := by rw [dataS_length]; omega
  have hparse : parseL (dataS s) = some M := parse_lays (by rw [hdl]; exact hM) hL
  have hft : Fine (crashed s' keep) := hf'.crashed keep
  have hstay : s' = s → openErr (crashed s' keep) = 0 ∧ dataS (openSt (crashed s' keep)) = dataS s := fun e => by
    subst e
    have hb := fun k => crash_settled hlate keep k
    exact open_old (by omega) (crash_len _ _) (crash_live _ _) hft hJ (hb 0) (fun j _ => hb _) (fun i _ => .inl (hb _))
  rcases h with ⟨h1, h2, _, hs, _, _⟩ | ⟨h1, h2, h3, _, hs, _, _⟩ | ⟨h1, h2, h3, h4, _, hs, _, _⟩ | ⟨h1, h2, h3, ss, hd, _, hc, _⟩
  · obtain ⟨r1, r2⟩ := hstay hs
    exact ⟨r1, M, by rw [r2]; exact hparse, hM, .inl ⟨h1, h2, rfl⟩⟩
  · obtain ⟨r1, r2⟩ := hstay hs
    exact ⟨r1, M, by rw [r2]; exact hparse, hM, .inr (.inl ⟨h1, h2, h3, rfl⟩)⟩
  · obtain ⟨r1, r2⟩ := hstay hs
    refine ⟨r1, M, by rw [r2]; exact hparse, hM, .inr (.inr ⟨h1, h2, .inl ⟨h4, fun k => ?_⟩⟩)⟩
    have := after_applied (ss := []) hM (fits_of h1) (by rw [h3]; exact does_nil _ _) k
    rw [h3] at this
    exact this
  · have hrg : (s.firm.length : Int) - 41 = (N : Int) := by omega
    have hr : RightL (ss.map bkOf) ((s.firm.length : Int) - 41) := by rw [hrg]; exact right_blocks (fits_of h1).news hd h3
    have hafter : ∀ L, L = afterL (dataS s) (ss.map bkOf) → ∃ Mo, parseL L = some Mo ∧ Good N Mo ∧ ∀ k, getR Mo k = afterK l M k := fun L e => by
      have hg := good_apply hM (fits_of h1).news news_gone hd
      refine ⟨applyL M (newsL M l) ss, ?_, hg, fun k => after_applied hM (fits_of h1) hd k⟩
      subst e
      exact parse_lays (by rw [afterL_length, hdl]; exact hg) (lays_apply hM (fits_of h1).news news_gone hd hL)
    rcases hc with ⟨hx, hR, _⟩ | ⟨_, hx, hs, hrest⟩
    · exfalso
      rcases hR with ⟨q1, _⟩ | ⟨_, q1, _⟩ | ⟨_, _, q1, _⟩ | ⟨_, _, _, q1⟩
      · exact q1 hr
      · cases q1
      · omega
      · exact hx q1
    · subst hs
      obtain ⟨r1, r2⟩ := commit_crash hlate hr hfew (by omega) hJ keep hft
      have hg05 : g = 0 ∨ g = 5 := hrest.imp (fun h => h.1) (fun h => h.1)
      rcases r2 with r2 | ⟨r3, r2⟩
      · obtain ⟨Mo, q1, q2, q3⟩ := hafter _ r2
        exact ⟨r1, Mo, q1, q2, .inr (.inr ⟨h1, h2, hg05.imp (fun h => ⟨h, q3⟩) (fun h => ⟨h, .inr q3⟩)⟩)⟩
      · rw [← hx] at r3
        exact ⟨r1, M, by rw [r2]; exact hparse, hM, .inr (.inr ⟨h1, h2, .inr ⟨r3, .inl rfl⟩⟩)⟩

/-- The same rows by what they tell: the same answers. -/
theorem getR_chs {M M' : List Rw} (h : Sorted M) (h' : Sorted M') (e : M.map chOf = M'.map chOf) (k : List UInt8) : getR M k = getR M' k := by
  have hh : ∀ {L L' : List Rw}, Sorted L → Sorted L' → L.map chOf = L'.map chOf → ∀ v, getR L k = some v → getR L' k = some v := fun {L L'} hL hL' e v hv => by
    obtain ⟨r, _, hr, hk, hval⟩ := getR_some hv
    have hm : chOf r ∈ L'.map chOf := by rw [← e]; exact List.mem_map.2 ⟨r, hr, rfl⟩
    obtain ⟨r', hr', e'⟩ := List.mem_map.1 hm
    have e1 : r'.key = r.key := congrArg Ch.key e'
    have e2 : r'.val = r.val := congrArg Ch.val e'
    rw [getR, ← hk, ← e1, findR_of hL' hr', ← hval, ← e2]
    rfl
  cases hv : getR M k with
  | some v => exact (hh h h' e v hv).symm
  | none =>
    cases hv' : getR M' k with
    | none => rfl
    | some v => rw [hh h' h e.symm v hv'] at hv; cases hv
theorem news_same {M M' : List Rw} (h : ∀ k, getR M k = getR M' k) (l : List Ch) : newsL M l = newsL M' l ∧ growthL M (newsL M l) = growthL M' (newsL M l) := by
  have hs : ∀ k, (findR M k).isSome = (findR M' k).isSome := fun k => by rw [(get_val M k).2, (get_val M' k).2, h k]
  have hv : ∀ k, valL M k = valL M' k := fun k => by rw [(get_val M k).1, (get_val M' k).1, h k]
  constructor
  · exact List.filter_congr fun c _ => by unfold isNews; rw [hs, hv]
  · have : ∀ L : List Ch, growthL M L = growthL M' L := fun L => by
      induction L with
      | nil => rfl
      | cons c r ih => simp only [growthL, stepC, hs, ih]
    exact this _
theorem opens_puts {N : Nat} {M M1 Mo M2 : List Rw} {l : List Ch} {g h : Int} (hG : Good N M) (hG1 : Good N M1) (he : M.map chOf = M1.map chOf) (hGo : Good N Mo) (ho : Opens N M l g Mo) (hp : Puts N M1 l h M2) :
    (g = h ∨ g = 5) ∧ (Mo.map chOf = M2.map chOf ∨ (g = 5 ∧ Mo.map chOf = M.map chOf)) := by
  have hget := getR_chs hG.sorted hG1.sorted he
  obtain ⟨hn1, hn2⟩ := news_same hget l
  have hl : M.length = M1.length := by have := congrArg List.length he; simpa using this
  have hgr : growthL M1 (newsL M1 l) = growthL M (newsL M l) := by rw [← hn1, hn2]
  have haft : ∀ k, afterK l M k = afterK l M1 k := fun k => by unfold afterK; rw [hget]
  rcases ho with ⟨a1, rfl, rfl⟩ | ⟨a1, a2, rfl, rfl⟩ | ⟨a1, a2, a3⟩ <;> rcases hp with ⟨b1, rfl, rfl⟩ | ⟨b1, b2, rfl, rfl⟩ | ⟨b1, b2, rfl, b4, b5⟩
  · exact ⟨.inl rfl, .inl he⟩
  · exact absurd b1 a1
  · exact absurd b1 a1
  · exact absurd a1 b1
  · exact ⟨.inl rfl, .inl he⟩
  · omega
  · exact absurd a1 b1
  · omega
  · have hsame : (∀ k, getR Mo k = afterK l M k) → Mo.map chOf = M2.map chOf := fun h => chs_ext hGo.sorted b4.sorted fun k => by rw [h, b5, haft]
    rcases a3 with ⟨rfl, h⟩ | ⟨rfl, rfl | h⟩
    · exact ⟨.inl rfl, .inl (hsame h)⟩
    · exact ⟨.inr rfl, .inr ⟨rfl, rfl⟩⟩
    · exact ⟨.inr rfl, .inl (hsame h)⟩

/-- Living rows of the call's own that their device's data hold. -/
def Rows6 (w w' : World) (F : List Nat) (rp mb lp p N : Nat) (M : List Rw) (c : Nat) : Prop :=
  ∃ s n, Own5 w w' F rp mb lp p s n false M ∧ Live s ∧ s.firm.length = 41 + N ∧ s.late = [] ∧ n ≤ c ∧ Good N M ∧ Lays (dataS s) M ∧ Jok s n
section
variable {w w1 w2 : World} {F : List Nat} {rp mb lp p N c : Nat} {M : List Rw}
theorem Rows6.five (h : Rows6 w w1 F rp mb lp p N M c) : Rows5 w w1 F rp mb lp p N M c := by
  obtain ⟨s, n, h1, h2, h3, h4, h5, h6, _⟩ := h
  exact ⟨s, n, h1, h2, h3, by rw [h4]; rfl, h5, h6⟩
theorem Rows6.keep (h : Rows6 w w1 F rp mb lp p N M c) (k : Only [] w1 w2) : Rows6 w w2 F rp mb lp p N M c := by
  obtain ⟨s, n, h5, hrest⟩ := h
  exact ⟨s, n, h5.keep k, hrest⟩
theorem Own5.beside {S : List Nat} {s : St} {n : Nat} {f : Bool} (h5 : Own5 w w1 F rp mb lp p s n f M) (k : Only S w1 w2) (hw : Only [] w w2) (hS : ∀ i ∈ S, i ∉ rp :: mb :: lp :: F) : Own5 w w2 F rp mb lp p s n f M := by
  refine ⟨h5.own.beside k hw (fun i hi hm => hS i hi ?_), h5.rows.kept k (fun hm => hS rp hm (by simp)) (fun hm => hS mb hm (by simp)), h5.ne1, h5.ne2, h5.ne3, h5.out1, h5.out2, h5.old1, h5.old2⟩
  simp only [List.mem_cons] at hm ⊢
  exact .inr (.inr hm)
theorem Rows6.beside {S : List Nat} (h : Rows6 w w1 F rp mb lp p N M c) (k : Only S w1 w2) (hw : Only [] w w2) (hS : ∀ i ∈ S, i ∉ rp :: mb :: lp :: F) : Rows6 w w2 F rp mb lp p N M c := by
  obtain ⟨s, n, h5, hrest⟩ := h
  exact ⟨s, n, h5.beside k hw hS, hrest⟩
theorem OwnD.rows6 {K : Nat} (h : OwnD w w1 F p (fresh K)) (hK : K = 41 + N) (hN : 1 ≤ N) :
    Calls Tryz.prog 19 #[.pointer (some ⟨p, 0, none⟩)] w1 fun e w' => ∃ rp mb lp F', e = .returned (.tuple #[.pointer (some ⟨rp, 0, none⟩), .int .i64 0]) ∧ Rows6 w w' F' rp mb lp p N [] 0 ∧ Only F w1 w' ∧ (∀ j ∈ F', j ∈ F ∨ w1.heap.size ≤ j) ∧ w1.heap.size ≤ rp ∧ w1.heap.size ≤ mb ∧ w1.heap.size ≤ lp := by
  subst hK
  refine (h.fresh5 (by omega)).mono ?_
  rintro e w' ⟨rp, mb, lp, F', he, h5, hrest⟩
  exact ⟨rp, mb, lp, F', he, ⟨_, _, h5, fresh_live _, fresh_firm _, rfl, Nat.le_refl _, Good.nil _, fresh_lays _, fresh_jok _ (by omega)⟩, hrest⟩
theorem Rows6.put (h : Rows6 w w1 F rp mb lp p N M c) (A : Option Addr) (cp : Nat) (l : List Ch) (hc : c < 4294967290) (hb : Els chE 3 w1 A l) (hok : okayC l) (hl : l.length ≤ 9223372036854775807) (hcp : l.length ≤ cp) :
    Calls Tryz.prog 20 #[.pointer (some ⟨rp, 0, none⟩), .slice A l.length cp] w1 fun e w' => ∃ x M' F', e = .returned (.int .i64 x) ∧ Puts N M l x M' ∧ Rows6 w w' F' rp mb lp p N M' (c + 1) ∧ Only (mb :: lp :: F) w1 w' ∧ ∀ j ∈ F', j ∈ F ∨ w1.heap.size ≤ j := by
  obtain ⟨s, n, h5, hs, hN, hlate, hn, hM, hL, hJ⟩ := h
  have hfew := h5.own.dev.fine.few
  refine (h5.commit A cp l hN hM (by omega) hb hok hl hcp (by rw [hlate]; decide)).mono ?_
  rintro e w' ⟨x, M', s', n', f', F', rfl, hcm, ho, hk, hF⟩
  obtain ⟨a1, a2, a3, a4, rfl, a6⟩ := puts_of hs hN hM (by omega) hcm
  obtain ⟨b1, b2, b3⟩ := holds_commit hs hN hfew hM (by omega) hL hJ ho.own.dev.fine hcm
  exact ⟨x, M', F', rfl, a1, ⟨s', n', ho, a2, a3, b3 hlate, by omega, a1.good hM, b1, b2⟩, hk, hF⟩
/-- A fuse is lit, changes are committed. -/
def Lit6 (w w' : World) (F : List Nat) (rp mb lp p N : Nat) (M : List Rw) (c : Nat) : Prop :=
  ∃ s n, Own5 w w' F rp mb lp p s n false M ∧ s.firm.length = 41 + N ∧ s.late = [] ∧ n ≤ c ∧ Good N M ∧ Lays (dataS s) M ∧ Jok s n
theorem Rows6.fuse (h : Rows6 w w1 F rp mb lp p N M c) (x : Int) (h0 : -9223372036854775808 ≤ x) (h1 : x ≤ 9223372036854775807) :
    Calls Tryz.prog 21 #[.pointer (some ⟨p, 0, none⟩), .int .i64 x] w1 fun e w' => e = .returned (.tuple #[]) ∧ Lit6 w w' F rp mb lp p N M c ∧ Only F w1 w' := by
  obtain ⟨s, n, h5, hs, hN, hlate, hn, hM, hL, hJ⟩ := h
  refine (fuse_any w1 p F s x h0 h1 h5.own.dev).mono ?_
  rintro e w' ⟨he, hsm⟩
  have hb : ∀ k, blkB s k = blkB (lit s x) k := fun k => rfl
  have hd := h5.own.d.same hsm
  refine ⟨he, ⟨lit s x, n, ⟨⟨hd.dev, Blk.kept h5.own.log hsm.2 h5.own.out, h5.own.out, h5.own.old, hd.only, hd.new⟩, h5.rows.kept hsm.2 h5.out1 h5.out2, h5.ne1, h5.ne2, h5.ne3, h5.out1, h5.out2, h5.old1, h5.old2⟩, hN, hlate, hn, hM, hL, jok_congr (s := s) (t := lit s x) rfl hb hJ⟩, hsm.2⟩
theorem Lit6.beside {S : List Nat} (h : Lit6 w w1 F rp mb lp p N M c) (k : Only S w1 w2) (hw : Only [] w w2) (hS : ∀ i ∈ S, i ∉ rp :: mb :: lp :: F) : Lit6 w w2 F rp mb lp p N M c := by
  obtain ⟨s, n, h5, hrest⟩ := h
  exact ⟨s, n, h5.beside k hw hS, hrest⟩
theorem Lit6.only (h : Lit6 w w1 F rp mb lp p N M c) : Only [] w w1 := by
  obtain ⟨s, n, h5, _⟩ := h
  exact h5.own.only
theorem commits5_len {N : Nat} {M M' : List Rw} {s s' : St} {n n' : Nat} {f' : Bool} {l : List Ch} {x : Int} (h : Commits5 N M s n false l x M' s' n' f') : s'.firm.length = s.firm.length := by
  rcases h with ⟨_, _, _, hs, _⟩ | ⟨_, _, _, _, hs, _⟩ | ⟨_, _, _, _, _, hs, _⟩ | ⟨_, _, _, ss, _, _, hc, _⟩
  · rw [hs]
  · rw [hs]
  · rw [hs]
  · rcases commits_to hc with hs | ⟨_, hs⟩
    · rw [hs]
    · rw [hs, commitW_len]
/-- Behind the commit: the device alone, and what will be opened. -/
def Torn (w w' : World) (F : List Nat) (p N : Nat) (M : List Rw) (l : List Ch) (g : Int) : Prop :=
  ∃ s, OwnD w w' F p s ∧ s.firm.length = 41 + N ∧ ∀ keep, openErr (crashed s keep) = 0 ∧ ∃ Mo, parseL (dataS (openSt (crashed s keep))) = some Mo ∧ Good N Mo ∧ Opens N M l g Mo
theorem Lit6.put (h : Lit6 w w1 F rp mb lp p N M c) (hN1 : 1 ≤ N) (A : Option Addr) (cp : Nat) (l : List Ch) (hc : c < 4294967290) (hb : Els chE 3 w1 A l) (hok : okayC l) (hl : l.length ≤ 9223372036854775807) (hcp : l.length ≤ cp) :
    Calls Tryz.prog 20 #[.pointer (some ⟨rp, 0, none⟩), .slice A l.length cp] w1 fun e w' => ∃ g F', e = .returned (.int .i64 g) ∧ Torn w w' F' p N M l g ∧ Only [] w w' ∧ Only (mb :: lp :: F) w1 w' ∧ ∀ j ∈ F', j ∈ F ∨ w1.heap.size ≤ j := by
  obtain ⟨s, n, h5, hN, hlate, hn, hM, hL, hJ⟩ := h
  have hfew := h5.own.dev.fine.few
  refine (h5.commit A cp l hN hM (by omega) hb hok hl hcp (by rw [hlate]; decide)).mono ?_
  rintro e w' ⟨x, M', s', n', f', F', rfl, hcm, ho, hk, hF⟩
  refine ⟨x, F', rfl, ⟨s', ho.own.d, ?_, fun keep => crash_opens hlate hN hN1 hfew hM (by omega) hL hJ hcm keep ho.own.dev.fine⟩, ho.own.only, hk, hF⟩
  rw [commits5_len hcm]
  exact hN
theorem OwnD.beside {S : List Nat} {s : St} (h : OwnD w w1 F p s) (k : Only S w1 w2) (hw : Only [] w w2) (hS : ∀ i ∈ S, i ∉ F) : OwnD w w2 F p s :=
  ⟨h.dev.kept k (fun i hi hm => hS i hm hi), hw, fun j hj => ⟨(h.new j hj).1, Nat.lt_of_lt_of_le (h.new j hj).2 k.size⟩⟩
theorem Torn.beside {S : List Nat} {l : List Ch} {g : Int} (h : Torn w w1 F p N M l g) (k : Only S w1 w2) (hw : Only [] w w2) (hS : ∀ i ∈ S, i ∉ F) : Torn w w2 F p N M l g := by
  obtain ⟨s, h5, hrest⟩ := h
  exact ⟨s, h5.beside k hw hS, hrest⟩
end
end Go.Proofs.YthpjkhmkjhgbkaaGreatDoor
