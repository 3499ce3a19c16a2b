/- Write. -/
import Derived.Test.YtihoebmfanelkaaAct2
import Derived.Test.YtihoebmfanelkaaRow
import Derived.Deep.RegionHeld3
import Derived.Deep.AppendLies
namespace Go.Proofs.Ytihoebmfanelkaa
open Go.RowKit

theorem byteCells_byteVs (l : List UInt8) : Lib.byteCells l = byteVs l := rfl

/-- A string goes into a block from some place on. -/
theorem wpList_copy_str {P : Program} {w : World} {ops : Array Oper} {rest : List Oper} {o : Oper} {a : Act} {Q : Exit → Act → World → Prop} (hgd : o.guard = none) (d s : Operand) (dT sT : TypeId)
    (ho : o.op = .call { callee := .builtin .copy, args := #[d, s], argTypes := #[dT, sT] }) (elem : TypeId) (hu : P.underlying dT = some (.slice elem)) (hsz : (P.info? elem).map (·.size) = some 1)
    (g off n dCap : Nat) (b : List UInt8) (hd : a.eval d = .slice (some ⟨g, off, none⟩) n dCap) (hs : a.eval s = .string (strOf b))
    (cur : List Value) (t : TypeId) (hg : Blk w g t cur.toArray) (hn : b.length = n) (hfit : off + n ≤ cur.length) (res : List Value) (hr : res = cur.take off ++ (byteVs b ++ cur.drop (off + n)))
    (h : ∀ w', Blk w' g t res.toArray → Only [g] w w' → wpList P ops Q rest (a.put o.dst (goInt n)) w') : wpList P ops Q (o :: rest) a w := by
  subst hn
  subst hr
  refine wpList_plain hgd fun K hK => ?_
  have hrun := Lib.run_copy_row_string (P := P) w dT sT o.type elem g off b.length dCap (strOf b) cur.toArray t hu hsz hg (by rw [strOf_size]; exact Nat.le_refl _) (by rw [strOf_size]; simpa using hfit)
  unfold Oper.wp
  simp [execOp, ho, resolve, invoke, builtin, hd, hs, hrun, Result.andThen]
  rw [strOf_size]
  refine hK _ _ (h _ ?_ ((Only.refl [g] w).setRow (.inl (by simp)) _))
  unfold Blk
  rw [setRow_heap w g cur.toArray _ t _ hg]
  simp [strOf_list, byteCells_byteVs]

theorem zero_write2 : ∃ (z : Value) (zs : List Value), (Try.prog.info? 107).map (fun i => (i.zero, i.size, i.bytes)) = some (some (.agg (z :: zs).toArray), 257, 264) ∧ zs.length = 256 ∧ ∀ v ∈ zs, v.oneCell' = true := by
  have h : ∃ Z : Array Value, (Try.prog.info? 107).map (fun i => (i.zero, i.size, i.bytes)) = some (some (.agg Z), 257, 264) ∧ Z.size = 257 ∧ Z.all (·.oneCell') = true :=
    ⟨(((Try.prog.info? 107).bind (·.zero)).getD (.int .i64 0)).cells, by kernel_rfl, by kernel_rfl, by kernel_rfl⟩
  obtain ⟨⟨l⟩, h1, h2, h3⟩ := h
  match l, h1, h2, h3 with
  | [], _, h2, _ => simp at h2
  | z :: zs, h1, h2, h3 =>
    refine ⟨z, zs, h1, by simpa using h2, fun v hv => ?_⟩
    have := Array.all_eq_true_iff_forall_mem.1 h3 v (by simp [hv])
    exact this

theorem lateCells_snoc (l : List (Nat × List UInt8)) (k : Nat) (b : List UInt8) : (lateCells (l ++ [(k, b)])).flatten = (lateCells l).flatten ++ (.int .i64 (k : Int) :: byteVs b) := by simp [lateCells]

theorem lastCells_snoc (n : Nat) (l : List (Nat × List UInt8)) (k : Nat) (b : List UInt8) (x : Int) (hx : x = l.length + 1) : (lastCells n l).set k (.int .i64 x) = lastCells n (l ++ [(k, b)]) := by
  subst hx
  apply List.ext_getElem?
  intro j
  rw [List.getElem?_set]
  simp only [lastCells, List.getElem?_map, List.length_map, List.length_range, lastOf_snoc]
  by_cases hj : j < n
  · rw [List.getElem?_eq_getElem (by simpa using hj)]
    simp only [List.getElem_range, Option.map_some]
    by_cases e : k = j
    · subst e
      simp [hj]
    · simp [e]
  · rw [List.getElem?_eq_none (by simpa using hj)]
    split
    · rw [if_neg (by omega)]
      rfl
    · rfl

/-- What an append and two stores leave of a device. -/
theorem app_done {w1 w2 wa w5 : World} {p gs gl : Nat} {v : Value} {F : List Nat} {s : St} {n g : Nat} {fuse : Int} {dead : Bool}
    (hb : Blk w2 p 75 #[.slice (some ⟨gs, 0, none⟩) n n, v, .slice (some ⟨gl, 0, none⟩) n n, .int .i64 fuse, .bool dead]) (hf : Blk w2 gs 87 (firmCells s.firm).flatten.toArray) (hl : Blk w2 gl 3 (lastCells n s.late).toArray)
    (n1 : p ≠ gs) (n2 : p ≠ gl) (n3 : gs ≠ gl) (n4 : v.ownBlock ≠ some p) (n5 : v.ownBlock ≠ some gs) (n6 : v.ownBlock ≠ some gl)
    (hF : p ∈ F ∧ gs ∈ F ∧ gl ∈ F ∧ ∀ k, v.ownBlock = some k → k ∈ F)
    (k12 : Only F w1 w2) (k2a : Only [] w2 wa)
    (hg : wa.grownBy w5 v.ownBlock) (hat : v.ownBlock = some g ∨ g = wa.heap.size) :
    ∃ F' : List Nat, (∀ i ∈ F', i ∈ F ∨ w1.heap.size ≤ i) ∧ p ∈ F' ∧ gs ∈ F' ∧ gl ∈ F' ∧ g ∈ F' ∧ (g ≠ p ∧ g ≠ gs ∧ g ≠ gl) ∧ Only F w1 w5 ∧
      Blk w5 p 75 #[.slice (some ⟨gs, 0, none⟩) n n, v, .slice (some ⟨gl, 0, none⟩) n n, .int .i64 fuse, .bool dead] ∧ Blk w5 gs 87 (firmCells s.firm).flatten.toArray ∧ Blk w5 gl 3 (lastCells n s.late).toArray := by
  have l1 := hb.lt
  have l2 := hf.lt
  have l3 := hl.lt
  have hs := k2a.size
  have far : ∀ j, v.ownBlock ≠ some j → j < w2.heap.size → w5.heap[j]? = w2.heap[j]? := fun j hj hl => (hg.block j (by omega) (fun e => hj e.symm)).trans (k2a.block j hl (by simp))
  have k25 : Only v.ownBlock.toList w2 w5 := by
    refine ((k2a.more (T := v.ownBlock.toList) (by simp)).grown hg ?_)
    intro j hj
    exact .inl (by simp [hj])
  have hgf : g ∈ F ∨ w1.heap.size ≤ g := by
    rcases hat with h | h
    · exact .inl (hF.2.2.2 g h)
    · exact .inr (by have := k12.size; omega)
  refine ⟨[p, gs, gl, g], ?_, by simp, by simp, by simp, by simp, ?_, ?_, (far p n4 l1).trans hb, (far gs n5 l2).trans hf, (far gl n6 l3).trans hl⟩
  · intro i hi
    simp at hi
    rcases hi with rfl | rfl | rfl | rfl
    · exact .inl hF.1
    · exact .inl hF.2.1
    · exact .inl hF.2.2.1
    · exact hgf
  · rcases hat with h | h
    · refine ⟨?_, ?_, ?_⟩ <;> rintro rfl
      · exact n4 h
      · exact n5 h
      · exact n6 h
    · refine ⟨?_, ?_, ?_⟩ <;> omega
  · exact k12.then k25 (fun i hi => .inl (hF.2.2.2 i (by simpa using hi)))

set_option maxRecDepth 100000 in
set_option maxHeartbeats 1000000 in
theorem write_any (w : World) (p : Nat) (F : List Nat) (s : St) (k : Int) (b : List UInt8) (hk0 : -9223372036854775808 ≤ k) (hk1 : k ≤ 9223372036854775807) (hlen : s.late.length < 1048576) (hd : Dev w p F s) :
    Calls Try.prog 33 #[.pointer (some ⟨p, 0, none⟩), .int .i64 k, .string (strOf b)] w fun e w' => e = .returned (.int .i64 (writeErr s k b)) ∧ Did w w' p F (written s k b) := by
  have hsz : (strOf b).size = b.length := strOf_size b
  obtain ⟨bs, hbs⟩ : ∃ bs, bs = strOf b := ⟨_, rfl⟩
  cases hh : hasBlock s.firm.length k with
  | false =>
    have h0 : Did w w p F (written s k b) := ⟨F, by simpa [written, hh] using hd, Only.refl F w, fun k hk => .inl hk⟩
    have h0 := Lib.hid h0
    rw [← hbs] at hsz ⊢
    go_enter Try.func33, Try.ntmps33
    go_wp2_with fail
    refine (has_any w p F s k hd).mono ?_
    rintro e w1 ⟨rfl, rfl⟩
    rw [hh]
    go_wp2
    go_ret
    exact ⟨by simp [writeErr, hh], h0.out⟩
  | true =>
    by_cases hb : b.length = 256
    · rw [hb] at hsz
      have hk : 0 ≤ k ∧ k < (s.firm.length : Int) := by simpa [hasBlock] using hh
      obtain ⟨k, rfl⟩ := Int.eq_ofNat_of_zero_le hk.1
      have hkl : k < s.firm.length := by omega
      cases hburn : burns s with
      | false =>
        have h0 : written s (k : Int) b = burnt s := by simp [written, hh, hb, hburn]
        have h1 : writeErr s (k : Int) b = 5 := by simp [writeErr, hh, hb, hburn]
        rw [h0, h1, ← hbs]
        rw [← hbs] at hsz
        replace hbs := Lib.hid hbs
        go_enter Try.func33, Try.ntmps33
        go_wp2_with fail
        refine (has_any w p F s k hd).mono ?_
        rintro e w1 ⟨rfl, rfl⟩
        rw [hh]
        go_wp2_with fail
        refine (spend_any w1 p F s hd).mono ?_
        rintro e w2 ⟨rfl, h2⟩
        rw [hburn]
        have h3 : Did w1 w2 p F (burnt s) := ⟨F, h2.1, h2.2, fun k hk => .inl hk⟩
        have h3 := Lib.hid h3
        clear h2
        go_wp2
        go_ret
        exact ⟨rfl, h3.out⟩
      | true =>
        have h0 : written s (k : Int) b = { burnt s with late := s.late ++ [(k, b)] } := by simp [written, hh, hb, hburn]
        have h1 : writeErr s (k : Int) b = 0 := by simp [writeErr, hh, hb, hburn]
        obtain ⟨z, zs, hz8, hzs, hz1⟩ := zero_write2
        obtain ⟨ti, ht1, ht2, ht3, ht4⟩ := info_parts hz8
        have hz9 : (Try.prog.info? 107).map (fun i => (i.zero, i.size)) = some (some (.agg (z :: zs).toArray), 257) := by simp [ht1, ht2, ht3]
        obtain ⟨hz0, hz2⟩ := zero_of_info hz9
        replace ht1 := Lib.hid ht1
        replace ht2 := Lib.hid ht2
        replace ht3 := Lib.hid ht3
        replace ht4 := Lib.hid ht4
        rw [h0, h1, ← hbs]
        rw [← hbs] at hsz
        replace hbs := Lib.hid hbs
        clear h0 h1
        go_enter Try.func33, Try.ntmps33
        go_wp2_with fail
        refine (has_any w p F s k hd).mono ?_
        rintro e w1 ⟨rfl, rfl⟩
        rw [hh]
        go_wp2_with fail
        refine (spend_any w1 p F s hd).mono ?_
        rintro e w2 ⟨rfl, h2⟩
        rw [hburn]
        go_wp2_with (first
          | (refine wpList_store_whole rfl 107 (.tmp 7) (.tmp 23) rfl w2.heap.size (z :: zs).toArray ((.int .i64 (k : Int)) :: zs).toArray rfl rfl (Blk.new w2 _ _) (by simpa [hzs] using hz2) (by simp) (all_oneCell_toArray (by
              intro v hv
              rcases List.mem_cons.1 hv with rfl | hv
              · rfl
              · exact hz1 v hv)) ?_; intro w3 hw3 k3)
          | (refine wpList_copy_str rfl (.tmp 25) (.tmp 26) 85 9 rfl 5 Try.underlying85 (by kernel_rfl) w2.heap.size 1 256 256 b rfl (by rw [← hbs.out]; rfl) ((.int .i64 (k : Int)) :: zs) 107 hw3 hb (by simp [hzs]) (.int .i64 (k : Int) :: byteVs b) (by simp [hzs]) ?_; intro w4 hw4 k4))
        obtain ⟨q, hq⟩ : ∃ q, q = w2.heap.size := ⟨_, rfl⟩
        have k24 : Only [] w2 w4 := (((Only.refl [] w2).alloc _).then k3 (by simp)).then k4 (by simp)
        rw [← hq] at hw4 ⊢
        have hql : q < w4.heap.size := hw4.lt
        obtain ⟨gs, gl, v, hb2, hf2, hl2, hown2, ⟨n1, n2, n3, n4, n5, n6⟩, hF, fine⟩ := h2.1
        have hqp : q ≠ p := by have := hb2.lt; omega
        have hvq : v.ownBlock ≠ some q := fun e => by have := (hown2.lt q e).2; omega
        have k12 := h2.2
        clear hw3 k3 k4 h2
        rw [burnt_firm, burnt_late] at *
        have hcl : (Value.int .i64 (k : Int) :: byteVs b).length = 257 := by rw [List.length_cons, byteVs_length, hb]
        have hone : ∀ v ∈ (Value.int .i64 (k : Int) :: byteVs b), v.oneCell' = true := fun v hv => by
          rcases List.mem_cons.1 hv with rfl | hv
          · rfl
          · exact byteVs_one _ v hv
        obtain ⟨cs, hcs⟩ : ∃ cs, cs = Value.int .i64 (k : Int) :: byteVs b := ⟨_, rfl⟩
        rw [← hcs] at hw4 hcl hone
        replace hcs := Lib.hid hcs
        replace hq := Lib.hid hq
        have k2d := k24.drew
        have hwd := hw4.kept ((Only.refl [] w4).drew) (by simp)
        refine wp_region_held_drew (S := fun w' => w'.rangeAt q 0 cs) (by kernel_rfl) (fun j u hu => by
          rw [Nat.zero_add, hwd.cell j]
          simpa using hu) (fun hHeld => ?_)
        generalize w4.drew = wd at *
        have d1 := (hb2.kept k2d (by simp)).cell 1
        have g1 := (hb2.kept k2d (by simp)).free 1
        simp only [List.getElem?_toArray, List.getElem?_cons_zero, List.getElem?_cons_succ] at d1
        have k2a := k2d.alloc (.cells cs.toArray 107)
        have d1a := (hb2.kept k2a (by simp)).cell 1
        simp only [List.getElem?_toArray, List.getElem?_cons_zero, List.getElem?_cons_succ] at d1a
        have owna := ownsRow_kept' hown2 k2a (by simp)
        have hHa := World.rangeAt_alloc hHeld (.cells cs.toArray 107)
        have news := World.news_of_block (Blk.new wd 107 cs.toArray)
        obtain ⟨wa, hwa⟩ : ∃ wa, wa = wd.alloc (.cells cs.toArray 107) := ⟨_, rfl⟩
        rw [← hwa] at k2a d1a owna hHa news
        replace hwa := Lib.hid hwa
        refine held_take 0 (.pointer (some ⟨p, 0, none⟩)) rfl (by kernel_rfl) (by kernel_rfl) (by kernel_rfl) (fun _ _ _ h => h) hHeld (Or.inl ⟨by rfl, fun w' _ => by go_simp⟩) ?_
        simp only [Act.put, List.setIfInBounds_toArray, List.set_cons_zero, List.set_cons_succ]
        refine held_take 1 (.pointer (some ⟨p, 0, none⟩)) rfl (by kernel_rfl) (by kernel_rfl) (by kernel_rfl) (fun _ _ _ h => h) hHeld (Or.inl ⟨by rfl, fun w' _ => by go_simp⟩) ?_
        simp only [Act.put, List.setIfInBounds_toArray, List.set_cons_zero, List.set_cons_succ]
        refine held_take 2 (.pointer (some ⟨p, 0, none⟩)) rfl (by kernel_rfl) (by kernel_rfl) (by kernel_rfl) (fun _ _ _ h => h) hHeld (Or.inl ⟨by rfl, fun w' _ => by go_simp⟩) ?_
        simp only [Act.put, List.setIfInBounds_toArray, List.set_cons_zero, List.set_cons_succ]
        refine held_take 3 (.pointer (some ⟨p, 1, none⟩)) rfl (by kernel_rfl) (by kernel_rfl) (by kernel_rfl) (fun _ _ _ h => h) hHeld (Or.inl ⟨by rfl, fun w' _ => by go_simp⟩) ?_
        simp only [Act.put, List.setIfInBounds_toArray, List.set_cons_zero, List.set_cons_succ]
        refine held_take 5 (.agg cs.toArray) rfl (by kernel_rfl) (by kernel_rfl) (by kernel_rfl) (fun _ _ _ h => h) hHeld (yieldsIf_load_mid (by rfl) 107 (.tmp 7) rfl q 0 rfl cs _ (fun w' h => h) Try.underlying107 rfl (by rw [hcl]; exact hz2)) ?_
        simp only [Act.put, List.setIfInBounds_toArray, List.set_cons_zero, List.set_cons_succ]
        refine held_step2 4 6 rfl rfl (by kernel_rfl) (fun K hK => ?_) (fun K hK => ?_)
        rotate_left
        refine step_buildSlice_whole rfl 73 (.tmp 33) rfl 107 cs _ Try.underlying73 (by rw [hcl]; exact hz9) (by omega) (by omega) rfl ?_
        rw [← hwa.out]
        refine hK.out _ _ hHa (fun hHeld => ?_)
        clear hK K
        simp only [Act.put, List.setIfInBounds_toArray, List.set_cons_zero, List.set_cons_succ]
        refine held_step 4 rfl (by kernel_rfl) (fun K hK => ?_)
        go_simp
        refine hK.out _ _ hHa (fun hHeld => ?_)
        clear hK K
        rotate_left
        go_simp
        refine hK.out _ _ hHeld (fun hHeld => ?_)
        clear hK K
        refine held_step 6 rfl (by kernel_rfl) (fun K hK => ?_)
        refine step_buildSlice_whole rfl 73 (.tmp 33) rfl 107 cs _ Try.underlying73 (by rw [hcl]; exact hz9) (by omega) (by omega) rfl ?_
        rw [← hwa.out]
        refine hK.out _ _ hHa (fun hHeld => ?_)
        clear hK K
        simp only [Act.put, List.setIfInBounds_toArray, List.set_cons_zero, List.set_cons_succ]
        all_goals
          refine held_step 7 rfl (by kernel_rfl) (fun K hK => ?_)
          refine step_append_lies _ rfl (.tmp 32) (.tmp 34) 73 rfl 0 107 ti (.agg (z :: zs).toArray) 257 264 Try.underlying73 ht1.out ht2.out ht3.out ht4.out (by simp [hzs, Value.cells]) (by decide) v s.late.length _ rfl owna ⟨wd.heap.size, 0, none⟩ 1 1 cs rfl (by omega) (by simpa using news) hone (by decide) (by unfold maxLen; omega) (by omega) (Nat.zero_le _) _ rfl ?_
          intro g c' w5 hown5 hgrow hat hlt
          obtain ⟨F', hF', f1, f2, f3, f4, ⟨m1, m2, m3⟩, k15, b5, f5, l5⟩ := app_done hb2 hf2 hl2 n1 n2 n3 n4 n5 n6 hF k12 k2a hgrow hat
          have e1 := b5.cell 1
          have e2 := b5.free 1
          simp only [List.getElem?_toArray, List.getElem?_cons_zero, List.getElem?_cons_succ] at e1
          have hqa : q < wa.heap.size := by rw [hwa.out]; have := hwd.lt; simp; omega
          have hH5 : w5.rangeAt q 0 cs := fun j u hu => (hgrow.cell_far ⟨q, 0 + j, none⟩ hqa (fun e => hvq e.symm)).trans (hHeld j u hu)
          refine hK.out _ _ hH5 (fun hHeld => ?_)
          clear hK K
          simp only [Act.put, List.setIfInBounds_toArray, List.set_cons_zero, List.set_cons_succ]
          refine held_take 8 (.pointer (some ⟨p, 0, none⟩)) rfl (by kernel_rfl) (by kernel_rfl) (by kernel_rfl) (fun _ _ _ h => h) hHeld (Or.inl ⟨by rfl, fun w' _ => by go_simp⟩) ?_
          simp only [Act.put, List.setIfInBounds_toArray, List.set_cons_zero, List.set_cons_succ]
          refine held_take 9 (.pointer (some ⟨p, 1, none⟩)) rfl (by kernel_rfl) (by kernel_rfl) (by kernel_rfl) (fun _ _ _ h => h) hHeld (Or.inl ⟨by rfl, fun w' _ => by go_simp⟩) ?_
          simp only [Act.put, List.setIfInBounds_toArray, List.set_cons_zero, List.set_cons_succ]
          refine held_step 10 rfl (by kernel_rfl) (fun K hK => ?_)
          have k56 : Only [p] w5 (w5.setCell ⟨p, 1, none⟩ (.slice (some ⟨g, 0, none⟩) (s.late.length + 1) c')) := Only.set w5 [p] (by simp) _
          have b6 := b5.set 1 (.slice (some ⟨g, 0, none⟩) (s.late.length + 1) c')
          have f6 := f5.kept k56 (by simp; exact fun e => n1 e.symm)
          have l6 := l5.kept k56 (by simp; exact fun e => n2 e.symm)
          have hH6 : (w5.setCell ⟨p, 1, none⟩ (.slice (some ⟨g, 0, none⟩) (s.late.length + 1) c')).rangeAt q 0 cs := fun j u hu => k56.cell (hH5 j u hu) (by simpa using hqp)
          have own6 := ownsRow_kept' hown5 k56 (by simp [Value.ownBlock]; exact m1)
          have k16 := (k15.more (T := F) (fun i hi => .inl hi)).then k56 (by simp; exact .inl hF.1)
          simp only [List.setIfInBounds_toArray, List.set_cons_zero, List.set_cons_succ] at b6
          go_simp
          refine hK.out _ _ hH6 (fun hHeld => ?_)
          clear hK K
          refine wpAnyH_done (by kernel_rfl) ?_ _
          generalize w5.setCell ⟨p, 1, none⟩ (.slice (some ⟨g, 0, none⟩) (s.late.length + 1) c') = w6 at *
          clear hHeld hH5 hH6 k56 b5 f5 l5 hown5 hgrow e1 e2 hb2 hf2 hl2 k2a k12 hat owna news hHa
          have d1 := b6.cell 1
          have d2 := b6.cell 2
          simp only [List.getElem?_toArray, List.getElem?_cons_zero, List.getElem?_cons_succ] at d1 d2
          go_wp2
          go_still_tail 11, (by kernel_rfl)
          change wpList _ _ _ _ _ w6.drew
          have kd : Only [] w6 w6.drew := (Only.refl [] w6).drew
          have b7 := b6.kept kd (by simp)
          have f7 := f6.kept kd (by simp)
          have l7 := l6.kept kd (by simp)
          have own7 := ownsRow_kept' own6 kd (by simp)
          have k17 := k16.drew
          generalize w6.drew = w7 at *
          have e3 : w7.cell? ⟨gl, k, none⟩ = some (.int .i64 (lastOf s.late k : Int)) := last_cell l7 hkl
          have e4 := l7.free k
          have k78 : Only [gl] w7 (w7.setCell ⟨gl, k, none⟩ (.int .i64 ((s.late.length : Int) + 1))) := Only.set w7 [gl] (by simp) _
          have l8 := l7.set k (.int .i64 ((s.late.length : Int) + 1))
          simp only [List.setIfInBounds_toArray, lastCells_snoc s.firm.length s.late k b _ rfl] at l8
          have hfin : Did w1 (w7.setCell ⟨gl, k, none⟩ (.int .i64 ((s.late.length : Int) + 1))) p F ⟨s.firm, s.late ++ [(k, b)], (burnt s).fuse, (burnt s).dead⟩ := by
            refine ⟨F', ⟨gs, gl, .slice (some ⟨g, 0, none⟩) (s.late.length + 1) c', b7.kept k78 (by simpa using n2), f7.kept k78 (by simpa using n3), l8, ?_, ⟨n1, n2, n3, by simpa [Value.ownBlock] using m1, by simpa [Value.ownBlock] using m2, by simpa [Value.ownBlock] using m3⟩, ⟨f1, f2, f3, by simpa [Value.ownBlock] using f4⟩, ?_⟩, ?_, hF'⟩
            · have := ownsRow_kept' own7 k78 (by simpa [Value.ownBlock] using m3)
              rw [hcs.out] at this
              rw [lateCells_snoc]
              simpa using this
            · have := hd.fine.written (k : Int) b
              simpa [written, hh, hb, hburn, burnt_firm] using this
            · exact k17.then k78 (by simp; exact .inl hF.2.2.1)
          replace hfin := Lib.hid hfin
          clear b7 f7 l7 own7 k17 l8 k78 kd b6 f6 l6 own6 k16
          go_wp2
          go_ret
          exact ⟨rfl, by rw [burnt_firm]; exact hfin.out⟩
    · have h0 : Did w w p F (written s k b) := ⟨F, by simpa [written, hh, hb] using hd, Only.refl F w, fun k hk => .inl hk⟩
      have h0 := Lib.hid h0
      have hne : ¬ ((b.length : Int) = 256) := by omega
      rw [← hbs] at hsz ⊢
      have herr : writeErr s k b = 1 := by simp [writeErr, hh, hb]
      rw [herr]
      clear herr hb hbs
      generalize b.length = bn at *
      go_enter Try.func33, Try.ntmps33
      go_wp2_with fail
      refine (has_any w p F s k hd).mono ?_
      rintro e w1 ⟨rfl, rfl⟩
      rw [hh]
      go_wp2
      go_ret
      exact ⟨rfl, h0.out⟩

end Go.Proofs.Ytihoebmfanelkaa
