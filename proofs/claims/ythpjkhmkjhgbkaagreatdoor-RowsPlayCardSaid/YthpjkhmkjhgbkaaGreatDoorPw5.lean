/- The document's Plan. -/
import Derived.Test.YthpjkhmkjhgbkaaGreatDoorPm5
namespace Go.Proofs.YthpjkhmkjhgbkaaGreatDoor
open Go.RowKit Go.Maps

def PlanIs (w w' : World) (o : Option (List Rw × List Bk)) (e : Ending) : Prop := match o with
  | none => e = .returned (.tuple #[.slice none 0 0, .slice none 0 0, .bool false]) ∧ Only [] w w'
  | some x => ∃ v u, e = .returned (.tuple #[v, u, .bool true]) ∧ Mine rwE 3 81 w w' v x.1 ∧ NewEls bkE 2 w w' u x.2
theorem PlanIs.no {w w' : World} {o : Option (List Rw × List Bk)} (h : o = none) (k : Only [] w w') : PlanIs w w' o (.returned (.tuple #[.slice none 0 0, .slice none 0 0, .bool false])) := by
  subst h
  exact ⟨rfl, k⟩
theorem PlanIs.yes {w w' : World} {o : Option (List Rw × List Bk)} {L : List Rw} {O : List Bk} {v u : Value} (h : o = some (L, O)) (k : Mine rwE 3 81 w w' v L) (j : NewEls bkE 2 w w' u O) : PlanIs w w' o (.returned (.tuple #[v, u, .bool true])) := by
  subst h
  exact ⟨v, u, rfl, k, j⟩
theorem plan_none {N : Nat} {M : List Rw} {l : List Ch} {k : Nat} (h : pputs (l.foldl pdel (plan0 N M)) (l.take k) = none) : planL N M l = none := by
  unfold planL
  rw [pputs_none l _ k h]
theorem plan_some {N : Nat} {M : List Rw} {l : List Ch} {st : PlanS} (h : pputs (l.foldl pdel (plan0 N M)) l = some st) : planL N M l = some (st.now, blkUp st N) := by
  unfold planL
  rw [h]

set_option maxRecDepth 1000000 in
set_option maxHeartbeats 8000000 in
theorem rplan_any (w : World) (A B : Option Addr) (c d N : Nat) (M : List Rw) (l : List Ch) (hA : Els rwE 3 w A M) (hs : Sorted M) (ha : ∀ r ∈ M, r.at_ < N) (hN : N ≤ 1024) (hMN : M.length ≤ N) (hb : Els chE 3 w B l) (hl : l.length ≤ 40) (hsm : smallC l) :
    Calls Tryz.prog 62 #[.slice A M.length c, .int .i64 (N : Int), .slice B l.length d] w fun e w' => PlanIs w w' (planL N M l) e := by
  have hNI : (N : Int) ≤ 1024 := by omega
  have hMI : (M.length : Int) ≤ 1024 := by omega
  have hlI : (l.length : Int) ≤ 40 := by omega
  have hg0 := plan0_good hs ha
  have hp0 : plan0 N M = ⟨M, tkL N M, List.replicate N [], List.replicate N false⟩ := rfl
  have hB0 : Blk (w.alloc (.cells #[] 81)) w.heap.size 81 #[] := Blk.new _ _ _
  have ho0 : (w.alloc (.cells #[] 81)).ownsRow 0 81 3 (.slice (some ⟨w.heap.size, 0, none⟩) 0 0) 0 (encs rwE ([] : List Rw)) := World.ownsRow_lit w #[] 0 (Nat.zero_le _) (by unfold maxLen; omega) rfl
  have k0 : Only [] w (w.alloc (.cells #[] 81)) := (Only.refl [] w).alloc _
  have hm0 : Mine rwE 3 81 w (w.alloc (.cells #[] 81)) (.slice (some ⟨w.heap.size, 0, none⟩) 0 0) [] := ⟨ho0, fun g hg => by simp [Value.ownBlock] at hg; omega, k0⟩
  have hA0 := hA.kept k0 (by simp)
  replace hp0 := Lib.hid hp0
  replace hg0 := Lib.hid hg0
  clear hB0 ho0
  go_enter Tryz.func62, Tryz.ntmps62
  go_wp2_with (at_builtin; go_must (refine wpList_append_any rwE_length (by decide) rwE_one rfl (.tmp 23) (.tmp 24) 32 rfl 81 (.agg #[.string ⟨#[]⟩, .string ⟨#[]⟩, .int .i64 0]) 40 Tryz.underlying32 info_rw rfl (.slice (some ⟨w.heap.size, 0, none⟩) 0 0) 0 [] rfl hm0.own A c M rfl hA0 ?c1 ?c2 ?go))
  case c1 => unfold maxLen; omega
  case c2 => omega
  case go =>
  intro v3 w3 hown3 hg3 hat3
  have hm3 := hm0.joined (by simpa using hown3) hg3 (by simpa using hat3)
  rw [List.nil_append] at hm3
  clear hown3 hg3 hat3 hm0 hA0 k0
  obtain ⟨C, hC⟩ : ∃ C, (List.replicate N (Value.bool false)).toArray = C := ⟨_, rfl⟩
  obtain ⟨E, hE⟩ : ∃ E, (List.replicate N (Value.string ⟨#[]⟩)).toArray = E := ⟨_, rfl⟩
  have hCu : C = boolVs (tkL N []) := by rw [← hC, tkL_nil N]; rfl
  have hCv : C = boolVs (List.replicate N false) := by rw [← hC]; simp [boolVs]
  have hEt : E = strVs (List.replicate N []) := by rw [← hE]; simp [strVs, strCells, strOf]
  replace hC := Lib.hid hC
  replace hE := Lib.hid hE
  replace hCu := Lib.hid hCu
  replace hCv := Lib.hid hCv
  replace hEt := Lib.hid hEt
  go_wp2_with (first | (refine wpList_make_cells _ rfl _ _ 167 rfl 4 (.bool false) 1 Tryz.underlying167 info_bool rfl .i64 .i64 N N N rfl rfl rfl rfl (by omega) (by omega) ?_; rw [hC.out]) | (refine wpList_make_cells _ rfl _ _ 45 rfl 9 (.string ⟨#[]⟩) 16 Tryz.underlying45 info_text rfl .i64 .i64 N N N rfl rfl rfl rfl (by omega) (by omega) ?_; rw [hE.out]))
  have kt1 : Only [] w3 (w3.alloc (.cells C 4)) := (Only.refl [] w3).alloc _
  have bt1 := Blk.new w3 4 C
  have kt2 : Only [] (w3.alloc (.cells C 4)) ((w3.alloc (.cells C 4)).alloc (.cells E 9)) := (Only.refl [] _).alloc _
  have bt2 := Blk.new (w3.alloc (.cells C 4)) 9 E
  have kt3 : Only [] ((w3.alloc (.cells C 4)).alloc (.cells E 9)) (((w3.alloc (.cells C 4)).alloc (.cells E 9)).alloc (.cells C 4)) := (Only.refl [] _).alloc _
  have bt3 := Blk.new ((w3.alloc (.cells C 4)).alloc (.cells E 9)) 4 C
  have z1 : (w3.alloc (.cells C 4)).heap.size = w3.heap.size + 1 := by simp
  have z2 : ((w3.alloc (.cells C 4)).alloc (.cells E 9)).heap.size = w3.heap.size + 2 := by simp
  rw [z1] at bt2
  rw [z2] at bt3
  have hmem : PMem w (((w3.alloc (.cells C 4)).alloc (.cells E 9)).alloc (.cells C 4)) w3.heap.size (w3.heap.size + 1) (w3.heap.size + 2) v3 ⟨M, tkL N [], List.replicate N [], List.replicate N false⟩ := by
    have hsz := hm3.only.size
    refine ⟨hm3.keep ((kt1.trans kt2).trans kt3), ?_, ?_, ?_, by omega, by omega, by omega, by omega, by omega, by omega, fun g hg => ?_⟩
    · rw [← hCu.out]; exact bt1.kept (kt2.trans kt3) (by simp)
    · rw [← hEt.out]; exact bt2.kept kt3 (by simp)
    · rw [← hCv.out]; exact bt3
    · have := (hm3.own.lt g hg).2
      omega
  obtain ⟨ub, hub⟩ : ∃ ub, ub = w3.heap.size := ⟨_, rfl⟩
  simp only [← hub] at hmem ⊢
  generalize (((w3.alloc (.cells C 4)).alloc (.cells E 9)).alloc (.cells C 4)) = w4 at *
  clear kt1 kt2 kt3 bt1 bt2 bt3 z1 z2 hm3 hub hCu hCv hEt hC hE
  clear w3 C E
  rw [show ub + 2 = ub + 1 + 1 from rfl] at hmem
  generalize ub + 1 = tb at *
  generalize tb + 1 = vb at *
  obtain ⟨A2, c2, hv, _, _, _, _⟩ := hmem.now.shape rwE_length
  subst hv
  simp only at *
  go_loopw [13] (fun i wr => ∃ k : Nat, k ≤ M.length ∧ i = .int .i64 k ∧ PMem w wr ub tb vb (.slice A2 M.length c2) ⟨M, tkL N (M.take k), List.replicate N [], List.replicate N false⟩) (fun i _ => M.length - (intOf i).toNat)
  case atStart => exact ⟨0, Nat.zero_le _, rfl, hmem⟩
  case round =>
    clear hmem
    obtain ⟨k, hk, rfl, hmem⟩ := hrel
    by_cases hlt : k < M.length
    · obtain ⟨A', c', he, hel, _, _, _⟩ := hmem.now.shape rwE_length
      injection he with e1 _ e3
      subst e1
      subst e3
      obtain ⟨g, o, rfl, hg, hat⟩ := hel.get hlt
      obtain ⟨_, _, x2⟩ := rws_at hat hlt
      have hat' := ha _ (List.getElem_mem hlt)
      have htk := tkL_snoc N (M.take k) M[k] hat'
      have hst : M.take (k + 1) = M.take k ++ [M[k]] := by rw [List.take_add_one, List.getElem?_eq_getElem hlt]; rfl
      rw [← hst] at htk
      generalize M[k] = r at *
      obtain ⟨u1, f1⟩ := hmem.atU (i := r.at_) (by simpa [tkL] using hat')
      have hm2 := hmem.setU r.at_ true
      simp only at hm2 u1
      rw [htk] at hm2
      have hatI : (r.at_ : Int) < (N : Int) := by omega
      generalize (tkL N (M.take k))[r.at_]'(by simpa [tkL] using hat') = ob at *
      replace hm2 := Lib.hid hm2
      replace hst := Lib.hid hst
      replace htk := Lib.hid htk
      clear hmem hel hat
      go_wp2
      go_roundw
      case rel => exact ⟨k + 1, by omega, by go_num, hm2.out⟩
      case measure => simp [intOf]; omega
    · obtain rfl : k = M.length := by omega
      rw [List.take_length] at hmem
      rw [← hp0.out] at hmem
      have hge : ¬ (M.length : Int) < (M.length : Int) := by omega
      go_wp2
      go_loopw [9, 14] (fun v i wr => ∃ (k : Nat) (st : PlanS), k ≤ l.length ∧ i = .int .i64 k ∧ Hid (st = (l.take k).foldl pdel (plan0 N M)) ∧ PGood N M.length st ∧ PMem w wr ub tb vb v st) (fun _ i _ => l.length - (intOf i).toNat)
      case atStart => exact ⟨0, plan0 N M, Nat.zero_le _, rfl, rfl, hg0.out, hmem⟩
      case round =>
        clear hmem hge
        obtain ⟨k, st, hk, rfl, hst, hgood, hmem⟩ := hrel
        obtain ⟨A3, c3, hv, hel, hc3, hA3, hform⟩ := hmem.now.shape rwE_length
        subst hv
        have hnl := hgood.len
        by_cases hlt : k < l.length
        · obtain ⟨g, o, rfl, hg, hat⟩ := hb.get hlt
          obtain ⟨x0, _, x2⟩ := chs_at (hat.kept hmem.only (by simp)) hlt
          have hnext : (l.take (k + 1)).foldl pdel (plan0 N M) = pdel st l[k] := by rw [foldl_take pdel _ l k hlt, ← hst.out]
          have hgn := pdel_good hgood l[k]
          have hfind := rfind_any wr A3 c3 st.now l[k].key hel (by omega)
          generalize l[k] = x at *
          obtain ⟨key, val, gone⟩ := x
          simp only at x0 x2 hfind
          generalize hks : strOf key = ks at *
          replace hks := Lib.hid hks
          replace hfind := Lib.hid hfind
          cases gone with
          | false =>
            have hpd : pdel st ⟨key, val, false⟩ = st := rfl
            rw [hpd] at hnext
            have hnx : Hid (st = (l.take (k + 1)).foldl pdel (plan0 N M)) := hnext.symm
            clear hpd hnext hgn
            go_wp2_with fail
            refine hfind.out.mono ?_
            rintro e w2 ⟨hfi, k2⟩
            have y2 := k2.cell x2 (by simp)
            have hm2 := hmem.keep k2
            clear hmem k2 x0 x2 hel
            rcases hfi with ⟨i, r, _, _, rfl⟩ | ⟨_, rfl⟩
            all_goals
              go_wp2
              go_roundw
              case rel => exact ⟨k + 1, st, by omega, by go_num, hnx, hgood, hm2⟩
              case measure => simp [intOf]; omega
          | true =>
            go_wp2_with fail
            refine hfind.out.mono ?_
            rintro e w2 ⟨hfi, k2⟩
            have y2 := k2.cell x2 (by simp)
            have hm2 := hmem.keep k2
            have hel2 := hel.kept k2 (by simp)
            clear hmem k2 x0 x2 hel hfind
            rcases hfi with ⟨i, r, hi, hrk, rfl⟩ | ⟨hno, rfl⟩
            · have hf : findR st.now key = some r := (findR_iff hgood.sorted).2 ⟨List.mem_of_getElem? hi, hrk⟩
              have hpd : pdel st ⟨key, val, true⟩ = ⟨delR st.now key, st.used.set r.at_ false, st.texts.set r.at_ [], st.turned.set r.at_ true⟩ := by
                unfold pdel
                simp only [if_true]
                rw [hf]
              rw [hpd] at hnext hgn
              have hdel := del_at hgood.sorted hi
              rw [hrk] at hdel
              obtain ⟨hil, hie⟩ := List.getElem?_eq_some_iff.1 hi
              obtain ⟨g3, o3, rfl, hg3, hat3⟩ := hel2.get hil
              obtain ⟨_, _, z2⟩ := rws_at hat3 hil
              rw [hie] at z2
              have haN := hgood.at_lt r (List.mem_of_getElem? hi)
              obtain ⟨u1, f1⟩ := hm2.atU (i := r.at_) (by rw [hgood.lenU]; exact haN)
              have hm3 := hm2.setU r.at_ false
              obtain ⟨u2, f2⟩ := hm3.atT (i := r.at_) (by rw [hgood.lenT]; exact haN)
              have hm4 : PMem w ((w2.setCell ⟨ub, r.at_, none⟩ (.bool false)).setCell ⟨tb, r.at_, none⟩ (.string ⟨#[]⟩)) ub tb vb (.slice (some ⟨g3, o3, none⟩) st.now.length c3) ⟨st.now, st.used.set r.at_ false, st.texts.set r.at_ [], st.turned⟩ := hm3.setT r.at_ []
              obtain ⟨u3, f3⟩ := hm4.atV (i := r.at_) (by rw [hgood.lenV]; exact haN)
              have hm5 := hm4.setV r.at_ true
              simp only at u1 u2 u3 hm5
              generalize st.used[r.at_]'(by rw [hgood.lenU]; exact haN) = ob1 at *
              generalize strOf (st.texts[r.at_]'(by rw [hgood.lenT]; exact haN)) = ob2 at *
              generalize st.turned[r.at_]'(by rw [hgood.lenV]; exact haN) = ob3 at *
              have haI : (r.at_ : Int) < (N : Int) := by omega
              have hiI : (i : Int) < (st.now.length : Int) := by omega
              have hi0 : 0 ≤ (i : Int) := by omega
              have hnI : (st.now.length : Int) ≤ 1024 := by omega
              have hcI : (st.now.length : Int) ≤ (c3 : Int) := by omega
              have hicI : (i : Int) ≤ (c3 : Int) := by omega
              have hi1I : (i : Int) + 1 ≤ (st.now.length : Int) := by omega
              have htake : (st.now.take i).length = i := by simp; omega
              have hdrop : (st.now.drop (i + 1)).length = st.now.length - (i + 1) := by simp
              have hnx : Hid ((⟨delR st.now key, st.used.set r.at_ false, st.texts.set r.at_ [], st.turned.set r.at_ true⟩ : PlanS) = (l.take (k + 1)).foldl pdel (plan0 N M)) := hnext.symm
              replace hdel := Lib.hid hdel
              replace htake := Lib.hid htake
              replace hdrop := Lib.hid hdrop
              replace hi := Lib.hid hi
              replace hie := Lib.hid hie
              replace hrk := Lib.hid hrk
              replace hf := Lib.hid hf
              have hat5 := hm5.now.elsAt hil
              clear hpd hnext hm2 hm3 hm4 hat3 hel2
              by_cases hlast : i + 1 < st.now.length
              · have hlI : (i : Int) + 1 < (st.now.length : Int) := by omega
                go_wp2_with (at_builtin; go_must (refine wpList_append_els rwE_length (by decide) rwE_one rfl (.tmp 82) (.tmp 85) 32 rfl 81 (.agg #[.string ⟨#[]⟩, .string ⟨#[]⟩, .int .i64 0]) 40 Tryz.underlying32 info_rw rfl (.slice none 0 0) 0 [] rfl (World.ownsRow_nil _ 0 _ 3) g3 o3 i _ (st.now.take i) htake.out.symm rfl (hat5.take i) ?c1 ?c2 ?go))
                case c1 => unfold maxLen; omega
                case c2 => omega
                case go =>
                intro v6 w6 hown6 hg6 ha6
                have hm6 := (Mine.start rwE 3 81 (Only.refl [] _)).joined (by rw [htake.out]; simpa using hown6) hg6 (by simpa using ha6)
                rw [List.nil_append] at hm6
                have hat6 := hat5.kept hm6.only (by simp)
                clear hown6 hg6 ha6
                go_wp2_with (at_builtin; go_must (refine wpList_append_els rwE_length (by decide) rwE_one rfl (.tmp 87) (.tmp 91) 32 rfl 81 (.agg #[.string ⟨#[]⟩, .string ⟨#[]⟩, .int .i64 0]) 40 Tryz.underlying32 info_rw rfl v6 (st.now.take i).length (st.now.take i) rfl hm6.own g3 (o3 + (i + 1) * 3) (st.now.length - (i + 1)) _ (st.now.drop (i + 1)) hdrop.out.symm rfl (hat6.drop (i + 1)) ?d1 ?d2 ?go2))
                case d1 => have := htake.out; unfold maxLen; omega
                case d2 => have := htake.out; omega
                case go2 =>
                intro v7 w7 hown7 hg7 ha7
                have hm7 := hm6.joined (by rw [hdrop.out]; simpa using hown7) hg7 ha7
                rw [hdel.out] at hm7
                have hm8 := hm5.lay hm7
                simp only at hm8
                clear hown7 hg7 ha7 hm6 hm7 hat6 hat5 hm5 y2 u1 u2 u3 f1 f2 f3
                go_wp2
                go_roundw
                case rel => exact ⟨k + 1, _, by omega, by go_num, hnx, hgn, hm8⟩
                case measure => simp [intOf]; omega
              · have hdn : st.now.drop (i + 1) = [] := List.drop_of_length_le (by omega)
                have hcl : (i : Int) + 1 ≤ (c3 : Int) := by omega
                have hz0 : st.now.length - (i + 1) = 0 := by omega
                replace hdel := hdel.out
                rw [hdn, List.append_nil] at hdel
                replace hdel := Lib.hid hdel
                go_wp2_with (at_builtin; go_must (refine wpList_append_els rwE_length (by decide) rwE_one rfl (.tmp 82) (.tmp 85) 32 rfl 81 (.agg #[.string ⟨#[]⟩, .string ⟨#[]⟩, .int .i64 0]) 40 Tryz.underlying32 info_rw rfl (.slice none 0 0) 0 [] rfl (World.ownsRow_nil _ 0 _ 3) g3 o3 i _ (st.now.take i) htake.out.symm rfl (hat5.take i) ?c1 ?c2 ?go))
                case c1 => unfold maxLen; omega
                case c2 => omega
                case go =>
                intro v6 w6 hown6 hg6 ha6
                have hm6 := (Mine.start rwE 3 81 (Only.refl [] _)).joined (by rw [htake.out]; simpa using hown6) hg6 (by simpa using ha6)
                rw [List.nil_append] at hm6
                clear hown6 hg6 ha6
                go_wp2_with (at_builtin; go_must (refine wpList_append_any rwE_length (by decide) rwE_one rfl (.tmp 87) (.tmp 91) 32 rfl 81 (.agg #[.string ⟨#[]⟩, .string ⟨#[]⟩, .int .i64 0]) 40 Tryz.underlying32 info_rw rfl v6 (st.now.take i).length (st.now.take i) rfl hm6.own _ _ [] rfl (.inl rfl) ?d1 ?d2 ?go2))
                all_goals first
                  | (have := htake.out; unfold maxLen; simp only [List.length_nil]; omega)
                  | (have := htake.out; simp only [List.length_nil]; omega)
                  | (intro v7 w7 hown7 hg7 ha7
                     have hm7 := hm6.joined (ys := []) (by simpa using hown7) hg7 ha7
                     rw [List.append_nil, hdel.out] at hm7
                     have hm8 := hm5.lay hm7
                     simp only at hm8
                     clear hown7 hg7 ha7 hm6 hm7 hat5 hm5 y2 u1 u2 u3 f1 f2 f3
                     go_wp2
                     go_roundw
                     case rel => exact ⟨k + 1, _, by omega, by go_num, hnx, hgn, hm8⟩
                     case measure => simp [intOf]; omega)
            · have hpd : pdel st ⟨key, val, true⟩ = st := by
                unfold pdel
                simp only [if_true]
                rw [findR_none.2 hno]
              rw [hpd] at hnext
              have hnx : Hid (st = (l.take (k + 1)).foldl pdel (plan0 N M)) := hnext.symm
              clear hpd hnext hgn hel2 hno
              go_wp2
              go_roundw
              case rel => exact ⟨k + 1, st, by omega, by go_num, hnx, hgood, hm2⟩
              case measure => simp [intOf]; omega
        · obtain rfl : k = l.length := by omega
          rw [List.take_length] at hst
          have hge : ¬ (l.length : Int) < (l.length : Int) := by omega
          rename PlanS => sD
          have hD := hst
          clear hst
          have hg3 := Lib.hid hgood
          clear hgood hel hc3 hA3 hform hnl
          go_wp2
          go_loopw [9, 18] (fun v i wr => ∃ (k : Nat) (st : PlanS), k ≤ l.length ∧ i = .int .i64 k ∧ Hid (pputs sD (l.take k) = some st) ∧ PGood N (M.length + k) st ∧ PMem w wr ub tb vb v st) (fun _ i _ => l.length - (intOf i).toNat)
          case atStart => exact ⟨0, sD, Nat.zero_le _, rfl, rfl, hg3.out, hmem⟩
          case round =>
            clear hmem hge
            obtain ⟨k, st, hk, rfl, hst, hgood, hmem⟩ := hrel
            obtain ⟨A3, c3, hv, hel, hc3, hA3, hform⟩ := hmem.now.shape rwE_length
            have hnl := hgood.len
            by_cases hlt : k < l.length
            · obtain ⟨g, o, rfl, hg, hat⟩ := hb.get hlt
              obtain ⟨x0, x1, x2⟩ := chs_at (hat.kept hmem.only (by simp)) hlt
              have hnext : pputs sD (l.take (k + 1)) = pput st l[k] := by rw [pputs_take l sD k hlt, hst.out]
              have hsk := hsm l[k] (List.getElem_mem hlt)
              have hgn := fun st' h => pput_good hgood (st' := st') hsk.1 hsk.2 h
              have hfind := rfind_any wr A3 c3 st.now l[k].key hel (by omega)
              have hdata := fun W => rdata_any W l[k].key l[k].val hsk.1 hsk.2
              rw [← hv] at hfind
              generalize l[k] = x at *
              obtain ⟨key, val, gone⟩ := x
              simp only at x0 x1 x2 hfind hdata hsk
              generalize hks : strOf key = ks at *
              generalize hvs : strOf val = vs at *
              obtain ⟨pds, hpds⟩ : ∃ pds, strOf (padD key val) = pds := ⟨_, rfl⟩
              rw [hpds] at hdata
              replace hpds := Lib.hid hpds
              replace hks := Lib.hid hks
              replace hvs := Lib.hid hvs
              replace hfind := Lib.hid hfind
              replace hdata := Lib.hid hdata
              cases gone with
              | true =>
                have hpp : pput st ⟨key, val, true⟩ = some st := rfl
                have hgn' := hgn st hpp
                rw [hpp] at hnext
                have hnx : Hid (pputs sD (l.take (k + 1)) = some st) := hnext
                clear hpp hnext hgn hfind hdata hform hv hel
                go_wp2
                go_roundw
                case rel => exact ⟨k + 1, st, by omega, by go_num, hnx, hgn', hmem⟩
                case measure => simp [intOf]; omega
              | false =>
                have hvl : ∀ r : Rw, ((strOf r.val).toList == vs.toList) = (r.val == val) := fun r => by rw [← hvs.out, str_toL, str_toL]
                replace hvl := Lib.hid hvl
                replace hv := Lib.hid hv
                go_wp2_with fail
                refine hfind.out.mono ?_
                rintro e w2 ⟨hfi, k2⟩
                have y0 := k2.cell x0 (by simp)
                have y1 := k2.cell x1 (by simp)
                have y2 := k2.cell x2 (by simp)
                have hm2 := hmem.keep k2
                clear hmem k2 x0 x1 x2 hel hfind
                rcases hfi with ⟨i, r, hi, hrk, rfl⟩ | ⟨hno, rfl⟩
                · have hf : findR st.now key = some r := (findR_iff hgood.sorted).2 ⟨List.mem_of_getElem? hi, hrk⟩
                  obtain ⟨hil, hie⟩ := List.getElem?_eq_some_iff.1 hi
                  have hvv := hv.out
                  rcases hform with hform | ⟨g3, cc, hform⟩
                  · rw [hform] at hvv
                    injection hvv with _ e1 _
                    omega
                  · subst hform
                    have hat3 := hm2.now.elsAt hil
                    obtain ⟨_, z1, z2⟩ := rws_at hat3 hil
                    rw [hie] at z1 z2
                    rw [Nat.zero_add] at z1 z2
                    have haN := hgood.at_lt r (List.mem_of_getElem? hi)
                    have haI : (r.at_ : Int) < (N : Int) := by omega
                    have hiI : (i : Int) < (st.now.length : Int) := by omega
                    have hi0 : 0 ≤ (i : Int) := by omega
                    have hfz := ownsRow_free hm2.now.own (i * 3 + 1)
                    have hb1 := hvl.out r
                    by_cases he : r.val = val
                    · have hpp : pput st ⟨key, val, false⟩ = some st := by
                        unfold pput
                        simp only [Bool.false_eq_true, if_false]
                        rw [hf]
                        simp only
                        rw [if_pos he]
                      have hgn' := hgn st hpp
                      rw [hpp] at hnext
                      have hnx : Hid (pputs sD (l.take (k + 1)) = some st) := hnext
                      have hb2 : ((strOf r.val).toList == vs.toList) = true := by rw [hb1, he]; simp
                      clear hpp hnext hgn hdata hat3 hb1
                      generalize strOf r.val = rvs at *
                      replace he := Lib.hid he
                      replace hf := Lib.hid hf
                      replace hi := Lib.hid hi
                      replace hrk := Lib.hid hrk
                      replace hie := Lib.hid hie
                      replace hvv := Lib.hid hvv
                      go_wp2
                      go_quiet (fail)
                      have hm3 := hm2.keep ((Only.refl [] w2).drewN nq)
                      clear hm2 y0 y1 y2 z1 z2 hfz
                      go_wp2
                      go_roundw
                      case rel => exact ⟨k + 1, st, by omega, by go_num, hnx, hgn', hm3⟩
                      case measure => simp [intOf]; omega
                    · have hpp : pput st ⟨key, val, false⟩ = some ⟨putR st.now ⟨key, val, r.at_⟩, st.used, st.texts.set r.at_ (padD key val), st.turned.set r.at_ true⟩ := by
                        unfold pput
                        simp only [Bool.false_eq_true, if_false]
                        rw [hf]
                        simp only
                        rw [if_neg he]
                      have hgn' := hgn _ hpp
                      rw [hpp] at hnext
                      have hnx : Hid (pputs sD (l.take (k + 1)) = some ⟨putR st.now ⟨key, val, r.at_⟩, st.used, st.texts.set r.at_ (padD key val), st.turned.set r.at_ true⟩) := hnext
                      have hb2 : ((strOf r.val).toList == vs.toList) = false := by rw [hb1]; simpa using he
                      have hset := set_at hgood.sorted hi val
                      rw [hrk] at hset
                      clear hpp hnext hgn hat3 hb1
                      generalize strOf r.val = rvs at *
                      replace he := Lib.hid he
                      replace hf := Lib.hid hf
                      replace hrk := Lib.hid hrk
                      replace hie := Lib.hid hie
                      replace hvv := Lib.hid hvv
                      replace hset := Lib.hid hset
                      have hi' := Lib.hid hi
                      clear hi
                      go_wp2
                      go_quiet (fail)
                      have kq := (Only.refl [] w2).drewN nq
                      have hm3 := hm2.keep kq
                      have y0q := kq.cell y0 (by simp)
                      have y1q := kq.cell y1 (by simp)
                      have y2q := kq.cell y2 (by simp)
                      have z1q := kq.cell z1 (by simp)
                      have z2q := kq.cell z2 (by simp)
                      have hfq := ownsRow_free hm3.now.own (i * 3 + 1)
                      have hm4 := hm3.setNow (by first | rfl | exact hvv.out ▸ rfl) i r hi'.out val
                      rw [hrk.out, hset.out, hvs.out] at hm4
                      clear hm2 y0 y1 y2 z1 z2 hfz hm3
                      generalize w2.drewN nq = w3 at *
                      have hg3w : w.heap.size ≤ g3 := hm4.now.new g3 rfl
                      have kset : Only [g3] w3 (w3.setCell ⟨g3, i * 3 + 1, none⟩ (.string vs)) := Only.set w3 [g3] (by simp) _
                      have x0A := kset.cell y0q (by simp; omega)
                      have x1A := kset.cell y1q (by simp; omega)
                      have hmA := hm4
                      clear hm4 kset
                      go_wp2_with fail
                      generalize hwA : w3.setCell ⟨g3, i * 3 + 1, none⟩ (.string vs) = wA at *
                      replace hwA := Lib.hid hwA
                      clear y0q y1q y2q z1q z2q hfq
                      have kd : Only [] wA wA.drew := (Only.refl [] wA).drew
                      have hS : wA.drew.cell? ⟨g, o + k * 3, none⟩ = some (.string ks) ∧ wA.drew.cell? ⟨g, o + k * 3 + 1, none⟩ = some (.string vs) := ⟨kd.cell x0A (by simp), kd.cell x1A (by simp)⟩
                      have hmd := hmA.keep kd
                      clear hmA x0A x1A
                      go_wp2_with fail
                      refine wp_region_held_drew (S := fun w' => w'.cell? ⟨g, o + k * 3, none⟩ = some (.string ks) ∧ w'.cell? ⟨g, o + k * 3 + 1, none⟩ = some (.string vs)) (by kernel_rfl) hS (fun hHeld => ?_)
                      refine held_take 0 (.slice (some ⟨tb, 0, none⟩) N N) rfl (by kernel_rfl) (by kernel_rfl) (by kernel_rfl) (fun _ _ _ h => h) hHeld (Or.inl ⟨by rfl, fun w' hSw => by (try dsimp only at hSw); (try subst hSw); go_simp⟩) ?_
                      simp only [Act.put, List.setIfInBounds_toArray, List.set_cons_zero, List.set_cons_succ]
                      refine held_take 1 (.int .i64 (r.at_ : Int)) rfl (by kernel_rfl) (by kernel_rfl) (by kernel_rfl) (fun _ _ _ h => h) hHeld (Or.inl ⟨by rfl, fun w' hSw => by (try dsimp only at hSw); (try subst hSw); go_simp⟩) ?_
                      simp only [Act.put, List.setIfInBounds_toArray, List.set_cons_zero, List.set_cons_succ]
                      refine held_take 2 (.slice (some ⟨g, o, none⟩) l.length d) rfl (by kernel_rfl) (by kernel_rfl) (by kernel_rfl) (fun _ _ _ h => h) hHeld (Or.inl ⟨by rfl, fun w' hSw => by (try dsimp only at hSw); (try subst hSw); go_simp⟩) ?_
                      simp only [Act.put, List.setIfInBounds_toArray, List.set_cons_zero, List.set_cons_succ]
                      refine held_take 3 (.int .i64 (k : Int)) rfl (by kernel_rfl) (by kernel_rfl) (by kernel_rfl) (fun _ _ _ h => h) hHeld (Or.inl ⟨by rfl, fun w' hSw => by (try dsimp only at hSw); (try subst hSw); go_simp⟩) ?_
                      simp only [Act.put, List.setIfInBounds_toArray, List.set_cons_zero, List.set_cons_succ]
                      refine held_take 4 (.pointer (some ⟨g, o + k * 3, none⟩)) rfl (by kernel_rfl) (by kernel_rfl) (by kernel_rfl) (fun _ _ _ h => h) hHeld (Or.inl ⟨by rfl, fun w' hSw => by (try dsimp only at hSw); (try subst hSw); go_simp⟩) ?_
                      simp only [Act.put, List.setIfInBounds_toArray, List.set_cons_zero, List.set_cons_succ]
                      refine held_take 5 (.pointer (some ⟨g, o + k * 3, none⟩)) rfl (by kernel_rfl) (by kernel_rfl) (by kernel_rfl) (fun _ _ _ h => h) hHeld (Or.inl ⟨by rfl, fun w' hSw => by (try dsimp only at hSw); (try subst hSw); go_simp⟩) ?_
                      simp only [Act.put, List.setIfInBounds_toArray, List.set_cons_zero, List.set_cons_succ]
                      refine held_take 6 (.string ks) rfl (by kernel_rfl) (by kernel_rfl) (by kernel_rfl) (fun _ _ _ h => h) hHeld (Or.inl ⟨by rfl, fun w' hSw => by (try dsimp only at hSw); (try subst hSw); go_simp⟩) ?_
                      simp only [Act.put, List.setIfInBounds_toArray, List.set_cons_zero, List.set_cons_succ]
                      refine held_take 7 (.slice (some ⟨g, o, none⟩) l.length d) rfl (by kernel_rfl) (by kernel_rfl) (by kernel_rfl) (fun _ _ _ h => h) hHeld (Or.inl ⟨by rfl, fun w' hSw => by (try dsimp only at hSw); (try subst hSw); go_simp⟩) ?_
                      simp only [Act.put, List.setIfInBounds_toArray, List.set_cons_zero, List.set_cons_succ]
                      refine held_take 8 (.int .i64 (k : Int)) rfl (by kernel_rfl) (by kernel_rfl) (by kernel_rfl) (fun _ _ _ h => h) hHeld (Or.inl ⟨by rfl, fun w' hSw => by (try dsimp only at hSw); (try subst hSw); go_simp⟩) ?_
                      simp only [Act.put, List.setIfInBounds_toArray, List.set_cons_zero, List.set_cons_succ]
                      refine held_take 9 (.pointer (some ⟨g, o + k * 3, none⟩)) rfl (by kernel_rfl) (by kernel_rfl) (by kernel_rfl) (fun _ _ _ h => h) hHeld (Or.inl ⟨by rfl, fun w' hSw => by (try dsimp only at hSw); (try subst hSw); go_simp⟩) ?_
                      simp only [Act.put, List.setIfInBounds_toArray, List.set_cons_zero, List.set_cons_succ]
                      refine held_take 10 (.pointer (some ⟨g, o + k * 3 + 1, none⟩)) rfl (by kernel_rfl) (by kernel_rfl) (by kernel_rfl) (fun _ _ _ h => h) hHeld (Or.inl ⟨by rfl, fun w' hSw => by (try dsimp only at hSw); (try subst hSw); go_simp⟩) ?_
                      simp only [Act.put, List.setIfInBounds_toArray, List.set_cons_zero, List.set_cons_succ]
                      refine held_take 11 (.string vs) rfl (by kernel_rfl) (by kernel_rfl) (by kernel_rfl) (fun _ _ _ h => h) hHeld (Or.inl ⟨by rfl, fun w' hSw => by (try dsimp only at hSw); (try subst hSw); go_simp⟩) ?_
                      simp only [Act.put, List.setIfInBounds_toArray, List.set_cons_zero, List.set_cons_succ]
                      refine held_step 12 rfl (by kernel_rfl) (fun K hK => ?_)
                      go_simp
                      go_at_call 93
                      refine (hdata.out _).mono ?_
                      rintro e w7 ⟨rfl, k7⟩
                      have hS7 : w7.cell? ⟨g, o + k * 3, none⟩ = some (.string ks) ∧ w7.cell? ⟨g, o + k * 3 + 1, none⟩ = some (.string vs) := ⟨k7.cell hS.1 (by simp), k7.cell hS.2 (by simp)⟩
                      have hm7 := hmd.keep k7
                      clear hmd k7 kd hS
                      go_wp2_with fail
                      refine hK.out _ _ hS7 (fun hHeld => ?_)
                      clear hK K
                      refine held_take 13 (.pointer (some ⟨tb, r.at_, none⟩)) rfl (by kernel_rfl) (by kernel_rfl) (by kernel_rfl) (fun _ _ _ h => h) hHeld (Or.inl ⟨by rfl, fun w' hSw => by (try dsimp only at hSw); (try subst hSw); go_simp⟩) ?_
                      simp only [Act.put, List.setIfInBounds_toArray, List.set_cons_zero, List.set_cons_succ]
                      obtain ⟨u2, f2⟩ := hm7.atT (i := r.at_) (by rw [hgood.lenT]; exact haN)
                      have hm8 := hm7.setT r.at_ (padD key val)
                      rw [hpds.out] at hm8
                      have hS8 : (w7.setCell ⟨tb, r.at_, none⟩ (.string pds)).cell? ⟨g, o + k * 3, none⟩ = some (.string ks) ∧ (w7.setCell ⟨tb, r.at_, none⟩ (.string pds)).cell? ⟨g, o + k * 3 + 1, none⟩ = some (.string vs) := by
                        have ks8 : Only [tb] w7 (w7.setCell ⟨tb, r.at_, none⟩ (.string pds)) := Only.set w7 [tb] (by simp) _
                        have hgt : g ∉ [tb] := by have := hm7.oldt; simp; omega
                        exact ⟨ks8.cell hS7.1 hgt, ks8.cell hS7.2 hgt⟩
                      obtain ⟨u3, f3⟩ := hm8.atV (i := r.at_) (by simp only; rw [hgood.lenV]; exact haN)
                      have hm9 := hm8.setV r.at_ true
                      simp only at u2 u3 hm9
                      generalize strOf (st.texts[r.at_]'(by rw [hgood.lenT]; exact haN)) = ob2 at *
                      generalize st.turned[r.at_]'(by rw [hgood.lenV]; exact haN) = ob3 at *
                      replace hm9 := Lib.hid hm9
                      clear hm8 hm7
                      refine held_step 14 rfl (by kernel_rfl) (fun K hK => ?_)
                      go_simp
                      refine hK.out _ _ hS8 (fun hHeld => ?_)
                      clear hK K
                      refine wpAnyH_done (by kernel_rfl) ?_ _
                      clear hHeld
                      clear hS7 hS8 u2 f2
                      go_wp2
                      go_roundw
                      case rel => exact ⟨k + 1, _, by omega, by go_num, hnx, hgn', hm9.out⟩
                      case measure => simp [intOf]; omega
                · have hfn : findR st.now key = none := findR_none.2 hno
                  have hpp0 : pput st ⟨key, val, false⟩ = if firstF st.used = st.used.length then none else
                      some ⟨insR ⟨key, val, firstF st.used⟩ st.now, st.used.set (firstF st.used) true, st.texts.set (firstF st.used) (padD key val), st.turned.set (firstF st.used) true⟩ := by
                    unfold pput
                    simp only [Bool.false_eq_true, if_false]
                    rw [hfn]
                  have hput := fun W' V (a : Nat) (kk : PMem w W' ub tb vb V ⟨st.now, st.used.set a true, st.texts, st.turned⟩) => rput_at kk.now ⟨key, val, a⟩ (by simp only; omega) hno
                  simp only at hput
                  rw [hks.out, hvs.out] at hput
                  replace hput := Lib.hid hput
                  replace hfn := Lib.hid hfn
                  replace hpp0 := Lib.hid hpp0
                  have hvv := hv.out
                  clear hno hvl hform hv
                  subst hvv
                  go_wp2
                  go_quiet (fail)
                  have kq := (Only.refl [] w2).drewN nq
                  have hm3 := hm2.keep kq
                  have y0q := kq.cell y0 (by simp)
                  have y1q := kq.cell y1 (by simp)
                  clear hm2 y0 y1 y2 kq
                  generalize w2.drewN nq = w3 at *
                  go_wp2
                  go_loopw [20] (fun a wr' => ∃ j : Nat, j ≤ N ∧ a = .int .i64 j ∧ Hid (∀ q, q < j → st.used[q]? = some true) ∧ wr' = w3) (fun a _ => N - (intOf a).toNat)
                  case atStart => exact ⟨0, Nat.zero_le _, rfl, fun q hq => by omega, rfl⟩
                  case round =>
                    obtain ⟨j, hj, rfl, hbe, hwe⟩ := hrel
                    subst hwe
                    by_cases hjN : j < N
                    · have hju : j < st.used.length := by rw [hgood.lenU]; exact hjN
                      obtain ⟨u1, f1⟩ := hm3.atU hju
                      have hug : st.used[j]? = some st.used[j] := List.getElem?_eq_getElem hju
                      have hjI : (j : Int) < (N : Int) := by omega
                      cases hu : st.used[j] with
                      | true =>
                        rw [hu] at u1
                        have hbe2 : Hid (∀ q, q < j + 1 → st.used[q]? = some true) := fun q hq => by
                          by_cases hqj : q = j
                          · rw [hqj, hug, hu]
                          · exact hbe.out q (by omega)
                        replace hug := Lib.hid hug
                        replace hu := Lib.hid hu
                        clear hbe
                        go_wp2
                        go_roundw
                        case rel => exact ⟨j + 1, by omega, by go_num, hbe2, by trivial⟩
                        case measure => simp [intOf]; omega
                      | false =>
                        rw [hu] at u1
                        have hff : firstF st.used = j := firstF_is _ _ hbe.out (.inl (by rw [hug, hu]))
                        have hpp := hpp0.out
                        rw [hff, if_neg (by omega)] at hpp
                        have hgn' := hgn _ hpp
                        rw [hpp] at hnext
                        have hnx : Hid (pputs sD (l.take (k + 1)) = some ⟨insR ⟨key, val, j⟩ st.now, st.used.set j true, st.texts.set j (padD key val), st.turned.set j true⟩) := hnext
                        have haN := hjN
                        have hju2 : ¬ (j : Int) = (N : Int) := by omega
                        replace hug := Lib.hid hug
                        replace hu := Lib.hid hu
                        replace hff := Lib.hid hff
                        have hm4 := hm3.setU j true
                        have kset : Only [ub] wr (wr.setCell ⟨ub, j, none⟩ (.bool true)) := Only.set wr [ub] (by simp) _
                        have hub := hm3.oldu
                        have x0A := kset.cell y0q (by simp; omega)
                        have x1A := kset.cell y1q (by simp; omega)
                        clear hpp hnext hgn hpp0 hfn hbe hm3 kset
                        go_wp2_with fail
                        generalize hwB : wr.setCell ⟨ub, j, none⟩ (.bool true) = wB at *
                        replace hwB := Lib.hid hwB
                        have kd : Only [] wB wB.drew := (Only.refl [] wB).drew
                        have hm5 := hm4.keep kd
                        have hS : wB.drew.cell? ⟨g, o + k * 3, none⟩ = some (.string ks) ∧ wB.drew.cell? ⟨g, o + k * 3 + 1, none⟩ = some (.string vs) := ⟨kd.cell x0A (by simp), kd.cell x1A (by simp)⟩
                        clear x0A x1A hm4 kd y0q y1q u1 f1
                        refine wp_region_held_drew (S := fun w' => w'.cell? ⟨g, o + k * 3, none⟩ = some (.string ks) ∧ w'.cell? ⟨g, o + k * 3 + 1, none⟩ = some (.string vs)) (by kernel_rfl) hS (fun hHeld => ?_)
                        refine held_take 0 (.slice A3 st.now.length c3) rfl (by kernel_rfl) (by kernel_rfl) (by kernel_rfl) (fun _ _ _ h => h) hHeld (Or.inl ⟨by rfl, fun w' hSw => by (try dsimp only at hSw); (try subst hSw); go_simp⟩) ?_
                        simp only [Act.put, List.setIfInBounds_toArray, List.set_cons_zero, List.set_cons_succ]
                        refine held_take 1 (.slice (some ⟨g, o, none⟩) l.length d) rfl (by kernel_rfl) (by kernel_rfl) (by kernel_rfl) (fun _ _ _ h => h) hHeld (Or.inl ⟨by rfl, fun w' hSw => by (try dsimp only at hSw); (try subst hSw); go_simp⟩) ?_
                        simp only [Act.put, List.setIfInBounds_toArray, List.set_cons_zero, List.set_cons_succ]
                        refine held_take 2 (.int .i64 (k : Int)) rfl (by kernel_rfl) (by kernel_rfl) (by kernel_rfl) (fun _ _ _ h => h) hHeld (Or.inl ⟨by rfl, fun w' hSw => by (try dsimp only at hSw); (try subst hSw); go_simp⟩) ?_
                        simp only [Act.put, List.setIfInBounds_toArray, List.set_cons_zero, List.set_cons_succ]
                        refine held_take 3 (.pointer (some ⟨g, o + k * 3, none⟩)) rfl (by kernel_rfl) (by kernel_rfl) (by kernel_rfl) (fun _ _ _ h => h) hHeld (Or.inl ⟨by rfl, fun w' hSw => by (try dsimp only at hSw); (try subst hSw); go_simp⟩) ?_
                        simp only [Act.put, List.setIfInBounds_toArray, List.set_cons_zero, List.set_cons_succ]
                        refine held_take 4 (.pointer (some ⟨g, o + k * 3, none⟩)) rfl (by kernel_rfl) (by kernel_rfl) (by kernel_rfl) (fun _ _ _ h => h) hHeld (Or.inl ⟨by rfl, fun w' hSw => by (try dsimp only at hSw); (try subst hSw); go_simp⟩) ?_
                        simp only [Act.put, List.setIfInBounds_toArray, List.set_cons_zero, List.set_cons_succ]
                        refine held_take 5 (.string ks) rfl (by kernel_rfl) (by kernel_rfl) (by kernel_rfl) (fun _ _ _ h => h) hHeld (Or.inl ⟨by rfl, fun w' hSw => by (try dsimp only at hSw); (try subst hSw); go_simp⟩) ?_
                        simp only [Act.put, List.setIfInBounds_toArray, List.set_cons_zero, List.set_cons_succ]
                        refine held_take 6 (.slice (some ⟨g, o, none⟩) l.length d) rfl (by kernel_rfl) (by kernel_rfl) (by kernel_rfl) (fun _ _ _ h => h) hHeld (Or.inl ⟨by rfl, fun w' hSw => by (try dsimp only at hSw); (try subst hSw); go_simp⟩) ?_
                        simp only [Act.put, List.setIfInBounds_toArray, List.set_cons_zero, List.set_cons_succ]
                        refine held_take 7 (.int .i64 (k : Int)) rfl (by kernel_rfl) (by kernel_rfl) (by kernel_rfl) (fun _ _ _ h => h) hHeld (Or.inl ⟨by rfl, fun w' hSw => by (try dsimp only at hSw); (try subst hSw); go_simp⟩) ?_
                        simp only [Act.put, List.setIfInBounds_toArray, List.set_cons_zero, List.set_cons_succ]
                        refine held_take 8 (.pointer (some ⟨g, o + k * 3, none⟩)) rfl (by kernel_rfl) (by kernel_rfl) (by kernel_rfl) (fun _ _ _ h => h) hHeld (Or.inl ⟨by rfl, fun w' hSw => by (try dsimp only at hSw); (try subst hSw); go_simp⟩) ?_
                        simp only [Act.put, List.setIfInBounds_toArray, List.set_cons_zero, List.set_cons_succ]
                        refine held_take 9 (.pointer (some ⟨g, o + k * 3 + 1, none⟩)) rfl (by kernel_rfl) (by kernel_rfl) (by kernel_rfl) (fun _ _ _ h => h) hHeld (Or.inl ⟨by rfl, fun w' hSw => by (try dsimp only at hSw); (try subst hSw); go_simp⟩) ?_
                        simp only [Act.put, List.setIfInBounds_toArray, List.set_cons_zero, List.set_cons_succ]
                        refine held_take 10 (.string vs) rfl (by kernel_rfl) (by kernel_rfl) (by kernel_rfl) (fun _ _ _ h => h) hHeld (Or.inl ⟨by rfl, fun w' hSw => by (try dsimp only at hSw); (try subst hSw); go_simp⟩) ?_
                        simp only [Act.put, List.setIfInBounds_toArray, List.set_cons_zero, List.set_cons_succ]
                        refine held_take 11 (.int .i64 (j : Int)) rfl (by kernel_rfl) (by kernel_rfl) (by kernel_rfl) (fun _ _ _ h => h) hHeld (Or.inl ⟨by rfl, fun w' hSw => by (try dsimp only at hSw); (try subst hSw); go_simp⟩) ?_
                        simp only [Act.put, List.setIfInBounds_toArray, List.set_cons_zero, List.set_cons_succ]
                        refine held_take 12 (.agg #[.string ks, .string vs, .int .i64 (j : Int)]) rfl (by kernel_rfl) (by kernel_rfl) (by kernel_rfl) (fun _ _ _ h => h) hHeld (Or.inl ⟨by rfl, fun w' hSw => by (try dsimp only at hSw); (try subst hSw); go_simp⟩) ?_
                        simp only [Act.put, List.setIfInBounds_toArray, List.set_cons_zero, List.set_cons_succ]
                        refine held_step 13 rfl (by kernel_rfl) (fun K hK => ?_)
                        go_simp
                        go_at_call 60
                        refine (hput.out _ _ j hm5).mono ?_
                        rintro e wA ⟨v5, rfl, hm6⟩
                        have x0A := hm6.only.cell hS.1 (by simp)
                        have x1A := hm6.only.cell hS.2 (by simp)
                        have hmA := hm5.lay hm6
                        simp only at hmA
                        clear hm5 hm6 hput
                        go_wp2_with fail
                        refine hK.out _ _ ⟨x0A, x1A⟩ (fun hHeld => ?_)
                        clear hK K
                        refine held_take 14 (v5) rfl (by kernel_rfl) (by kernel_rfl) (by kernel_rfl) (fun _ _ _ h => h) hHeld (Or.inl ⟨by rfl, fun w' hSw => by (try dsimp only at hSw); (try subst hSw); go_simp⟩) ?_
                        simp only [Act.put, List.setIfInBounds_toArray, List.set_cons_zero, List.set_cons_succ]
                        refine wpAnyH_done (by kernel_rfl) ?_ _
                        clear hHeld
                        clear hS
                        have kd : Only [] wA wA.drew := (Only.refl [] wA).drew
                        have hS : wA.drew.cell? ⟨g, o + k * 3, none⟩ = some (.string ks) ∧ wA.drew.cell? ⟨g, o + k * 3 + 1, none⟩ = some (.string vs) := ⟨kd.cell x0A (by simp), kd.cell x1A (by simp)⟩
                        have hmd := hmA.keep kd
                        clear hmA x0A x1A
                        go_wp2_with fail
                        refine wp_region_held_drew (S := fun w' => w'.cell? ⟨g, o + k * 3, none⟩ = some (.string ks) ∧ w'.cell? ⟨g, o + k * 3 + 1, none⟩ = some (.string vs)) (by kernel_rfl) hS (fun hHeld => ?_)
                        refine held_take 0 (.slice (some ⟨tb, 0, none⟩) N N) rfl (by kernel_rfl) (by kernel_rfl) (by kernel_rfl) (fun _ _ _ h => h) hHeld (Or.inl ⟨by rfl, fun w' hSw => by (try dsimp only at hSw); (try subst hSw); go_simp⟩) ?_
                        simp only [Act.put, List.setIfInBounds_toArray, List.set_cons_zero, List.set_cons_succ]
                        refine held_take 1 (.int .i64 (j : Int)) rfl (by kernel_rfl) (by kernel_rfl) (by kernel_rfl) (fun _ _ _ h => h) hHeld (Or.inl ⟨by rfl, fun w' hSw => by (try dsimp only at hSw); (try subst hSw); go_simp⟩) ?_
                        simp only [Act.put, List.setIfInBounds_toArray, List.set_cons_zero, List.set_cons_succ]
                        refine held_take 2 (.slice (some ⟨g, o, none⟩) l.length d) rfl (by kernel_rfl) (by kernel_rfl) (by kernel_rfl) (fun _ _ _ h => h) hHeld (Or.inl ⟨by rfl, fun w' hSw => by (try dsimp only at hSw); (try subst hSw); go_simp⟩) ?_
                        simp only [Act.put, List.setIfInBounds_toArray, List.set_cons_zero, List.set_cons_succ]
                        refine held_take 3 (.int .i64 (k : Int)) rfl (by kernel_rfl) (by kernel_rfl) (by kernel_rfl) (fun _ _ _ h => h) hHeld (Or.inl ⟨by rfl, fun w' hSw => by (try dsimp only at hSw); (try subst hSw); go_simp⟩) ?_
                        simp only [Act.put, List.setIfInBounds_toArray, List.set_cons_zero, List.set_cons_succ]
                        refine held_take 4 (.pointer (some ⟨g, o + k * 3, none⟩)) rfl (by kernel_rfl) (by kernel_rfl) (by kernel_rfl) (fun _ _ _ h => h) hHeld (Or.inl ⟨by rfl, fun w' hSw => by (try dsimp only at hSw); (try subst hSw); go_simp⟩) ?_
                        simp only [Act.put, List.setIfInBounds_toArray, List.set_cons_zero, List.set_cons_succ]
                        refine held_take 5 (.pointer (some ⟨g, o + k * 3, none⟩)) rfl (by kernel_rfl) (by kernel_rfl) (by kernel_rfl) (fun _ _ _ h => h) hHeld (Or.inl ⟨by rfl, fun w' hSw => by (try dsimp only at hSw); (try subst hSw); go_simp⟩) ?_
                        simp only [Act.put, List.setIfInBounds_toArray, List.set_cons_zero, List.set_cons_succ]
                        refine held_take 6 (.string ks) rfl (by kernel_rfl) (by kernel_rfl) (by kernel_rfl) (fun _ _ _ h => h) hHeld (Or.inl ⟨by rfl, fun w' hSw => by (try dsimp only at hSw); (try subst hSw); go_simp⟩) ?_
                        simp only [Act.put, List.setIfInBounds_toArray, List.set_cons_zero, List.set_cons_succ]
                        refine held_take 7 (.slice (some ⟨g, o, none⟩) l.length d) rfl (by kernel_rfl) (by kernel_rfl) (by kernel_rfl) (fun _ _ _ h => h) hHeld (Or.inl ⟨by rfl, fun w' hSw => by (try dsimp only at hSw); (try subst hSw); go_simp⟩) ?_
                        simp only [Act.put, List.setIfInBounds_toArray, List.set_cons_zero, List.set_cons_succ]
                        refine held_take 8 (.int .i64 (k : Int)) rfl (by kernel_rfl) (by kernel_rfl) (by kernel_rfl) (fun _ _ _ h => h) hHeld (Or.inl ⟨by rfl, fun w' hSw => by (try dsimp only at hSw); (try subst hSw); go_simp⟩) ?_
                        simp only [Act.put, List.setIfInBounds_toArray, List.set_cons_zero, List.set_cons_succ]
                        refine held_take 9 (.pointer (some ⟨g, o + k * 3, none⟩)) rfl (by kernel_rfl) (by kernel_rfl) (by kernel_rfl) (fun _ _ _ h => h) hHeld (Or.inl ⟨by rfl, fun w' hSw => by (try dsimp only at hSw); (try subst hSw); go_simp⟩) ?_
                        simp only [Act.put, List.setIfInBounds_toArray, List.set_cons_zero, List.set_cons_succ]
                        refine held_take 10 (.pointer (some ⟨g, o + k * 3 + 1, none⟩)) rfl (by kernel_rfl) (by kernel_rfl) (by kernel_rfl) (fun _ _ _ h => h) hHeld (Or.inl ⟨by rfl, fun w' hSw => by (try dsimp only at hSw); (try subst hSw); go_simp⟩) ?_
                        simp only [Act.put, List.setIfInBounds_toArray, List.set_cons_zero, List.set_cons_succ]
                        refine held_take 11 (.string vs) rfl (by kernel_rfl) (by kernel_rfl) (by kernel_rfl) (fun _ _ _ h => h) hHeld (Or.inl ⟨by rfl, fun w' hSw => by (try dsimp only at hSw); (try subst hSw); go_simp⟩) ?_
                        simp only [Act.put, List.setIfInBounds_toArray, List.set_cons_zero, List.set_cons_succ]
                        refine held_step 12 rfl (by kernel_rfl) (fun K hK => ?_)
                        go_simp
                        go_at_call 93
                        refine (hdata.out _).mono ?_
                        rintro e w7 ⟨rfl, k7⟩
                        have hS7 : w7.cell? ⟨g, o + k * 3, none⟩ = some (.string ks) ∧ w7.cell? ⟨g, o + k * 3 + 1, none⟩ = some (.string vs) := ⟨k7.cell hS.1 (by simp), k7.cell hS.2 (by simp)⟩
                        have hm7 := hmd.keep k7
                        clear hmd k7 kd hS
                        go_wp2_with fail
                        refine hK.out _ _ hS7 (fun hHeld => ?_)
                        clear hK K
                        refine held_take 13 (.pointer (some ⟨tb, j, none⟩)) rfl (by kernel_rfl) (by kernel_rfl) (by kernel_rfl) (fun _ _ _ h => h) hHeld (Or.inl ⟨by rfl, fun w' hSw => by (try dsimp only at hSw); (try subst hSw); go_simp⟩) ?_
                        simp only [Act.put, List.setIfInBounds_toArray, List.set_cons_zero, List.set_cons_succ]
                        obtain ⟨u2, f2⟩ := hm7.atT (i := j) (by rw [hgood.lenT]; exact haN)
                        have hm8 := hm7.setT j (padD key val)
                        rw [hpds.out] at hm8
                        have hS8 : (w7.setCell ⟨tb, j, none⟩ (.string pds)).cell? ⟨g, o + k * 3, none⟩ = some (.string ks) ∧ (w7.setCell ⟨tb, j, none⟩ (.string pds)).cell? ⟨g, o + k * 3 + 1, none⟩ = some (.string vs) := by
                          have ks8 : Only [tb] w7 (w7.setCell ⟨tb, j, none⟩ (.string pds)) := Only.set w7 [tb] (by simp) _
                          have hgt : g ∉ [tb] := by have := hm7.oldt; simp; omega
                          exact ⟨ks8.cell hS7.1 hgt, ks8.cell hS7.2 hgt⟩
                        obtain ⟨u3, f3⟩ := hm8.atV (i := j) (by simp only; rw [hgood.lenV]; exact haN)
                        have hm9 := hm8.setV j true
                        simp only at u2 u3 hm9
                        generalize strOf (st.texts[j]'(by rw [hgood.lenT]; exact haN)) = ob2 at *
                        generalize st.turned[j]'(by rw [hgood.lenV]; exact haN) = ob3 at *
                        replace hm9 := Lib.hid hm9
                        clear hm8 hm7
                        refine held_step 14 rfl (by kernel_rfl) (fun K hK => ?_)
                        go_simp
                        refine hK.out _ _ hS8 (fun hHeld => ?_)
                        clear hK K
                        refine wpAnyH_done (by kernel_rfl) ?_ _
                        clear hHeld
                        clear hS7 hS8 u2 f2
                        go_wp2
                        go_roundw
                        case rel => exact ⟨k + 1, _, by omega, by go_num, hnx, hgn', hm9.out⟩
                        case measure => simp [intOf]; omega
                    · obtain rfl : j = N := by omega
                      have hff : firstF st.used = j := firstF_is _ _ hbe.out (.inr hgood.lenU.symm)
                      have hpp := hpp0.out
                      rw [hff, if_pos hgood.lenU.symm] at hpp
                      rw [hpp] at hnext
                      have hno : Hid (planL j M l = none) := plan_none (k := k + 1) (by rw [← hD.out]; exact hnext)
                      have kend := hm3.only
                      have hge : ¬ (j : Int) < (j : Int) := by omega
                      replace hff := Lib.hid hff
                      clear hpp hnext hgn hpp0 hfn hbe hm3
                      go_wp2
                      go_ret3
                      exact PlanIs.no hno.out kend
            · obtain rfl : k = l.length := by omega
              rw [List.take_length] at hst
              have hge : ¬ (l.length : Int) < (l.length : Int) := by omega
              have hsome := Lib.hid (plan_some (N := N) (M := M) (l := l) (st := st) (by rw [← hD.out]; exact hst.out))
              have hg5 := Lib.hid hgood
              obtain ⟨wB, hwB⟩ : ∃ wB : World, wB = wr := ⟨_, rfl⟩
              rw [← hwB] at hmem
              rw [← hwB]
              replace hwB := Lib.hid hwB
              subst hv
              clear hform hel hc3 hA3
              go_wp2
              go_loopw [21, 22] (fun u i wr' => ∃ j : Nat, j ≤ N ∧ i = .int .i64 j ∧ Mine bkE 2 159 wB wr' u (blkUp st j)) (fun _ i _ => N - (intOf i).toNat)
              case atStart => exact ⟨0, Nat.zero_le _, rfl, Mine.start _ _ _ (Only.refl _ _)⟩
              case round =>
                obtain ⟨j, hj, rfl, hmine⟩ := hrel
                have hup := blkUp_succ st j
                have hUl : (blkUp st j).length ≤ j := by
                  unfold blkUp
                  rw [List.length_map]
                  exact Nat.le_trans (List.length_filter_le _ _) (by simp)
                generalize hU : blkUp st j = U at *
                generalize hU2 : blkUp st (j + 1) = U2 at *
                replace hU := Lib.hid hU
                replace hU2 := Lib.hid hU2
                have hmk := hmem.keep hmine.only
                by_cases hlt : j < N
                · have hjI : (j : Int) < (N : Int) := by omega
                  have hjV : j < st.turned.length := by rw [hgood.lenV]; exact hlt
                  have hjT : j < st.texts.length := by rw [hgood.lenT]; exact hlt
                  obtain ⟨v1, _⟩ := hmk.atV hjV
                  obtain ⟨t1, _⟩ := hmk.atT hjT
                  have e1 : st.turned.getD j false = st.turned[j] := by rw [List.getD_eq_getElem?_getD, List.getElem?_eq_getElem hjV]; rfl
                  have e2 : st.texts.getD j [] = st.texts[j] := by rw [List.getD_eq_getElem?_getD, List.getElem?_eq_getElem hjT]; rfl
                  rw [e1, e2] at hup
                  clear e1 e2
                  generalize st.turned[j] = b at *
                  generalize st.texts[j] = tx at *
                  cases b with
                  | false =>
                    have hup' : U2 = U := by rw [hup]; rfl
                    rw [← hup'] at hmine
                    replace hup' := Lib.hid hup'
                    clear hup hmk
                    go_wp2
                    go_roundw
                    case rel => exact ⟨j + 1, by omega, by go_num, by rw [hU2.out]; exact hmine⟩
                    case measure => simp [intOf]; omega
                  | true =>
                    have hup' : U2 = U ++ [⟨(j : Int), tx⟩] := by rw [hup]; rfl
                    have henc : bkE ⟨(j : Int), tx⟩ = [.int .i64 (j : Int), .string (strOf tx)] := rfl
                    generalize htx : strOf tx = ts at *
                    replace htx := Lib.hid htx
                    have b6 : Blk (wr.alloc (.cells #[.int .i64 (j : Int), .string ts] 159)) wr.heap.size 159 (bkE ⟨(j : Int), tx⟩).toArray := by
                      rw [henc]
                      exact Blk.new _ _ _
                    have hm6 := hmine.keep ((Only.refl [] wr).alloc (.cells #[.int .i64 (j : Int), .string ts] 159))
                    replace hup' := Lib.hid hup'
                    replace henc := Lib.hid henc
                    clear hup hmine hmk
                    go_wp2_with (at_builtin; go_must (refine wpList_push rfl _ _ 102 rfl 159 _ 24 bkE_length (by decide) bkE_one Tryz.underlying102 info_bk rfl _ U.length U rfl hm6.own wr.heap.size ⟨(j : Int), tx⟩ _ rfl b6 (by unfold maxLen; omega) (by omega) ?_); intro vv' w8 h8 g8 a8)
                    have hm8 := hm6.pushed h8 g8 a8
                    rw [← hup'.out] at hm8
                    clear h8 g8 a8 hm6 b6 v1 t1
                    go_wp2
                    go_roundw
                    case rel => exact ⟨j + 1, by omega, by go_num, by rw [hU2.out]; exact hm8⟩
                    case measure => simp [intOf]; omega
                · obtain rfl : j = N := by omega
                  have hge : ¬ (j : Int) < (j : Int) := by omega
                  have hs2 := hsome.out
                  rw [hU.out] at hs2
                  have hn1 := hmk.now
                  have hn2 := NewEls.from hmem.only (hmine.els bkE_length)
                  have hfin := Lib.hid (PlanIs.yes hs2 hn1 hn2)
                  clear hs2 hn1 hn2 hmk hmine hup
                  go_wp2
                  go_ret3
                  exact hfin.out
end Go.Proofs.YthpjkhmkjhgbkaaGreatDoor
