/- LaneOnce: an answer arrives. -/
import Derived.Test.YtjogdilkdnnhnaaOnceB
namespace Go.Proofs.Ytjogdilkdnnhnaa
open Go.RowKit
set_option linter.unusedVariables false

set_option maxRecDepth 100000 in
set_option maxHeartbeats 4000000 in
theorem once_3 (g o : Nat) (kind num : Int) (w1 wr : World) (li : Int) (hli : U li) (l1 : 1 ≤ li) (gl gs k nL cA : Nat) (ln : Ln) (st : Sat) (A B : List Snt) (D : List Int) (heard : Int) (va vb vd : Value) (hinv : Inv li k ln st A B D heard) (hst : St8 w1 wr gl gs ln st va vb vd A B D) (k2 : k ≤ 200) (kL : k ≤ nL) (hlen : nL ≤ 9223372036854775807)
    (R : Act → World → Prop) (Q0 : Exit → Act → World → Prop)
    (u4 u12 u13 u14 u15 u16 u17 u18 u19 u20 u21 u22 u31 u32 u33 u34 u35 u36 u37 u38 u39 u40 u41 u42 u43 u44 u45 u46 u47 u48 u49 u50 u51 u52 u53 u54 u55 u56 u57 u58 u59 u60 u61 u62 u63 u64 u65 u66 u67 u68 u69 u70 u71 u72 u73 u74 u75 u76 u77 u78 u79 u80 u81 u82 u83 u84 u85 u86 u87 u88 u89 u90 u91 u92 u93 u94 u95 u96 u97 u98 u99 u100 u101 u102 u103 u104 u105 u106 u107 u108 u109 u110 u111 u112 u113 u114 u115 u116 u117 u118 u119 u120 u121 u122 u123 u124 u125 u126 u127 u128 u129 u130 u131 u132 u133 u134 u135 u136 u137 u138 u139 u140 u141 u142 u143 u144 u145 u146 u147 u148 u149 u150 u151 u152 u153 u154 u155 u156 u157 u158 u159 u160 u161 u162 u163 u164 u165 u166 u167 u168 u169 u170 u171 u172 u173 u174 u175 u176 u177 u178 u179 u180 u181 u182 u183 u184 u185 u186 u187 u188 u189 u190 u191 u192 u193 u194 u195 u196 u197 u198 u199 u200 u201 u202 u203 u204 u205 u206 u207 u208 u209 u210 u211 u212 c26 c27 c28 c29 c30 : Value)
    (hend : ∀ (ln' : Ln) (st' : Sat) (A' B' : List Snt) (D' : List Int) (heard' : Int) (va' vb' vd' hh ii : Value) (w' : World), ii = .int .i64 ((k + 1 : Nat) : Int) → hh = .int .i64 heard' → Inv li (k + 1) ln' st' A' B' D' heard' → St8 w1 w' gl gs ln' st' va' vb' vd' A' B' D' →
      ∀ (xu4 xu12 xu13 xu14 xu15 xu16 xu17 xu18 xu19 xu20 xu21 xu22 xu31 xu32 xu33 xu34 xu35 xu36 xu37 xu38 xu39 xu40 xu41 xu42 xu43 xu44 xu45 xu46 xu47 xu48 xu49 xu50 xu51 xu52 xu53 xu54 xu55 xu56 xu57 xu58 xu59 xu60 xu61 xu62 xu63 xu64 xu65 xu66 xu67 xu68 xu69 xu70 xu71 xu72 xu73 xu74 xu75 xu76 xu77 xu78 xu79 xu80 xu81 xu82 xu83 xu84 xu85 xu86 xu87 xu88 xu89 xu90 xu91 xu92 xu93 xu94 xu95 xu96 xu97 xu98 xu99 xu100 xu101 xu102 xu103 xu104 xu105 xu106 xu107 xu108 xu109 xu110 xu111 xu112 xu113 xu114 xu115 xu116 xu117 xu118 xu119 xu120 xu121 xu122 xu123 xu124 xu125 xu126 xu127 xu128 xu129 xu130 xu131 xu132 xu133 xu134 xu135 xu136 xu137 xu138 xu139 xu140 xu141 xu142 xu143 xu144 xu145 xu146 xu147 xu148 xu149 xu150 xu151 xu152 xu153 xu154 xu155 xu156 xu157 xu158 xu159 xu160 xu161 xu162 xu163 xu164 xu165 xu166 xu167 xu168 xu169 xu170 xu171 xu172 xu173 xu174 xu175 xu176 xu177 xu178 xu179 xu180 xu181 xu182 xu183 xu184 xu185 xu186 xu187 xu188 xu189 xu190 xu191 xu192 xu193 xu194 xu195 xu196 xu197 xu198 xu199 xu200 xu201 xu202 xu203 xu204 xu205 xu206 xu207 xu208 xu209 xu210 xu211 xu212 xc26 xc27 xc28 xc29 xc30 : Value), R ⟨#[.int .u32 li, .slice (some ⟨g, o, none⟩) nL cA, undef, undef, xu4, .pointer (some ⟨gl, 0, none⟩), .pointer (some ⟨gs, 0, none⟩), va', vb', vd', hh, ii, xu12, xu13, xu14, xu15, xu16, xu17, xu18, xu19, xu20, xu21, xu22, undef, .bool true, .bool false, xc26, xc27, xc28, xc29, xc30, xu31, xu32, xu33, xu34, xu35, xu36, xu37, xu38, xu39, xu40, xu41, xu42, xu43, xu44, xu45, xu46, xu47, xu48, xu49, xu50, xu51, xu52, xu53, xu54, xu55, xu56, xu57, xu58, xu59, xu60, xu61, xu62, xu63, xu64, xu65, xu66, xu67, xu68, xu69, xu70, xu71, xu72, xu73, xu74, xu75, xu76, xu77, xu78, xu79, xu80, xu81, xu82, xu83, xu84, xu85, xu86, xu87, xu88, xu89, xu90, xu91, xu92, xu93, xu94, xu95, xu96, xu97, xu98, xu99, xu100, xu101, xu102, xu103, xu104, xu105, xu106, xu107, xu108, xu109, xu110, xu111, xu112, xu113, xu114, xu115, xu116, xu117, xu118, xu119, xu120, xu121, xu122, xu123, xu124, xu125, xu126, xu127, xu128, xu129, xu130, xu131, xu132, xu133, xu134, xu135, xu136, xu137, xu138, xu139, xu140, xu141, xu142, xu143, xu144, xu145, xu146, xu147, xu148, xu149, xu150, xu151, xu152, xu153, xu154, xu155, xu156, xu157, xu158, xu159, xu160, xu161, xu162, xu163, xu164, xu165, xu166, xu167, xu168, xu169, xu170, xu171, xu172, xu173, xu174, xu175, xu176, xu177, xu178, xu179, xu180, xu181, xu182, xu183, xu184, xu185, xu186, xu187, xu188, xu189, xu190, xu191, xu192, xu193, xu194, xu195, xu196, xu197, xu198, xu199, xu200, xu201, xu202, xu203, xu204, xu205, xu206, xu207, xu208, xu209, xu210, xu211, xu212, undef, undef, undef, undef, undef, undef, undef, undef, undef, undef, undef, undef, undef, undef, undef, undef, undef, undef, undef, undef, undef, undef, undef, undef, undef, undef, undef, undef, undef], []⟩ w')
    (hlt : k < nL) (h200 : k < 200) (hel0 : wr.cell? ⟨g, o + k * 2, none⟩ = some (.int .i64 kind)) (hel1 : wr.cell? ⟨g, o + k * 2 + 1, none⟩ = some (.int .i64 num)) (hI1 : I kind) (hI2 : I num) (a3 : kind.tmod 4 = 3) :
    Code.wp Try.prog onceBody (Exit.then R Q0) ⟨#[.int .u32 li, .slice (some ⟨g, o, none⟩) nL cA, undef, undef, u4, .pointer (some ⟨gl, 0, none⟩), .pointer (some ⟨gs, 0, none⟩), va, vb, vd, .int .i64 heard, .int .i64 k, u12, u13, u14, u15, u16, u17, u18, u19, u20, u21, u22, undef, .bool true, .bool false, c26, c27, c28, c29, c30, u31, u32, u33, u34, u35, u36, u37, u38, u39, u40, u41, u42, u43, u44, u45, u46, u47, u48, u49, u50, u51, u52, u53, u54, u55, u56, u57, u58, u59, u60, u61, u62, u63, u64, u65, u66, u67, u68, u69, u70, u71, u72, u73, u74, u75, u76, u77, u78, u79, u80, u81, u82, u83, u84, u85, u86, u87, u88, u89, u90, u91, u92, u93, u94, u95, u96, u97, u98, u99, u100, u101, u102, u103, u104, u105, u106, u107, u108, u109, u110, u111, u112, u113, u114, u115, u116, u117, u118, u119, u120, u121, u122, u123, u124, u125, u126, u127, u128, u129, u130, u131, u132, u133, u134, u135, u136, u137, u138, u139, u140, u141, u142, u143, u144, u145, u146, u147, u148, u149, u150, u151, u152, u153, u154, u155, u156, u157, u158, u159, u160, u161, u162, u163, u164, u165, u166, u167, u168, u169, u170, u171, u172, u173, u174, u175, u176, u177, u178, u179, u180, u181, u182, u183, u184, u185, u186, u187, u188, u189, u190, u191, u192, u193, u194, u195, u196, u197, u198, u199, u200, u201, u202, u203, u204, u205, u206, u207, u208, u209, u210, u211, u212, undef, undef, undef, undef, undef, undef, undef, undef, undef, undef, undef, undef, undef, undef, undef, undef, undef, undef, undef, undef, undef, undef, undef, undef, undef, undef, undef, undef, undef], []⟩ wr := by
  conv => arg 2; whnf
  obtain ⟨pA, cpA, rfl, eA⟩ := own_shape sntE_length hst.a
  obtain ⟨pB, cpB, rfl, eB⟩ := own_shape sntE_length hst.b
  obtain ⟨pD, cpD, rfl, eD⟩ := own_shape numE_length hst.d
  obtain ⟨y0, y1, n, out, body, left, gap⟩ := ln
  have e0 : li = y0 := hinv.lif.symm
  have e1 : 3 = y1 := hinv.boot.symm
  subst e0 e1
  have f0 : decide ((k : Int) < (nL : Int)) = true := by simp; omega
  have f1 : decide ((k : Int) < 200) = true := by simp; omega
  by_cases h0 : B.length = 0
  · obtain rfl : B = [] := List.eq_nil_of_length_eq_zero h0
    go_wp2_with fail
    exact hend _ st A [] D heard _ _ _ _ _ _ (by go_num) (by go_num) (hinv.stay) (hst) _ _ _ _ _ _ _ _ _ _ _ _ _ _ _ _ _ _ _ _ _ _ _ _ _ _ _ _ _ _ _ _ _ _ _ _ _ _ _ _ _ _ _ _ _ _ _ _ _ _ _ _ _ _ _ _ _ _ _ _ _ _ _ _ _ _ _ _ _ _ _ _ _ _ _ _ _ _ _ _ _ _ _ _ _ _ _ _ _ _ _ _ _ _ _ _ _ _ _ _ _ _ _ _ _ _ _ _ _ _ _ _ _ _ _ _ _ _ _ _ _ _ _ _ _ _ _ _ _ _ _ _ _ _ _ _ _ _ _ _ _ _ _ _ _ _ _ _ _ _ _ _ _ _ _ _ _ _ _ _ _ _ _ _ _ _ _ _ _ _ _ _ _ _ _ _ _ _ _ _ _ _ _ _ _ _ _ _ _ _ _ _ _ _ _ _ _ _ _
  · have q0 : ((B.length : Int) == 0) = false := by simpa using h0
    obtain ⟨j, hj, hw1, hw2, hw3⟩ := idx_ok num B.length (by omega) (by have := hinv.lb; omega)
    obtain ⟨gb, ob, rfl, hgb, hat⟩ := eB.get hj
    obtain ⟨p0, p1⟩ := Snt.at_ hat hj
    have hy : B[j] ∈ B := List.getElem_mem hj
    generalize B[j] = y at p0 p1 hy
    obtain ⟨q, r⟩ := y
    have hq := hinv.answers _ hy
    have hni := hinv.ni
    have lD := hinv.ld
    have lH := hinv.heards
    have hn0 := hinv.n0
    simp only at p0 p1 hq hni lD hn0
    rcases out with _ | _
    · obtain ⟨E, E'⟩ := hear_not (life := li) (ln := ⟨li, 3, n, false, body, left, gap⟩) (y := ⟨q, r⟩) (.inl rfl)
      simp only at E E'
      have hinv' := hinv.stay
      have T := fun w => hear_any ⟨li, 3, n, false, body, left, gap⟩ li 3 3 q w
      simp only [E, E'] at T
      replace T := Lib.hid T
      replace hinv' := Lib.hid hinv'
      have S1 := hst.keep ((Only.refl [] wr).alloc (.cells #[.int .u32 q, .string r] 47))
      have S2 := S1.keep ((Only.refl [] _).alloc (.cells #[.int .u32 li, .int .u32 3, .int .u32 n, .bool false, .string body, .int .i64 left, .int .i64 gap] 30))
      have bp := ((Blk.new wr 47 #[.int .u32 q, .string r])).alloc (.cells #[.int .u32 li, .int .u32 3, .int .u32 n, .bool false, .string body, .int .i64 left, .int .i64 gap] 30)
      have bw := Blk.new (wr.alloc (.cells #[.int .u32 q, .string r] 47)) 30 #[.int .u32 li, .int .u32 3, .int .u32 n, .bool false, .string body, .int .i64 left, .int .i64 gap]
      rw [show (wr.alloc (.cells #[.int .u32 q, .string r] 47)).heap.size = wr.heap.size + 1 by simp] at bw
      have hgl := hst.line.lt
      have hne1 : ¬ gl = wr.heap.size := by omega
      have hne2 : ¬ gl = wr.heap.size + 1 := by omega
      have hne3 : ¬ wr.heap.size = gl := by omega
      have hne4 : ¬ wr.heap.size + 1 = gl := by omega
      have hq1 : 1 ≤ q ∧ q ≤ 200 := by omega
      obtain ⟨c0, c1, c2, c3, c4, c5, c6⟩ := S1.line.seven (Only.refl [] _) (by simp)
      obtain ⟨d0', d1, d2, d3, d4, d5, d6⟩ := S2.line.seven (Only.refl [] _) (by simp)
      clear hat hy hinv E E' eA eB eD hst S1 hq
      go_wp2_with fail
      refine (T.out _).mono ?_; rintro e w3 ⟨rfl, k3⟩
      clear c0 c1 c2 c3 c4 c5 c6 d0' d1 d2 d3 d4 d5 d6 p0 p1 T hw1 hw2 hw3 hj
      have S3 := (S2.keep k3).keep ((Only.refl [] w3).alloc (.cells #[.int .u32 li, .int .u32 3, .int .u32 n, .bool false, .string body, .int .i64 left, .int .i64 gap] 30))
      replace bp := (bp.kept k3 (by simp)).alloc (.cells #[.int .u32 li, .int .u32 3, .int .u32 n, .bool false, .string body, .int .i64 left, .int .i64 gap] 30)
      replace bw := (bw.kept k3 (by simp)).alloc (.cells #[.int .u32 li, .int .u32 3, .int .u32 n, .bool false, .string body, .int .i64 left, .int .i64 gap] 30)
      obtain ⟨c0, c1, c2, c3, c4, c5, c6⟩ := S3.line.seven (Only.refl [] _) (by simp)
      obtain ⟨f0, f1, f2, f3, f4, f5, f6⟩ := S3.line.free7
      have S4 := S3.setLine ⟨li, 3, n, false, body, left, gap⟩
      have kl : Only [gl] (w3.alloc (.cells #[.int .u32 li, .int .u32 3, .int .u32 n, .bool false, .string body, .int .i64 left, .int .i64 gap] 30)) ((((((((w3.alloc (.cells #[.int .u32 li, .int .u32 3, .int .u32 n, .bool false, .string body, .int .i64 left, .int .i64 gap] 30)).setCell ⟨gl, 0, none⟩ (.int .u32 li)).setCell ⟨gl, 1, none⟩ (.int .u32 3)).setCell ⟨gl, 2, none⟩ (.int .u32 n)).setCell ⟨gl, 3, none⟩ (.bool false)).setCell ⟨gl, 4, none⟩ (.string body)).setCell ⟨gl, 5, none⟩ (.int .i64 left)).setCell ⟨gl, 6, none⟩ (.int .i64 gap)) := (Only.refl _ _).store7 (.inl (by simp))
      replace bp := bp.kept kl (by simp; omega)
      replace bw := bw.kept kl (by simp; omega)
      clear S2 S3 k3 kl
      have v0 := bw.cell 0
      have v1 := bw.cell 1
      have v2 := bw.cell 2
      have v3 := bw.cell 3
      have v4 := bw.cell 4
      have v5 := bw.cell 5
      have v6 := bw.cell 6
      simp only [List.getElem?_toArray, List.getElem?_cons_zero, List.getElem?_cons_succ] at v0 v1 v2 v3 v4 v5 v6
      go_wp2_with fail
      exact hend _ st A B D heard _ _ _ _ _ _ (by go_num) (by go_num) (hinv'.out) (S4) _ _ _ _ _ _ _ _ _ _ _ _ _ _ _ _ _ _ _ _ _ _ _ _ _ _ _ _ _ _ _ _ _ _ _ _ _ _ _ _ _ _ _ _ _ _ _ _ _ _ _ _ _ _ _ _ _ _ _ _ _ _ _ _ _ _ _ _ _ _ _ _ _ _ _ _ _ _ _ _ _ _ _ _ _ _ _ _ _ _ _ _ _ _ _ _ _ _ _ _ _ _ _ _ _ _ _ _ _ _ _ _ _ _ _ _ _ _ _ _ _ _ _ _ _ _ _ _ _ _ _ _ _ _ _ _ _ _ _ _ _ _ _ _ _ _ _ _ _ _ _ _ _ _ _ _ _ _ _ _ _ _ _ _ _ _ _ _ _ _ _ _ _ _ _ _ _ _ _ _ _ _ _ _ _ _ _ _ _ _ _ _ _ _ _ _ _ _ _
    by_cases hqn : q = n
    · obtain ⟨hinv', E, E', hrep⟩ := hinv.hear hy rfl hqn
      simp only at E E' hrep
      subst hqn
      replace hrep := Lib.hid hrep
      have T := fun w => hear_any ⟨li, 3, q, true, body, left, gap⟩ li 3 3 q w
      simp only [E, E'] at T
      replace T := Lib.hid T
      replace hinv' := Lib.hid hinv'
      have S1 := hst.keep ((Only.refl [] wr).alloc (.cells #[.int .u32 q, .string r] 47))
      have S2 := S1.keep ((Only.refl [] _).alloc (.cells #[.int .u32 li, .int .u32 3, .int .u32 q, .bool true, .string body, .int .i64 left, .int .i64 gap] 30))
      have bp := ((Blk.new wr 47 #[.int .u32 q, .string r])).alloc (.cells #[.int .u32 li, .int .u32 3, .int .u32 q, .bool true, .string body, .int .i64 left, .int .i64 gap] 30)
      have bw := Blk.new (wr.alloc (.cells #[.int .u32 q, .string r] 47)) 30 #[.int .u32 li, .int .u32 3, .int .u32 q, .bool true, .string body, .int .i64 left, .int .i64 gap]
      rw [show (wr.alloc (.cells #[.int .u32 q, .string r] 47)).heap.size = wr.heap.size + 1 by simp] at bw
      have hgl := hst.line.lt
      have hne1 : ¬ gl = wr.heap.size := by omega
      have hne2 : ¬ gl = wr.heap.size + 1 := by omega
      have hne3 : ¬ wr.heap.size = gl := by omega
      have hne4 : ¬ wr.heap.size + 1 = gl := by omega
      have hq1 : 1 ≤ q ∧ q ≤ 200 := by omega
      obtain ⟨c0, c1, c2, c3, c4, c5, c6⟩ := S1.line.seven (Only.refl [] _) (by simp)
      obtain ⟨d0', d1, d2, d3, d4, d5, d6⟩ := S2.line.seven (Only.refl [] _) (by simp)
      clear hat hy hinv E E' eA eB eD hst S1 hq
      go_wp2_with fail
      refine (T.out _).mono ?_; rintro e w3 ⟨rfl, k3⟩
      clear c0 c1 c2 c3 c4 c5 c6 d0' d1 d2 d3 d4 d5 d6 p0 p1 T hw1 hw2 hw3 hj
      have S3 := (S2.keep k3).keep ((Only.refl [] w3).alloc (.cells #[.int .u32 li, .int .u32 3, .int .u32 q, .bool false, .string ⟨#[]⟩, .int .i64 0, .int .i64 0] 30))
      replace bp := (bp.kept k3 (by simp)).alloc (.cells #[.int .u32 li, .int .u32 3, .int .u32 q, .bool false, .string ⟨#[]⟩, .int .i64 0, .int .i64 0] 30)
      replace bw := (bw.kept k3 (by simp)).alloc (.cells #[.int .u32 li, .int .u32 3, .int .u32 q, .bool false, .string ⟨#[]⟩, .int .i64 0, .int .i64 0] 30)
      obtain ⟨c0, c1, c2, c3, c4, c5, c6⟩ := S3.line.seven (Only.refl [] _) (by simp)
      obtain ⟨f0, f1, f2, f3, f4, f5, f6⟩ := S3.line.free7
      have S4 := S3.setLine ⟨li, 3, q, false, ⟨#[]⟩, 0, 0⟩
      have kl : Only [gl] (w3.alloc (.cells #[.int .u32 li, .int .u32 3, .int .u32 q, .bool false, .string ⟨#[]⟩, .int .i64 0, .int .i64 0] 30)) ((((((((w3.alloc (.cells #[.int .u32 li, .int .u32 3, .int .u32 q, .bool false, .string ⟨#[]⟩, .int .i64 0, .int .i64 0] 30)).setCell ⟨gl, 0, none⟩ (.int .u32 li)).setCell ⟨gl, 1, none⟩ (.int .u32 3)).setCell ⟨gl, 2, none⟩ (.int .u32 q)).setCell ⟨gl, 3, none⟩ (.bool false)).setCell ⟨gl, 4, none⟩ (.string ⟨#[]⟩)).setCell ⟨gl, 5, none⟩ (.int .i64 0)).setCell ⟨gl, 6, none⟩ (.int .i64 0)) := (Only.refl _ _).store7 (.inl (by simp))
      replace bp := bp.kept kl (by simp; omega)
      replace bw := bw.kept kl (by simp; omega)
      clear S2 S3 k3 kl
      have hc := ans_run ((((((((w3.alloc (.cells #[.int .u32 li, .int .u32 3, .int .u32 q, .bool false, .string ⟨#[]⟩, .int .i64 0, .int .i64 0] 30)).setCell ⟨gl, 0, none⟩ (.int .u32 li)).setCell ⟨gl, 1, none⟩ (.int .u32 3)).setCell ⟨gl, 2, none⟩ (.int .u32 q)).setCell ⟨gl, 3, none⟩ (.bool false)).setCell ⟨gl, 4, none⟩ (.string ⟨#[]⟩)).setCell ⟨gl, 5, none⟩ (.int .i64 0)).setCell ⟨gl, 6, none⟩ (.int .i64 0)) q (by omega) (by omega)
      rw [show ((((((((w3.alloc (.cells #[.int .u32 li, .int .u32 3, .int .u32 q, .bool false, .string ⟨#[]⟩, .int .i64 0, .int .i64 0] 30)).setCell ⟨gl, 0, none⟩ (.int .u32 li)).setCell ⟨gl, 1, none⟩ (.int .u32 3)).setCell ⟨gl, 2, none⟩ (.int .u32 q)).setCell ⟨gl, 3, none⟩ (.bool false)).setCell ⟨gl, 4, none⟩ (.string ⟨#[]⟩)).setCell ⟨gl, 5, none⟩ (.int .i64 0)).setCell ⟨gl, 6, none⟩ (.int .i64 0)).heap.size = w3.heap.size + 1 by simp [World.setCell], ← hrep.out] at hc
      clear hrep
      have b0 := bp.cell 0
      have b1 := bp.cell 1
      have v2 := bw.cell 2
      have v3 := (bw.alloc (.cells #[.int .u8 q, .int .u8 (q / 256)] 5)).cell 3
      simp only [List.getElem?_toArray, List.getElem?_cons_zero, List.getElem?_cons_succ] at b0 b1 v2 v3
      have lH2 : 0 ≤ heard ∧ heard ≤ 200 := by omega
      clear lH
      have S5 := S4.keep ((Only.refl [] _).alloc (.cells #[.int .u8 q, .int .u8 (q / 256)] 5))
      have l3 := S5.line.cell 3
      simp only [List.getElem?_toArray, List.getElem?_cons_zero, List.getElem?_cons_succ] at l3
      go_wp2_with fail
      exact hend _ st A B D (heard + 1) _ _ _ _ _ _ (by go_num) (by go_num) (hinv'.out) (S5) _ _ _ _ _ _ _ _ _ _ _ _ _ _ _ _ _ _ _ _ _ _ _ _ _ _ _ _ _ _ _ _ _ _ _ _ _ _ _ _ _ _ _ _ _ _ _ _ _ _ _ _ _ _ _ _ _ _ _ _ _ _ _ _ _ _ _ _ _ _ _ _ _ _ _ _ _ _ _ _ _ _ _ _ _ _ _ _ _ _ _ _ _ _ _ _ _ _ _ _ _ _ _ _ _ _ _ _ _ _ _ _ _ _ _ _ _ _ _ _ _ _ _ _ _ _ _ _ _ _ _ _ _ _ _ _ _ _ _ _ _ _ _ _ _ _ _ _ _ _ _ _ _ _ _ _ _ _ _ _ _ _ _ _ _ _ _ _ _ _ _ _ _ _ _ _ _ _ _ _ _ _ _ _ _ _ _ _ _ _ _ _ _ _ _ _ _ _ _
    · obtain ⟨E, E'⟩ := hear_not (life := li) (ln := ⟨li, 3, n, true, body, left, gap⟩) (y := ⟨q, r⟩) (.inr hqn)
      simp only at E E'
      have hinv' := hinv.stay
      have T := fun w => hear_any ⟨li, 3, n, true, body, left, gap⟩ li 3 3 q w
      simp only [E, E'] at T
      replace T := Lib.hid T
      replace hinv' := Lib.hid hinv'
      have S1 := hst.keep ((Only.refl [] wr).alloc (.cells #[.int .u32 q, .string r] 47))
      have S2 := S1.keep ((Only.refl [] _).alloc (.cells #[.int .u32 li, .int .u32 3, .int .u32 n, .bool true, .string body, .int .i64 left, .int .i64 gap] 30))
      have bp := ((Blk.new wr 47 #[.int .u32 q, .string r])).alloc (.cells #[.int .u32 li, .int .u32 3, .int .u32 n, .bool true, .string body, .int .i64 left, .int .i64 gap] 30)
      have bw := Blk.new (wr.alloc (.cells #[.int .u32 q, .string r] 47)) 30 #[.int .u32 li, .int .u32 3, .int .u32 n, .bool true, .string body, .int .i64 left, .int .i64 gap]
      rw [show (wr.alloc (.cells #[.int .u32 q, .string r] 47)).heap.size = wr.heap.size + 1 by simp] at bw
      have hgl := hst.line.lt
      have hne1 : ¬ gl = wr.heap.size := by omega
      have hne2 : ¬ gl = wr.heap.size + 1 := by omega
      have hne3 : ¬ wr.heap.size = gl := by omega
      have hne4 : ¬ wr.heap.size + 1 = gl := by omega
      have hq1 : 1 ≤ q ∧ q ≤ 200 := by omega
      obtain ⟨c0, c1, c2, c3, c4, c5, c6⟩ := S1.line.seven (Only.refl [] _) (by simp)
      obtain ⟨d0', d1, d2, d3, d4, d5, d6⟩ := S2.line.seven (Only.refl [] _) (by simp)
      clear hat hy hinv E E' eA eB eD hst S1 hq
      go_wp2_with fail
      refine (T.out _).mono ?_; rintro e w3 ⟨rfl, k3⟩
      clear c0 c1 c2 c3 c4 c5 c6 d0' d1 d2 d3 d4 d5 d6 p0 p1 T hw1 hw2 hw3 hj
      have S3 := (S2.keep k3).keep ((Only.refl [] w3).alloc (.cells #[.int .u32 li, .int .u32 3, .int .u32 n, .bool true, .string body, .int .i64 left, .int .i64 gap] 30))
      replace bp := (bp.kept k3 (by simp)).alloc (.cells #[.int .u32 li, .int .u32 3, .int .u32 n, .bool true, .string body, .int .i64 left, .int .i64 gap] 30)
      replace bw := (bw.kept k3 (by simp)).alloc (.cells #[.int .u32 li, .int .u32 3, .int .u32 n, .bool true, .string body, .int .i64 left, .int .i64 gap] 30)
      obtain ⟨c0, c1, c2, c3, c4, c5, c6⟩ := S3.line.seven (Only.refl [] _) (by simp)
      obtain ⟨f0, f1, f2, f3, f4, f5, f6⟩ := S3.line.free7
      have S4 := S3.setLine ⟨li, 3, n, true, body, left, gap⟩
      have kl : Only [gl] (w3.alloc (.cells #[.int .u32 li, .int .u32 3, .int .u32 n, .bool true, .string body, .int .i64 left, .int .i64 gap] 30)) ((((((((w3.alloc (.cells #[.int .u32 li, .int .u32 3, .int .u32 n, .bool true, .string body, .int .i64 left, .int .i64 gap] 30)).setCell ⟨gl, 0, none⟩ (.int .u32 li)).setCell ⟨gl, 1, none⟩ (.int .u32 3)).setCell ⟨gl, 2, none⟩ (.int .u32 n)).setCell ⟨gl, 3, none⟩ (.bool true)).setCell ⟨gl, 4, none⟩ (.string body)).setCell ⟨gl, 5, none⟩ (.int .i64 left)).setCell ⟨gl, 6, none⟩ (.int .i64 gap)) := (Only.refl _ _).store7 (.inl (by simp))
      replace bp := bp.kept kl (by simp; omega)
      replace bw := bw.kept kl (by simp; omega)
      clear S2 S3 k3 kl
      have v0 := bw.cell 0
      have v1 := bw.cell 1
      have v2 := bw.cell 2
      have v3 := bw.cell 3
      have v4 := bw.cell 4
      have v5 := bw.cell 5
      have v6 := bw.cell 6
      simp only [List.getElem?_toArray, List.getElem?_cons_zero, List.getElem?_cons_succ] at v0 v1 v2 v3 v4 v5 v6
      go_wp2_with fail
      exact hend _ st A B D heard _ _ _ _ _ _ (by go_num) (by go_num) (hinv'.out) (S4) _ _ _ _ _ _ _ _ _ _ _ _ _ _ _ _ _ _ _ _ _ _ _ _ _ _ _ _ _ _ _ _ _ _ _ _ _ _ _ _ _ _ _ _ _ _ _ _ _ _ _ _ _ _ _ _ _ _ _ _ _ _ _ _ _ _ _ _ _ _ _ _ _ _ _ _ _ _ _ _ _ _ _ _ _ _ _ _ _ _ _ _ _ _ _ _ _ _ _ _ _ _ _ _ _ _ _ _ _ _ _ _ _ _ _ _ _ _ _ _ _ _ _ _ _ _ _ _ _ _ _ _ _ _ _ _ _ _ _ _ _ _ _ _ _ _ _ _ _ _ _ _ _ _ _ _ _ _ _ _ _ _ _ _ _ _ _ _ _ _ _ _ _ _ _ _ _ _ _ _ _ _ _ _ _ _ _ _ _ _ _ _ _ _ _ _ _ _ _

end Go.Proofs.Ytjogdilkdnnhnaa
