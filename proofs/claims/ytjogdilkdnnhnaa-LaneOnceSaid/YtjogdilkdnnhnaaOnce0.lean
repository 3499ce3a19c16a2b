/- LaneOnce: an Ask. -/
import Derived.Test.YtjogdilkdnnhnaaOnceB
namespace Go.Proofs.Ytjogdilkdnnhnaa
open Go.RowKit
set_option linter.unusedVariables false

set_option maxRecDepth 100000 in
set_option maxHeartbeats 4000000 in
theorem once_0 (g o : Nat) (kind num : Int) (w1 wr : World) (li : Int) (hli : U li) (l1 : 1 ≤ li) (gl gs k nL cA : Nat) (ln : Ln) (st : Sat) (A B : List Snt) (D : List Int) (heard : Int) (va vb vd : Value) (hinv : Inv li k ln st A B D heard) (hst : St8 w1 wr gl gs ln st va vb vd A B D) (k2 : k ≤ 200) (kL : k ≤ nL) (hlen : nL ≤ 9223372036854775807)
    (R : Act → World → Prop) (Q0 : Exit → Act → World → Prop)
    (u4 u12 u13 u14 u15 u16 u17 u18 u19 u20 u21 u22 u31 u32 u33 u34 u35 u36 u37 u38 u39 u40 u41 u42 u43 u44 u45 u46 u47 u48 u49 u50 u51 u52 u53 u54 u55 u56 u57 u58 u59 u60 u61 u62 u63 u64 u65 u66 u67 u68 u69 u70 u71 u72 u73 u74 u75 u76 u77 u78 u79 u80 u81 u82 u83 u84 u85 u86 u87 u88 u89 u90 u91 u92 u93 u94 u95 u96 u97 u98 u99 u100 u101 u102 u103 u104 u105 u106 u107 u108 u109 u110 u111 u112 u113 u114 u115 u116 u117 u118 u119 u120 u121 u122 u123 u124 u125 u126 u127 u128 u129 u130 u131 u132 u133 u134 u135 u136 u137 u138 u139 u140 u141 u142 u143 u144 u145 u146 u147 u148 u149 u150 u151 u152 u153 u154 u155 u156 u157 u158 u159 u160 u161 u162 u163 u164 u165 u166 u167 u168 u169 u170 u171 u172 u173 u174 u175 u176 u177 u178 u179 u180 u181 u182 u183 u184 u185 u186 u187 u188 u189 u190 u191 u192 u193 u194 u195 u196 u197 u198 u199 u200 u201 u202 u203 u204 u205 u206 u207 u208 u209 u210 u211 u212 c26 c27 c28 c29 c30 : Value)
    (hend : ∀ (ln' : Ln) (st' : Sat) (A' B' : List Snt) (D' : List Int) (heard' : Int) (va' vb' vd' hh ii : Value) (w' : World), ii = .int .i64 ((k + 1 : Nat) : Int) → hh = .int .i64 heard' → Inv li (k + 1) ln' st' A' B' D' heard' → St8 w1 w' gl gs ln' st' va' vb' vd' A' B' D' →
      ∀ (xu4 xu12 xu13 xu14 xu15 xu16 xu17 xu18 xu19 xu20 xu21 xu22 xu31 xu32 xu33 xu34 xu35 xu36 xu37 xu38 xu39 xu40 xu41 xu42 xu43 xu44 xu45 xu46 xu47 xu48 xu49 xu50 xu51 xu52 xu53 xu54 xu55 xu56 xu57 xu58 xu59 xu60 xu61 xu62 xu63 xu64 xu65 xu66 xu67 xu68 xu69 xu70 xu71 xu72 xu73 xu74 xu75 xu76 xu77 xu78 xu79 xu80 xu81 xu82 xu83 xu84 xu85 xu86 xu87 xu88 xu89 xu90 xu91 xu92 xu93 xu94 xu95 xu96 xu97 xu98 xu99 xu100 xu101 xu102 xu103 xu104 xu105 xu106 xu107 xu108 xu109 xu110 xu111 xu112 xu113 xu114 xu115 xu116 xu117 xu118 xu119 xu120 xu121 xu122 xu123 xu124 xu125 xu126 xu127 xu128 xu129 xu130 xu131 xu132 xu133 xu134 xu135 xu136 xu137 xu138 xu139 xu140 xu141 xu142 xu143 xu144 xu145 xu146 xu147 xu148 xu149 xu150 xu151 xu152 xu153 xu154 xu155 xu156 xu157 xu158 xu159 xu160 xu161 xu162 xu163 xu164 xu165 xu166 xu167 xu168 xu169 xu170 xu171 xu172 xu173 xu174 xu175 xu176 xu177 xu178 xu179 xu180 xu181 xu182 xu183 xu184 xu185 xu186 xu187 xu188 xu189 xu190 xu191 xu192 xu193 xu194 xu195 xu196 xu197 xu198 xu199 xu200 xu201 xu202 xu203 xu204 xu205 xu206 xu207 xu208 xu209 xu210 xu211 xu212 xc26 xc27 xc28 xc29 xc30 : Value), R ⟨#[.int .u32 li, .slice (some ⟨g, o, none⟩) nL cA, undef, undef, xu4, .pointer (some ⟨gl, 0, none⟩), .pointer (some ⟨gs, 0, none⟩), va', vb', vd', hh, ii, xu12, xu13, xu14, xu15, xu16, xu17, xu18, xu19, xu20, xu21, xu22, undef, .bool true, .bool false, xc26, xc27, xc28, xc29, xc30, xu31, xu32, xu33, xu34, xu35, xu36, xu37, xu38, xu39, xu40, xu41, xu42, xu43, xu44, xu45, xu46, xu47, xu48, xu49, xu50, xu51, xu52, xu53, xu54, xu55, xu56, xu57, xu58, xu59, xu60, xu61, xu62, xu63, xu64, xu65, xu66, xu67, xu68, xu69, xu70, xu71, xu72, xu73, xu74, xu75, xu76, xu77, xu78, xu79, xu80, xu81, xu82, xu83, xu84, xu85, xu86, xu87, xu88, xu89, xu90, xu91, xu92, xu93, xu94, xu95, xu96, xu97, xu98, xu99, xu100, xu101, xu102, xu103, xu104, xu105, xu106, xu107, xu108, xu109, xu110, xu111, xu112, xu113, xu114, xu115, xu116, xu117, xu118, xu119, xu120, xu121, xu122, xu123, xu124, xu125, xu126, xu127, xu128, xu129, xu130, xu131, xu132, xu133, xu134, xu135, xu136, xu137, xu138, xu139, xu140, xu141, xu142, xu143, xu144, xu145, xu146, xu147, xu148, xu149, xu150, xu151, xu152, xu153, xu154, xu155, xu156, xu157, xu158, xu159, xu160, xu161, xu162, xu163, xu164, xu165, xu166, xu167, xu168, xu169, xu170, xu171, xu172, xu173, xu174, xu175, xu176, xu177, xu178, xu179, xu180, xu181, xu182, xu183, xu184, xu185, xu186, xu187, xu188, xu189, xu190, xu191, xu192, xu193, xu194, xu195, xu196, xu197, xu198, xu199, xu200, xu201, xu202, xu203, xu204, xu205, xu206, xu207, xu208, xu209, xu210, xu211, xu212, undef, undef, undef, undef, undef, undef, undef, undef, undef, undef, undef, undef, undef, undef, undef, undef, undef, undef, undef, undef, undef, undef, undef, undef, undef, undef, undef, undef, undef], []⟩ w')
    (hlt : k < nL) (h200 : k < 200) (hel0 : wr.cell? ⟨g, o + k * 2, none⟩ = some (.int .i64 kind)) (hel1 : wr.cell? ⟨g, o + k * 2 + 1, none⟩ = some (.int .i64 num)) (hI1 : I kind) (hI2 : I num) (a0 : kind.tmod 4 = 0) :
    Code.wp Try.prog onceBody (Exit.then R Q0) ⟨#[.int .u32 li, .slice (some ⟨g, o, none⟩) nL cA, undef, undef, u4, .pointer (some ⟨gl, 0, none⟩), .pointer (some ⟨gs, 0, none⟩), va, vb, vd, .int .i64 heard, .int .i64 k, u12, u13, u14, u15, u16, u17, u18, u19, u20, u21, u22, undef, .bool true, .bool false, c26, c27, c28, c29, c30, u31, u32, u33, u34, u35, u36, u37, u38, u39, u40, u41, u42, u43, u44, u45, u46, u47, u48, u49, u50, u51, u52, u53, u54, u55, u56, u57, u58, u59, u60, u61, u62, u63, u64, u65, u66, u67, u68, u69, u70, u71, u72, u73, u74, u75, u76, u77, u78, u79, u80, u81, u82, u83, u84, u85, u86, u87, u88, u89, u90, u91, u92, u93, u94, u95, u96, u97, u98, u99, u100, u101, u102, u103, u104, u105, u106, u107, u108, u109, u110, u111, u112, u113, u114, u115, u116, u117, u118, u119, u120, u121, u122, u123, u124, u125, u126, u127, u128, u129, u130, u131, u132, u133, u134, u135, u136, u137, u138, u139, u140, u141, u142, u143, u144, u145, u146, u147, u148, u149, u150, u151, u152, u153, u154, u155, u156, u157, u158, u159, u160, u161, u162, u163, u164, u165, u166, u167, u168, u169, u170, u171, u172, u173, u174, u175, u176, u177, u178, u179, u180, u181, u182, u183, u184, u185, u186, u187, u188, u189, u190, u191, u192, u193, u194, u195, u196, u197, u198, u199, u200, u201, u202, u203, u204, u205, u206, u207, u208, u209, u210, u211, u212, undef, undef, undef, undef, undef, undef, undef, undef, undef, undef, undef, undef, undef, undef, undef, undef, undef, undef, undef, undef, undef, undef, undef, undef, undef, undef, undef, undef, undef], []⟩ wr := by
  conv => arg 2; whnf
  obtain ⟨pA, cpA, rfl, eA⟩ := own_shape sntE_length hst.a
  obtain ⟨pB, cpB, rfl, eB⟩ := own_shape sntE_length hst.b
  obtain ⟨pD, cpD, rfl, eD⟩ := own_shape numE_length hst.d
  obtain ⟨y0, y1, n, out, body, left, gap⟩ := ln
  have e0 : li = y0 := hinv.lif.symm
  have e1 : 3 = y1 := hinv.boot.symm
  subst e0 e1
  have f0 : decide ((k : Int) < (nL : Int)) = true := by simp; omega
  have f1 : decide ((k : Int) < 200) = true := by simp; omega
  rcases out with _ | _
  · obtain ⟨E, E'⟩ := askL_new hinv rfl k2 ⟨#[98, 111, 100, 121]⟩
    have T := fun w => ask_any ⟨li, 3, n, false, body, left, gap⟩ ⟨#[98, 111, 100, 121]⟩ w (hinv.okL hli k2)
    simp only [E, E'] at T
    replace T := Lib.hid T
    clear E E'
    have hinv' := hinv.ask rfl ⟨#[98, 111, 100, 121]⟩
    have lA := hinv.la
    replace hinv := Lib.hid hinv
    replace hinv' := Lib.hid hinv'
    obtain ⟨c0, c1, c2, c3, c4, c5, c6⟩ := hst.line.seven (Only.refl [] _) (by simp)
    go_wp2_with fail
    refine (T.out _).mono ?_; rintro e w3 ⟨rfl, k3⟩
    have S := (hst.keep k3).keep ((Only.refl [] w3).alloc (.cells #[.int .u32 li, .int .u32 3, .int .u32 (n + 1), .bool true, .string ⟨#[98, 111, 100, 121]⟩, .int .i64 1, .int .i64 1] 30))
    clear c0 c1 c2 c3 c4 c5 c6
    obtain ⟨c0, c1, c2, c3, c4, c5, c6⟩ := S.line.seven (Only.refl [] _) (by simp)
    obtain ⟨f0, f1, f2, f3, f4, f5, f6⟩ := S.line.free7
    have S3 := (S.setLine ⟨li, 3, n + 1, true, ⟨#[98, 111, 100, 121]⟩, 1, 1⟩).keep ((Only.refl [] _).alloc (.cells #[.int .u32 (n + 1), .string ⟨#[]⟩] 47))
    have b5 : Blk (((((((((w3.alloc (.cells #[.int .u32 li, .int .u32 3, .int .u32 (n + 1), .bool true, .string ⟨#[98, 111, 100, 121]⟩, .int .i64 1, .int .i64 1] 30)).setCell ⟨gl, 0, none⟩ (.int .u32 li)).setCell ⟨gl, 1, none⟩ (.int .u32 3)).setCell ⟨gl, 2, none⟩ (.int .u32 (n + 1))).setCell ⟨gl, 3, none⟩ (.bool true)).setCell ⟨gl, 4, none⟩ (.string ⟨#[98, 111, 100, 121]⟩)).setCell ⟨gl, 5, none⟩ (.int .i64 1)).setCell ⟨gl, 6, none⟩ (.int .i64 1)).alloc (.cells #[.int .u32 (n + 1), .string ⟨#[]⟩] 47)) (w3.heap.size + 1) 47 (sntE ⟨n + 1, ⟨#[]⟩⟩).toArray := by
      rw [show w3.heap.size + 1 = ((((((((w3.alloc (.cells #[.int .u32 li, .int .u32 3, .int .u32 (n + 1), .bool true, .string ⟨#[98, 111, 100, 121]⟩, .int .i64 1, .int .i64 1] 30)).setCell ⟨gl, 0, none⟩ (.int .u32 li)).setCell ⟨gl, 1, none⟩ (.int .u32 3)).setCell ⟨gl, 2, none⟩ (.int .u32 (n + 1))).setCell ⟨gl, 3, none⟩ (.bool true)).setCell ⟨gl, 4, none⟩ (.string ⟨#[98, 111, 100, 121]⟩)).setCell ⟨gl, 5, none⟩ (.int .i64 1)).setCell ⟨gl, 6, none⟩ (.int .i64 1)).heap.size by simp [World.setCell]]
      exact Blk.new _ _ _
    go_wp2_with (at_builtin; go_must (refine wpList_push rfl _ _ 42 rfl 47 _ 24 sntE_length (by decide) sntE_one Try.underlying42 info_snt rfl _ A.length A rfl S3.a (w3.heap.size + 1) ⟨(n + 1), ⟨#[]⟩⟩ _ rfl b5 (by unfold maxLen; omega) (by omega) ?_); intro vv w6 h6 g6 a6)
    have S4 := S3.pushA h6 g6 a6
    clear S S3 hst h6 g6 a6 b5
    go_wp2_with fail
    exact hend _ st (A ++ [⟨n + 1, ⟨#[]⟩⟩]) B D heard _ _ _ _ _ _ (by go_num) (by go_num) (hinv'.out) (S4) _ _ _ _ _ _ _ _ _ _ _ _ _ _ _ _ _ _ _ _ _ _ _ _ _ _ _ _ _ _ _ _ _ _ _ _ _ _ _ _ _ _ _ _ _ _ _ _ _ _ _ _ _ _ _ _ _ _ _ _ _ _ _ _ _ _ _ _ _ _ _ _ _ _ _ _ _ _ _ _ _ _ _ _ _ _ _ _ _ _ _ _ _ _ _ _ _ _ _ _ _ _ _ _ _ _ _ _ _ _ _ _ _ _ _ _ _ _ _ _ _ _ _ _ _ _ _ _ _ _ _ _ _ _ _ _ _ _ _ _ _ _ _ _ _ _ _ _ _ _ _ _ _ _ _ _ _ _ _ _ _ _ _ _ _ _ _ _ _ _ _ _ _ _ _ _ _ _ _ _ _ _ _ _ _ _ _ _ _ _ _ _ _ _ _ _ _ _ _
  · obtain ⟨E, E'⟩ := askL_out (ln := ⟨li, 3, n, true, body, left, gap⟩) rfl ⟨#[98, 111, 100, 121]⟩
    have T := fun w => ask_any ⟨li, 3, n, true, body, left, gap⟩ ⟨#[98, 111, 100, 121]⟩ w (hinv.okL hli k2)
    simp only [E, E'] at T
    replace T := Lib.hid T
    clear E E'
    obtain ⟨c0, c1, c2, c3, c4, c5, c6⟩ := hst.line.seven (Only.refl [] _) (by simp)
    go_wp2_with fail
    refine (T.out _).mono ?_; rintro e w3 ⟨rfl, k3⟩
    have S := (hst.keep k3).keep ((Only.refl [] w3).alloc (.cells #[.int .u32 0, .int .u32 0, .int .u32 0, .bool false, .string ⟨#[]⟩, .int .i64 0, .int .i64 0] 30))
    clear c0 c1 c2 c3 c4 c5 c6
    obtain ⟨c0, c1, c2, c3, c4, c5, c6⟩ := S.line.seven (Only.refl [] _) (by simp)
    go_wp2_with fail
    exact hend _ st A B D heard _ _ _ _ _ _ (by go_num) (by go_num) (hinv.stay) (S) _ _ _ _ _ _ _ _ _ _ _ _ _ _ _ _ _ _ _ _ _ _ _ _ _ _ _ _ _ _ _ _ _ _ _ _ _ _ _ _ _ _ _ _ _ _ _ _ _ _ _ _ _ _ _ _ _ _ _ _ _ _ _ _ _ _ _ _ _ _ _ _ _ _ _ _ _ _ _ _ _ _ _ _ _ _ _ _ _ _ _ _ _ _ _ _ _ _ _ _ _ _ _ _ _ _ _ _ _ _ _ _ _ _ _ _ _ _ _ _ _ _ _ _ _ _ _ _ _ _ _ _ _ _ _ _ _ _ _ _ _ _ _ _ _ _ _ _ _ _ _ _ _ _ _ _ _ _ _ _ _ _ _ _ _ _ _ _ _ _ _ _ _ _ _ _ _ _ _ _ _ _ _ _ _ _ _ _ _ _ _ _ _ _ _ _ _ _ _

end Go.Proofs.Ytjogdilkdnnhnaa
