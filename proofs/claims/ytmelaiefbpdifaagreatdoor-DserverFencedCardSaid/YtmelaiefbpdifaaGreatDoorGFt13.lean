/- DserverFenced: what a packet was told. -/
import Derived.Test.YtmelaiefbpdifaaGreatDoorGFs13
namespace Go.Proofs.YtmelaiefbpdifaaGreatDoor.Srv
open Go.RowKit Go.Maps
open Pgs (Pg pgE errB okBytes bytesL)
set_option linter.unusedVariables false
def regIn (n : Nat) : Code → Option Code
 | .region m o b => if m = n then some (.region m o b) else none
 | .block _ b => regIn n b
 | .loop b => regIn n b
 | .scope b => regIn n b
 | .cond _ x y => (regIn n x).or (regIn n y)
 | .seq x y => (regIn n x).or (regIn n y)
 | _ => none
noncomputable def fTold : Code := ((Tryz.f4.body.bind (regIn 41)).getD .skip)
noncomputable def fRead : Code := ((Tryz.f4.body.bind (regIn 42)).getD .skip)
noncomputable def fAgain : Code := ((Tryz.f4.body.bind (regIn 43)).getD .skip)
set_option maxRecDepth 100000 in
set_option maxHeartbeats 8000000 in
theorem fenced_told (s : Code) (hs : s = fTold) (w : World) {q qo qr : Nat} {p r : Pk} {ok : Bool} (f_err : w.cell? ⟨qr, 8, none⟩ = some (.int .i64 r.err)) (f_dat : w.cell? ⟨qr, 19, none⟩ = some (.string r.data)) (f_code : w.cell? ⟨qo, 0, none⟩ = some (.int .i64 p.code)) (f_file : w.cell? ⟨qo, 2, none⟩ = some (.int .u32 p.file)) (f_sqr : w.cell? ⟨qr, 4, none⟩ = some (.int .u32 r.seq)) (f_sqp : w.cell? ⟨q, 7, none⟩ = some (.int .u32 p.seq))
  {u0 u1 u2 u3 u4 u5 u6 u8 u9 u10 u11 u12 u13 u17 u18 u19 u20 u21 u22 u23 u24 u25 u26 u27 u28 u29 u30 u31 u32 u33 u34 u35 u36 u37 u38 u39 u40 u41 u42 u43 u44 u45 u46 u47 u48 u49 u50 u51 u52 u53 u54 u55 u56 u57 u58 u59 u60 u61 u62 u63 u64 u65 u66 u67 u68 u69 u70 u71 u72 u73 u74 u75 u76 u77 u78 u79 u80 u81 u82 u83 u84 u85 u86 u87 u88 u89 u90 u91 u92 u93 u94 u95 u96 u97 u98 u99 u100 u101 u102 u103 u104 u105 u106 u107 u108 u109 u110 u111 u112 u113 u114 u115 u116 u117 u118 u119 u120 u121 u122 u123 u124 u125 u126 u127 u128 u129 u130 u131 u132 u133 u134 u135 u136 u137 u138 u139 u140 u141 u142 u143 u144 u145 u146 u147 u148 u149 u150 u151 u152 u153 u154 u155 u156 u157 u158 u159 u160 u161 u162 u163 u164 u165 u166 u167 u168 u169 u170 u171 u172 u173 u174 u175 u176 u177 u178 u179 u180 u181 u182 u183 u184 u185 u186 u187 u188 u189 u190 u191 u192 u193 u194 u195 u196 u197 u198 u199 u200 u201 u202 u203 u204 u205 u206 u207 u208 u209 u210 u211 u212 u213 u214 u215 u216 u217 u218 u219 u220 u221 u222 u223 u224 u225 u226 u227 u228 u229 u230 u231 u232 u233 u234 u235 u236 u237 u238 u239 u240 u241 u242 u243 u244 u245 u246 u247 u248 u249 u250 u251 u252 u253 u254 u255 u256 u257 u258 u259 u260 u261 u262 u263 u264 u265 u266 u267 u268 u269 u270 u271 u272 u273 u274 u275 u276 u277 u278 u279 u280 u281 u282 u283 u284 u285 u286 u287 u288 u289 u290 : Value} (K : Act → World → Prop) (Q0 : Exit → Act → World → Prop) (hpan : ∀ c a d v w, Q0 (.panic c) (a.put d v) w → Q0 (.panic c) a w)
  (hK : ∀ (x221 x222 x223 x224 x225 x226 x227 x228 x229 x230 x231 x232 x233 x234 x235 x236 x237 x238 x239 x240 x241 x242 x243 x244 x245 x246 x247 x248 x249 x250 : Value) (tb : Bool) (w' : World), (tb = true → ok = true ∧ p.code = 2 ∧ p.file < 4 ∧ r.err = 0) → Only [] w w' → K ⟨#[u0, u1, u2, u3, u4, u5, u6, .pointer (some ⟨q, 0, none⟩), u8, u9, u10, u11, u12, u13, .pointer (some ⟨qo, 0, none⟩), .pointer (some ⟨qr, 0, none⟩), .bool ok, u17, u18, u19, u20, u21, u22, u23, u24, u25, u26, u27, u28, u29, u30, u31, u32, u33, u34, u35, u36, u37, u38, u39, u40, u41, u42, u43, u44, u45, u46, u47, u48, u49, u50, u51, u52, u53, u54, u55, u56, u57, u58, u59, u60, u61, u62, u63, u64, u65, u66, u67, u68, u69, u70, u71, u72, u73, u74, u75, u76, u77, u78, u79, u80, u81, u82, u83, u84, u85, u86, u87, u88, u89, u90, u91, u92, u93, u94, u95, u96, u97, u98, u99, u100, u101, u102, u103, u104, u105, u106, u107, u108, u109, u110, u111, u112, u113, u114, u115, u116, u117, u118, u119, u120, u121, u122, u123, u124, u125, u126, u127, u128, u129, u130, u131, u132, u133, u134, u135, u136, u137, u138, u139, u140, u141, u142, u143, u144, u145, u146, u147, u148, u149, u150, u151, u152, u153, u154, u155, u156, u157, u158, u159, u160, u161, u162, u163, u164, u165, u166, u167, u168, u169, u170, u171, u172, u173, u174, u175, u176, u177, u178, u179, u180, u181, u182, u183, u184, u185, u186, u187, u188, u189, u190, u191, u192, u193, u194, u195, u196, u197, u198, u199, u200, u201, u202, u203, u204, u205, u206, u207, u208, u209, u210, u211, u212, u213, u214, u215, u216, u217, u218, u219, u220, x221, x222, x223, x224, x225, x226, x227, x228, x229, x230, x231, x232, x233, x234, x235, x236, x237, x238, x239, x240, x241, x242, x243, x244, x245, x246, x247, x248, x249, x250, .bool tb, u252, u253, u254, u255, u256, u257, u258, u259, u260, u261, u262, u263, u264, u265, u266, u267, u268, u269, u270, u271, u272, u273, u274, u275, u276, u277, u278, u279, u280, u281, u282, u283, u284, u285, u286, u287, u288, u289, u290], []⟩ w') :
  Code.wp Tryz.prog s (Exit.then K Q0) ⟨#[u0, u1, u2, u3, u4, u5, u6, .pointer (some ⟨q, 0, none⟩), u8, u9, u10, u11, u12, u13, .pointer (some ⟨qo, 0, none⟩), .pointer (some ⟨qr, 0, none⟩), .bool ok, u17, u18, u19, u20, u21, u22, u23, u24, u25, u26, u27, u28, u29, u30, u31, u32, u33, u34, u35, u36, u37, u38, u39, u40, u41, u42, u43, u44, u45, u46, u47, u48, u49, u50, u51, u52, u53, u54, u55, u56, u57, u58, u59, u60, u61, u62, u63, u64, u65, u66, u67, u68, u69, u70, u71, u72, u73, u74, u75, u76, u77, u78, u79, u80, u81, u82, u83, u84, u85, u86, u87, u88, u89, u90, u91, u92, u93, u94, u95, u96, u97, u98, u99, u100, u101, u102, u103, u104, u105, u106, u107, u108, u109, u110, u111, u112, u113, u114, u115, u116, u117, u118, u119, u120, u121, u122, u123, u124, u125, u126, u127, u128, u129, u130, u131, u132, u133, u134, u135, u136, u137, u138, u139, u140, u141, u142, u143, u144, u145, u146, u147, u148, u149, u150, u151, u152, u153, u154, u155, u156, u157, u158, u159, u160, u161, u162, u163, u164, u165, u166, u167, u168, u169, u170, u171, u172, u173, u174, u175, u176, u177, u178, u179, u180, u181, u182, u183, u184, u185, u186, u187, u188, u189, u190, u191, u192, u193, u194, u195, u196, u197, u198, u199, u200, u201, u202, u203, u204, u205, u206, u207, u208, u209, u210, u211, u212, u213, u214, u215, u216, u217, u218, u219, u220, u221, u222, u223, u224, u225, u226, u227, u228, u229, u230, u231, u232, u233, u234, u235, u236, u237, u238, u239, u240, u241, u242, u243, u244, u245, u246, u247, u248, u249, u250, u251, u252, u253, u254, u255, u256, u257, u258, u259, u260, u261, u262, u263, u264, u265, u266, u267, u268, u269, u270, u271, u272, u273, u274, u275, u276, u277, u278, u279, u280, u281, u282, u283, u284, u285, u286, u287, u288, u289, u290], []⟩ w := by
 subst hs
 conv => arg 2; whnf
 replace hK := Lib.hid hK
 cases ok with
 | false =>
  go_wp2_with fail
  exact hK.out _ _ _ _ _ _ _ _ _ _ _ _ _ _ _ _ _ _ _ _ _ _ _ _ _ _ _ _ _ _ false w (fun h => by cases h) (Only.refl [] w)
 | true =>
  by_cases h2 : p.code = 2
  ·have h2' : (p.code == 2) = true := by rw [beq_iff_eq]; exact h2
   by_cases h3 : p.file < 4
   ·have h3' : decide (p.file < 4) = true := by simpa using h3
    by_cases h4 : r.err = 0
    ·have h4' : (r.err == 0) = true := by rw [beq_iff_eq]; exact h4
     replace h2 := Lib.hid h2
     replace h3 := Lib.hid h3
     replace h4 := Lib.hid h4
     go_wp2_with fail
     all_goals exact hK.out _ _ _ _ _ _ _ _ _ _ _ _ _ _ _ _ _ _ _ _ _ _ _ _ _ _ _ _ _ _ _ w (fun _ => ⟨by simp, h2.out, h3.out, h4.out⟩) (Only.refl [] w)
    ·have h4' : (r.err == 0) = false := by rw [beq_eq_false_iff_ne]; exact h4
     go_wp2_with fail
     all_goals exact hK.out _ _ _ _ _ _ _ _ _ _ _ _ _ _ _ _ _ _ _ _ _ _ _ _ _ _ _ _ _ _ false w (fun h => by cases h) (Only.refl [] w)
   ·have h3' : decide (p.file < 4) = false := by simpa using h3
    go_wp2_with fail
    all_goals exact hK.out _ _ _ _ _ _ _ _ _ _ _ _ _ _ _ _ _ _ _ _ _ _ _ _ _ _ _ _ _ _ false w (fun h => by cases h) (Only.refl [] w)
  ·have h2' : (p.code == 2) = false := by rw [beq_eq_false_iff_ne]; exact h2
   go_wp2_with fail
   all_goals exact hK.out _ _ _ _ _ _ _ _ _ _ _ _ _ _ _ _ _ _ _ _ _ _ _ _ _ _ _ _ _ _ false w (fun h => by cases h) (Only.refl [] w)
set_option maxRecDepth 100000 in
set_option maxHeartbeats 8000000 in
theorem fenced_read (s : Code) (hs : s = fRead) (w : World) {qo gp fy d : Nat} {p : Pk} {B : Option Addr} {o0 : List Pg} {dt : ByteArray} {er : Int} (f_file : w.cell? ⟨qo, 2, none⟩ = some (.int .u32 (fy : Int))) (hO : w.cell? ⟨gp, fy, none⟩ = some (.slice B o0.length d)) (f_off : w.cell? ⟨qo, 4, none⟩ = some (.int .u32 p.off)) (f_len : w.cell? ⟨qo, 5, none⟩ = some (.int .u32 p.len)) (hwo : IntKind.i64.wrap p.off = p.off) (hwl : IntKind.i64.wrap p.len = p.len) (hfy4 : (fy : Int) < 4) (hby : ∀ W, Only [] w W → Calls Tryz.prog 25 #[.slice B o0.length d, .int .i64 p.off, .int .i64 p.len] W fun e w' => e = .returned (.tuple #[.string dt, .int .i64 er]) ∧ Only [] W w')
  {u0 u1 u2 u3 u4 u5 u6 u7 u8 u10 u11 u12 u13 u15 u16 u17 u18 u19 u20 u21 u22 u23 u24 u25 u26 u27 u28 u29 u30 u31 u32 u33 u34 u35 u36 u37 u38 u39 u40 u41 u42 u43 u44 u45 u46 u47 u48 u49 u50 u51 u52 u53 u54 u55 u56 u57 u58 u59 u60 u61 u62 u63 u64 u65 u66 u67 u68 u69 u70 u71 u72 u73 u74 u75 u76 u77 u78 u79 u80 u81 u82 u83 u84 u85 u86 u87 u88 u89 u90 u91 u92 u93 u94 u95 u96 u97 u98 u99 u100 u101 u102 u103 u104 u105 u106 u107 u108 u109 u110 u111 u112 u113 u114 u115 u116 u117 u118 u119 u120 u121 u122 u123 u124 u125 u126 u127 u128 u129 u130 u131 u132 u133 u134 u135 u136 u137 u138 u139 u140 u141 u142 u143 u144 u145 u146 u147 u148 u149 u150 u151 u152 u153 u154 u155 u156 u157 u158 u159 u160 u161 u162 u163 u164 u165 u166 u167 u168 u169 u170 u171 u172 u173 u174 u175 u176 u177 u178 u179 u180 u181 u182 u183 u184 u185 u186 u187 u188 u189 u190 u191 u192 u193 u194 u195 u196 u197 u198 u199 u200 u201 u202 u203 u204 u205 u206 u207 u208 u209 u210 u211 u212 u213 u214 u215 u216 u217 u218 u219 u220 u221 u222 u223 u224 u225 u226 u227 u228 u229 u230 u231 u232 u233 u234 u235 u236 u237 u238 u239 u240 u241 u242 u243 u244 u245 u246 u247 u248 u249 u250 u251 u252 u253 u254 u255 u256 u257 u258 u259 u260 u261 u262 u263 u264 u265 u266 u267 u268 u269 u270 u271 u272 u273 u274 u275 u276 u277 u278 u279 u280 u281 u282 u283 u284 u285 u286 u287 u288 u289 u290 : Value} (K : Act → World → Prop) (Q0 : Exit → Act → World → Prop) (hpan : ∀ c a d v w, Q0 (.panic c) (a.put d v) w → Q0 (.panic c) a w)
  (hK : ∀ (x252 x253 x254 x255 x256 x257 x258 x259 x260 x261 x262 x263 x264 x265 : Value)  (w' : World), Only [] w w' → K ⟨#[u0, u1, u2, u3, u4, u5, u6, u7, u8, .pointer (some ⟨gp, 0, none⟩), u10, u11, u12, u13, .pointer (some ⟨qo, 0, none⟩), u15, u16, u17, u18, u19, .string dt, .int .i64 er, u22, u23, u24, u25, u26, u27, u28, u29, u30, u31, u32, u33, u34, u35, u36, u37, u38, u39, u40, u41, u42, u43, u44, u45, u46, u47, u48, u49, u50, u51, u52, u53, u54, u55, u56, u57, u58, u59, u60, u61, u62, u63, u64, u65, u66, u67, u68, u69, u70, u71, u72, u73, u74, u75, u76, u77, u78, u79, u80, u81, u82, u83, u84, u85, u86, u87, u88, u89, u90, u91, u92, u93, u94, u95, u96, u97, u98, u99, u100, u101, u102, u103, u104, u105, u106, u107, u108, u109, u110, u111, u112, u113, u114, u115, u116, u117, u118, u119, u120, u121, u122, u123, u124, u125, u126, u127, u128, u129, u130, u131, u132, u133, u134, u135, u136, u137, u138, u139, u140, u141, u142, u143, u144, u145, u146, u147, u148, u149, u150, u151, u152, u153, u154, u155, u156, u157, u158, u159, u160, u161, u162, u163, u164, u165, u166, u167, u168, u169, u170, u171, u172, u173, u174, u175, u176, u177, u178, u179, u180, u181, u182, u183, u184, u185, u186, u187, u188, u189, u190, u191, u192, u193, u194, u195, u196, u197, u198, u199, u200, u201, u202, u203, u204, u205, u206, u207, u208, u209, u210, u211, u212, u213, u214, u215, u216, u217, u218, u219, u220, u221, u222, u223, u224, u225, u226, u227, u228, u229, u230, u231, u232, u233, u234, u235, u236, u237, u238, u239, u240, u241, u242, u243, u244, u245, u246, u247, u248, u249, u250, u251, x252, x253, x254, x255, x256, x257, x258, x259, x260, x261, x262, x263, x264, x265, u266, u267, u268, u269, u270, u271, u272, u273, u274, u275, u276, u277, u278, u279, u280, u281, u282, u283, u284, u285, u286, u287, u288, u289, u290], []⟩ w') :
  Code.wp Tryz.prog s (Exit.then K Q0) ⟨#[u0, u1, u2, u3, u4, u5, u6, u7, u8, .pointer (some ⟨gp, 0, none⟩), u10, u11, u12, u13, .pointer (some ⟨qo, 0, none⟩), u15, u16, u17, u18, u19, u20, u21, u22, u23, u24, u25, u26, u27, u28, u29, u30, u31, u32, u33, u34, u35, u36, u37, u38, u39, u40, u41, u42, u43, u44, u45, u46, u47, u48, u49, u50, u51, u52, u53, u54, u55, u56, u57, u58, u59, u60, u61, u62, u63, u64, u65, u66, u67, u68, u69, u70, u71, u72, u73, u74, u75, u76, u77, u78, u79, u80, u81, u82, u83, u84, u85, u86, u87, u88, u89, u90, u91, u92, u93, u94, u95, u96, u97, u98, u99, u100, u101, u102, u103, u104, u105, u106, u107, u108, u109, u110, u111, u112, u113, u114, u115, u116, u117, u118, u119, u120, u121, u122, u123, u124, u125, u126, u127, u128, u129, u130, u131, u132, u133, u134, u135, u136, u137, u138, u139, u140, u141, u142, u143, u144, u145, u146, u147, u148, u149, u150, u151, u152, u153, u154, u155, u156, u157, u158, u159, u160, u161, u162, u163, u164, u165, u166, u167, u168, u169, u170, u171, u172, u173, u174, u175, u176, u177, u178, u179, u180, u181, u182, u183, u184, u185, u186, u187, u188, u189, u190, u191, u192, u193, u194, u195, u196, u197, u198, u199, u200, u201, u202, u203, u204, u205, u206, u207, u208, u209, u210, u211, u212, u213, u214, u215, u216, u217, u218, u219, u220, u221, u222, u223, u224, u225, u226, u227, u228, u229, u230, u231, u232, u233, u234, u235, u236, u237, u238, u239, u240, u241, u242, u243, u244, u245, u246, u247, u248, u249, u250, u251, u252, u253, u254, u255, u256, u257, u258, u259, u260, u261, u262, u263, u264, u265, u266, u267, u268, u269, u270, u271, u272, u273, u274, u275, u276, u277, u278, u279, u280, u281, u282, u283, u284, u285, u286, u287, u288, u289, u290], []⟩ w := by
 subst hs
 conv => arg 2; whnf
 replace hK := Lib.hid hK
 replace hby := Lib.hid hby
 go_wp2_with fail
 have kz23 : Only [] w w.drew := (Only.refl [] w).drew
 have fz23_0 : w.drew.cell? ⟨qo, 2, none⟩ = some (.int .u32 (fy : Int)) := kz23.cell f_file (by simp)
 have fz23_1 : w.drew.cell? ⟨gp, fy, none⟩ = some (.slice B o0.length d) := kz23.cell hO (by simp)
 have fz23_2 : w.drew.cell? ⟨qo, 4, none⟩ = some (.int .u32 p.off) := kz23.cell f_off (by simp)
 have fz23_3 : w.drew.cell? ⟨qo, 5, none⟩ = some (.int .u32 p.len) := kz23.cell f_len (by simp)
 refine wp_region_held_drew (S := fun w' => w'.cell? ⟨qo, 2, none⟩ = some (.int .u32 (fy : Int)) ∧ w'.cell? ⟨gp, fy, none⟩ = some (.slice B o0.length d) ∧ w'.cell? ⟨qo, 4, none⟩ = some (.int .u32 p.off) ∧ w'.cell? ⟨qo, 5, none⟩ = some (.int .u32 p.len)) (by kernel_rfl) ⟨fz23_0, fz23_1, fz23_2, fz23_3⟩ (fun hHeld => ?_)
 generalize w.drew = wz23 at *
 as_aux_lemma =>
  refine sgS [0, 1, 2, 3, 4, 5, 6, 7, 8, 9] (by kernel_rfl) (fun hseg => ?_)
  refine sgT (.pointer (some ⟨qo, 2, none⟩)) hseg hHeld (fun hseg => ?_) (hy := Or.inl ⟨by rfl, fun w' hSw => by go_simp⟩); simp only [rwA]
  refine sgT (.int .u32 (fy : Int)) hseg hHeld (fun hseg => ?_) (hy := Or.inl ⟨by rfl, fun w' hSw => by obtain ⟨hc, _, _, _⟩ := hSw; go_simp⟩); simp only [rwA]
  refine sgT (.pointer (some ⟨gp, fy, none⟩)) hseg hHeld (fun hseg => ?_) (hy := Or.inl ⟨by rfl, fun w' hSw => by go_simp⟩); simp only [rwA]
  refine sgT (.slice B o0.length d) hseg hHeld (fun hseg => ?_) (hy := Or.inl ⟨by rfl, fun w' hSw => by obtain ⟨_, hc, _, _⟩ := hSw; go_simp⟩); simp only [rwA]
  refine sgT (.pointer (some ⟨qo, 4, none⟩)) hseg hHeld (fun hseg => ?_) (hy := Or.inl ⟨by rfl, fun w' hSw => by go_simp⟩); simp only [rwA]
  refine sgT (.int .u32 p.off) hseg hHeld (fun hseg => ?_) (hy := Or.inl ⟨by rfl, fun w' hSw => by obtain ⟨_, _, hc, _⟩ := hSw; go_simp⟩); simp only [rwA]
  refine sgT (.int .i64 p.off) hseg hHeld (fun hseg => ?_) (hy := Or.inl ⟨by rfl, fun w' hSw => by go_simp⟩); simp only [rwA]
  refine sgT (.pointer (some ⟨qo, 5, none⟩)) hseg hHeld (fun hseg => ?_) (hy := Or.inl ⟨by rfl, fun w' hSw => by go_simp⟩); simp only [rwA]
  refine sgT (.int .u32 p.len) hseg hHeld (fun hseg => ?_) (hy := Or.inl ⟨by rfl, fun w' hSw => by obtain ⟨_, _, _, hc⟩ := hSw; go_simp⟩); simp only [rwA]
  refine sgT (.int .i64 p.len) hseg hHeld (fun hseg => ?_) (hy := Or.inl ⟨by rfl, fun w' hSw => by go_simp⟩); simp only [rwA]
  refine held_step 10 rfl (by kernel_rfl) (fun K hK => ?_)
  go_simp
  refine (hby.out _ kz23).mono ?_; rintro e vc22 ⟨rfl, kc22⟩
  have qc22 := kz23.trans kc22
  go_wp2_with fail
  refine hK.out _ _ ⟨qc22.cell f_file (by simp), qc22.cell hO (by simp), qc22.cell f_off (by simp), qc22.cell f_len (by simp)⟩ (fun hHeld => ?_)
  clear hK K
  refine sgS [11, 12, 13, 14, 15] (by kernel_rfl) (fun hseg => ?_)
  refine sgT (.tuple #[.string dt, .int .i64 er]) hseg hHeld (fun hseg => ?_) (hy := Or.inl ⟨by rfl, fun w' hSw => by go_simp⟩); simp only [rwA]
  refine sgT (.string dt) hseg hHeld (fun hseg => ?_) (hy := Or.inl ⟨by rfl, fun w' hSw => by go_simp⟩); simp only [rwA]
  refine sgT (.int .i64 er) hseg hHeld (fun hseg => ?_) (hy := Or.inl ⟨by rfl, fun w' hSw => by go_simp⟩); simp only [rwA]
  refine sgT (.string dt) hseg hHeld (fun hseg => ?_) (hy := Or.inl ⟨by rfl, fun w' hSw => by go_simp⟩); simp only [rwA]
  refine sgT (.int .i64 er) hseg hHeld (fun hseg => ?_) (hy := Or.inl ⟨by rfl, fun w' hSw => by go_simp⟩); simp only [rwA]
  refine wpAnyH_done (by kernel_rfl) ?_ _
  clear hHeld
  try go_wp2_with fail
  exact hK.out _ _ _ _ _ _ _ _ _ _ _ _ _ _ _ qc22
set_option maxRecDepth 100000 in
set_option maxHeartbeats 8000000 in
theorem fenced_again (s : Code) (hs : s = fAgain) (w : World) {qo qr ge g o n c k fy : Nat} {p r : Pk} {dt : ByteArray} {er e0 : Int} {ag : Bool} (f_ep : w.cell? ⟨qo, 3, none⟩ = some (.int .u32 p.epoch)) (f_file : w.cell? ⟨qo, 2, none⟩ = some (.int .u32 (fy : Int))) (hE : w.cell? ⟨ge, fy, none⟩ = some (.int .u32 e0)) (f_dat : w.cell? ⟨qr, 19, none⟩ = some (.string r.data)) (hfy4 : (fy : Int) < 4) (hag2 : ∀ W, Only [] w W → Calls Tryz.prog 26 #[.slice (some ⟨g, o, none⟩) n c, .int .i64 (k : Int)] W fun e w' => e = .returned (.bool ag) ∧ Only [] W w') (htd : (er = 0 ∧ dt = r.data) ∨ ag = true)
  {u1 u2 u3 u4 u5 u7 u9 u10 u11 u12 u13 u16 u17 u18 u19 u22 u23 u24 u25 u26 u27 u28 u29 u30 u31 u32 u33 u34 u35 u36 u37 u38 u39 u40 u41 u42 u43 u44 u45 u46 u47 u48 u49 u50 u51 u52 u53 u54 u55 u56 u57 u58 u59 u60 u61 u62 u63 u64 u65 u66 u67 u68 u69 u70 u71 u72 u73 u74 u75 u76 u77 u78 u79 u80 u81 u82 u83 u84 u85 u86 u87 u88 u89 u90 u91 u92 u93 u94 u95 u96 u97 u98 u99 u100 u101 u102 u103 u104 u105 u106 u107 u108 u109 u110 u111 u112 u113 u114 u115 u116 u117 u118 u119 u120 u121 u122 u123 u124 u125 u126 u127 u128 u129 u130 u131 u132 u133 u134 u135 u136 u137 u138 u139 u140 u141 u142 u143 u144 u145 u146 u147 u148 u149 u150 u151 u152 u153 u154 u155 u156 u157 u158 u159 u160 u161 u162 u163 u164 u165 u166 u167 u168 u169 u170 u171 u172 u173 u174 u175 u176 u177 u178 u179 u180 u181 u182 u183 u184 u185 u186 u187 u188 u189 u190 u191 u192 u193 u194 u195 u196 u197 u198 u199 u200 u201 u202 u203 u204 u205 u206 u207 u208 u209 u210 u211 u212 u213 u214 u215 u216 u217 u218 u219 u220 u221 u222 u223 u224 u225 u226 u227 u228 u229 u230 u231 u232 u233 u234 u235 u236 u237 u238 u239 u240 u241 u242 u243 u244 u245 u246 u247 u248 u249 u250 u251 u252 u253 u254 u255 u256 u257 u258 u259 u260 u261 u262 u263 u264 u265 u266 u267 u268 u269 u270 u271 u272 u273 u274 u275 u276 u277 u278 u279 u280 u281 u282 u283 u284 u285 u286 u287 u288 u289 u290 : Value} (K : Act → World → Prop) (Q0 : Exit → Act → World → Prop) (hpan : ∀ c a d v w, Q0 (.panic c) (a.put d v) w → Q0 (.panic c) a w)
  (hK : ∀ (x266 x267 x268 x269 x270 x271 x272 x273 x274 x275 x276 x277 x278 x279 x280 x281 x282 x283 x284 x285 x286 x287 x288 : Value)  (w' : World), Only [] w w' → K ⟨#[.slice (some ⟨g, o, none⟩) n c, u1, u2, u3, u4, u5, .int .i64 (k : Int), u7, .pointer (some ⟨ge, 0, none⟩), u9, u10, u11, u12, u13, .pointer (some ⟨qo, 0, none⟩), .pointer (some ⟨qr, 0, none⟩), u16, u17, u18, u19, .string dt, .int .i64 er, u22, u23, u24, u25, u26, u27, u28, u29, u30, u31, u32, u33, u34, u35, u36, u37, u38, u39, u40, u41, u42, u43, u44, u45, u46, u47, u48, u49, u50, u51, u52, u53, u54, u55, u56, u57, u58, u59, u60, u61, u62, u63, u64, u65, u66, u67, u68, u69, u70, u71, u72, u73, u74, u75, u76, u77, u78, u79, u80, u81, u82, u83, u84, u85, u86, u87, u88, u89, u90, u91, u92, u93, u94, u95, u96, u97, u98, u99, u100, u101, u102, u103, u104, u105, u106, u107, u108, u109, u110, u111, u112, u113, u114, u115, u116, u117, u118, u119, u120, u121, u122, u123, u124, u125, u126, u127, u128, u129, u130, u131, u132, u133, u134, u135, u136, u137, u138, u139, u140, u141, u142, u143, u144, u145, u146, u147, u148, u149, u150, u151, u152, u153, u154, u155, u156, u157, u158, u159, u160, u161, u162, u163, u164, u165, u166, u167, u168, u169, u170, u171, u172, u173, u174, u175, u176, u177, u178, u179, u180, u181, u182, u183, u184, u185, u186, u187, u188, u189, u190, u191, u192, u193, u194, u195, u196, u197, u198, u199, u200, u201, u202, u203, u204, u205, u206, u207, u208, u209, u210, u211, u212, u213, u214, u215, u216, u217, u218, u219, u220, u221, u222, u223, u224, u225, u226, u227, u228, u229, u230, u231, u232, u233, u234, u235, u236, u237, u238, u239, u240, u241, u242, u243, u244, u245, u246, u247, u248, u249, u250, u251, u252, u253, u254, u255, u256, u257, u258, u259, u260, u261, u262, u263, u264, u265, x266, x267, x268, x269, x270, x271, x272, x273, x274, x275, x276, x277, x278, x279, x280, x281, x282, x283, x284, x285, x286, x287, x288, .bool false, u290], []⟩ w') :
  Code.wp Tryz.prog s (Exit.then K Q0) ⟨#[.slice (some ⟨g, o, none⟩) n c, u1, u2, u3, u4, u5, .int .i64 (k : Int), u7, .pointer (some ⟨ge, 0, none⟩), u9, u10, u11, u12, u13, .pointer (some ⟨qo, 0, none⟩), .pointer (some ⟨qr, 0, none⟩), u16, u17, u18, u19, .string dt, .int .i64 er, u22, u23, u24, u25, u26, u27, u28, u29, u30, u31, u32, u33, u34, u35, u36, u37, u38, u39, u40, u41, u42, u43, u44, u45, u46, u47, u48, u49, u50, u51, u52, u53, u54, u55, u56, u57, u58, u59, u60, u61, u62, u63, u64, u65, u66, u67, u68, u69, u70, u71, u72, u73, u74, u75, u76, u77, u78, u79, u80, u81, u82, u83, u84, u85, u86, u87, u88, u89, u90, u91, u92, u93, u94, u95, u96, u97, u98, u99, u100, u101, u102, u103, u104, u105, u106, u107, u108, u109, u110, u111, u112, u113, u114, u115, u116, u117, u118, u119, u120, u121, u122, u123, u124, u125, u126, u127, u128, u129, u130, u131, u132, u133, u134, u135, u136, u137, u138, u139, u140, u141, u142, u143, u144, u145, u146, u147, u148, u149, u150, u151, u152, u153, u154, u155, u156, u157, u158, u159, u160, u161, u162, u163, u164, u165, u166, u167, u168, u169, u170, u171, u172, u173, u174, u175, u176, u177, u178, u179, u180, u181, u182, u183, u184, u185, u186, u187, u188, u189, u190, u191, u192, u193, u194, u195, u196, u197, u198, u199, u200, u201, u202, u203, u204, u205, u206, u207, u208, u209, u210, u211, u212, u213, u214, u215, u216, u217, u218, u219, u220, u221, u222, u223, u224, u225, u226, u227, u228, u229, u230, u231, u232, u233, u234, u235, u236, u237, u238, u239, u240, u241, u242, u243, u244, u245, u246, u247, u248, u249, u250, u251, u252, u253, u254, u255, u256, u257, u258, u259, u260, u261, u262, u263, u264, u265, u266, u267, u268, u269, u270, u271, u272, u273, u274, u275, u276, u277, u278, u279, u280, u281, u282, u283, u284, u285, u286, u287, u288, u289, u290], []⟩ w := by
 subst hs
 conv => arg 2; whnf
 replace hK := Lib.hid hK
 replace hag2 := Lib.hid hag2
 by_cases hq1 : p.epoch = e0
 case neg =>
  have g1 : (p.epoch == e0) = false := by rw [beq_eq_false_iff_ne]; exact hq1
  go_wp2_with fail
  have kz25 : Only [] w w.drew := (Only.refl [] w).drew
  have fz25_0 : w.drew.cell? ⟨qo, 3, none⟩ = some (.int .u32 p.epoch) := kz25.cell f_ep (by simp)
  have fz25_1 : w.drew.cell? ⟨qo, 2, none⟩ = some (.int .u32 (fy : Int)) := kz25.cell f_file (by simp)
  have fz25_2 : w.drew.cell? ⟨ge, fy, none⟩ = some (.int .u32 e0) := kz25.cell hE (by simp)
  have fz25_3 : w.drew.cell? ⟨qr, 19, none⟩ = some (.string r.data) := kz25.cell f_dat (by simp)
  refine wp_region_held_drew (S := fun w' => w'.cell? ⟨qo, 3, none⟩ = some (.int .u32 p.epoch) ∧ w'.cell? ⟨qo, 2, none⟩ = some (.int .u32 (fy : Int)) ∧ w'.cell? ⟨ge, fy, none⟩ = some (.int .u32 e0) ∧ w'.cell? ⟨qr, 19, none⟩ = some (.string r.data)) (by kernel_rfl) ⟨fz25_0, fz25_1, fz25_2, fz25_3⟩ (fun hHeld => ?_)
  generalize w.drew = wz25 at *
  as_aux_lemma =>
   refine sgS [0, 1, 2, 3, 4, 5, 6, 7, 8, 9, 10, 11, 12, 13, 14, 15, 16, 17, 18, 19, 20, 21, 22, 23] (by kernel_rfl) (fun hseg => ?_)
   refine sgT (.pointer (some ⟨qo, 3, none⟩)) hseg hHeld (fun hseg => ?_) (hy := Or.inl ⟨by rfl, fun w' hSw => by go_simp⟩); simp only [rwA]
   refine sgT (.int .u32 p.epoch) hseg hHeld (fun hseg => ?_) (hy := Or.inl ⟨by rfl, fun w' hSw => by obtain ⟨hc, _, _, _⟩ := hSw; go_simp⟩); simp only [rwA]
   refine sgT (.pointer (some ⟨qo, 2, none⟩)) hseg hHeld (fun hseg => ?_) (hy := Or.inl ⟨by rfl, fun w' hSw => by go_simp⟩); simp only [rwA]
   refine sgT (.int .u32 (fy : Int)) hseg hHeld (fun hseg => ?_) (hy := Or.inl ⟨by rfl, fun w' hSw => by obtain ⟨_, hc, _, _⟩ := hSw; go_simp⟩); simp only [rwA]
   refine sgT (.pointer (some ⟨ge, fy, none⟩)) hseg hHeld (fun hseg => ?_) (hy := Or.inl ⟨by rfl, fun w' hSw => by go_simp⟩); simp only [rwA]
   refine sgT (.int .u32 e0) hseg hHeld (fun hseg => ?_) (hy := Or.inl ⟨by rfl, fun w' hSw => by obtain ⟨_, _, hc, _⟩ := hSw; go_simp⟩); simp only [rwA]
   refine sgT (.bool false) hseg hHeld (fun hseg => ?_) (hy := Or.inl ⟨by rfl, fun w' hSw => by go_simp⟩); simp only [rwA]
   refine sgT (.bool false) hseg hHeld (fun hseg => ?_) (hy := Or.inl ⟨by rfl, fun w' hSw => by go_simp⟩); simp only [rwA]
   refine sgU hseg hHeld (fun hseg => ?_); simp only [rwA]
   refine sgU hseg hHeld (fun hseg => ?_); simp only [rwA]
   refine sgU hseg hHeld (fun hseg => ?_); simp only [rwA]
   refine sgU hseg hHeld (fun hseg => ?_); simp only [rwA]
   refine sgU hseg hHeld (fun hseg => ?_); simp only [rwA]
   refine sgU hseg hHeld (fun hseg => ?_); simp only [rwA]
   refine sgU hseg hHeld (fun hseg => ?_); simp only [rwA]
   refine sgU hseg hHeld (fun hseg => ?_); simp only [rwA]
   refine sgU hseg hHeld (fun hseg => ?_); simp only [rwA]
   refine sgT (.bool false) hseg hHeld (fun hseg => ?_) (hy := Or.inl ⟨by rfl, fun w' hSw => by go_simp⟩); simp only [rwA]
   refine sgT (.bool false) hseg hHeld (fun hseg => ?_) (hy := Or.inl ⟨by rfl, fun w' hSw => by go_simp⟩); simp only [rwA]
   refine sgU hseg hHeld (fun hseg => ?_); simp only [rwA]
   refine sgU hseg hHeld (fun hseg => ?_); simp only [rwA]
   refine sgU hseg hHeld (fun hseg => ?_); simp only [rwA]
   refine sgU hseg hHeld (fun hseg => ?_); simp only [rwA]
   refine sgT (.bool false) hseg hHeld (fun hseg => ?_) (hy := Or.inl ⟨by rfl, fun w' hSw => by go_simp⟩); simp only [rwA]
   refine wpAnyH_done (by kernel_rfl) ?_ _
   clear hHeld
   try go_wp2_with fail
   exact hK.out _ _ _ _ _ _ _ _ _ _ _ _ _ _ _ _ _ _ _ _ _ _ _ _ kz25
 have g1 : (p.epoch == e0) = true := by rw [beq_iff_eq]; exact hq1
 replace hq1 := Lib.hid hq1
 by_cases hq2 : er = 0
 case neg =>
  have g2 : (er != 0) = true := by rw [bne_iff_ne]; exact hq2
  obtain rfl : ag = true := htd.resolve_left fun h => hq2 h.1
  clear htd
  go_wp2_with fail
  have kz27 : Only [] w w.drew := (Only.refl [] w).drew
  have fz27_0 : w.drew.cell? ⟨qo, 3, none⟩ = some (.int .u32 p.epoch) := kz27.cell f_ep (by simp)
  have fz27_1 : w.drew.cell? ⟨qo, 2, none⟩ = some (.int .u32 (fy : Int)) := kz27.cell f_file (by simp)
  have fz27_2 : w.drew.cell? ⟨ge, fy, none⟩ = some (.int .u32 e0) := kz27.cell hE (by simp)
  have fz27_3 : w.drew.cell? ⟨qr, 19, none⟩ = some (.string r.data) := kz27.cell f_dat (by simp)
  refine wp_region_held_drew (S := fun w' => w'.cell? ⟨qo, 3, none⟩ = some (.int .u32 p.epoch) ∧ w'.cell? ⟨qo, 2, none⟩ = some (.int .u32 (fy : Int)) ∧ w'.cell? ⟨ge, fy, none⟩ = some (.int .u32 e0) ∧ w'.cell? ⟨qr, 19, none⟩ = some (.string r.data)) (by kernel_rfl) ⟨fz27_0, fz27_1, fz27_2, fz27_3⟩ (fun hHeld => ?_)
  generalize w.drew = wz27 at *
  as_aux_lemma =>
   refine sgS [0, 1, 2, 3, 4, 5, 6, 7, 8, 9, 10, 11, 12, 13, 14, 15, 16, 17, 18, 19, 20] (by kernel_rfl) (fun hseg => ?_)
   refine sgT (.pointer (some ⟨qo, 3, none⟩)) hseg hHeld (fun hseg => ?_) (hy := Or.inl ⟨by rfl, fun w' hSw => by go_simp⟩); simp only [rwA]
   refine sgT (.int .u32 p.epoch) hseg hHeld (fun hseg => ?_) (hy := Or.inl ⟨by rfl, fun w' hSw => by obtain ⟨hc, _, _, _⟩ := hSw; go_simp⟩); simp only [rwA]
   refine sgT (.pointer (some ⟨qo, 2, none⟩)) hseg hHeld (fun hseg => ?_) (hy := Or.inl ⟨by rfl, fun w' hSw => by go_simp⟩); simp only [rwA]
   refine sgT (.int .u32 (fy : Int)) hseg hHeld (fun hseg => ?_) (hy := Or.inl ⟨by rfl, fun w' hSw => by obtain ⟨_, hc, _, _⟩ := hSw; go_simp⟩); simp only [rwA]
   refine sgT (.pointer (some ⟨ge, fy, none⟩)) hseg hHeld (fun hseg => ?_) (hy := Or.inl ⟨by rfl, fun w' hSw => by go_simp⟩); simp only [rwA]
   refine sgT (.int .u32 e0) hseg hHeld (fun hseg => ?_) (hy := Or.inl ⟨by rfl, fun w' hSw => by obtain ⟨_, _, hc, _⟩ := hSw; go_simp⟩); simp only [rwA]
   refine sgT (.bool true) hseg hHeld (fun hseg => ?_) (hy := Or.inl ⟨by rfl, fun w' hSw => by go_simp⟩); simp only [rwA]
   refine sgT (.bool true) hseg hHeld (fun hseg => ?_) (hy := Or.inl ⟨by rfl, fun w' hSw => by go_simp⟩); simp only [rwA]
   refine sgT (.int .i64 er) hseg hHeld (fun hseg => ?_) (hy := Or.inl ⟨by rfl, fun w' hSw => by go_simp⟩); simp only [rwA]
   refine sgT (.bool true) hseg hHeld (fun hseg => ?_) (hy := Or.inl ⟨by rfl, fun w' hSw => by go_simp⟩); simp only [rwA]
   refine sgT (.bool true) hseg hHeld (fun hseg => ?_) (hy := Or.inl ⟨by rfl, fun w' hSw => by go_simp⟩); simp only [rwA]
   refine sgU hseg hHeld (fun hseg => ?_); simp only [rwA]
   refine sgU hseg hHeld (fun hseg => ?_); simp only [rwA]
   refine sgU hseg hHeld (fun hseg => ?_); simp only [rwA]
   refine sgU hseg hHeld (fun hseg => ?_); simp only [rwA]
   refine sgU hseg hHeld (fun hseg => ?_); simp only [rwA]
   refine sgT (.bool true) hseg hHeld (fun hseg => ?_) (hy := Or.inl ⟨by rfl, fun w' hSw => by go_simp⟩); simp only [rwA]
   refine sgT (.bool true) hseg hHeld (fun hseg => ?_) (hy := Or.inl ⟨by rfl, fun w' hSw => by go_simp⟩); simp only [rwA]
   refine sgT (.bool true) hseg hHeld (fun hseg => ?_) (hy := Or.inl ⟨by rfl, fun w' hSw => by go_simp⟩); simp only [rwA]
   refine sgT (.slice (some ⟨g, o, none⟩) n c) hseg hHeld (fun hseg => ?_) (hy := Or.inl ⟨by rfl, fun w' hSw => by go_simp⟩); simp only [rwA]
   refine sgT (.int .i64 (k : Int)) hseg hHeld (fun hseg => ?_) (hy := Or.inl ⟨by rfl, fun w' hSw => by go_simp⟩); simp only [rwA]
   refine held_step 21 rfl (by kernel_rfl) (fun K hK => ?_)
   go_simp
   refine (hag2.out _ kz27).mono ?_; rintro e vc26 ⟨rfl, kc26⟩
   have qc26 := kz27.trans kc26
   go_wp2_with fail
   refine hK.out _ _ ⟨qc26.cell f_ep (by simp), qc26.cell f_file (by simp), qc26.cell hE (by simp), qc26.cell f_dat (by simp)⟩ (fun hHeld => ?_)
   clear hK K
   refine sgS [22, 23] (by kernel_rfl) (fun hseg => ?_)
   refine sgT (.bool false) hseg hHeld (fun hseg => ?_) (hy := Or.inl ⟨by rfl, fun w' hSw => by go_simp⟩); simp only [rwA]
   refine sgT (.bool false) hseg hHeld (fun hseg => ?_) (hy := Or.inl ⟨by rfl, fun w' hSw => by go_simp⟩); simp only [rwA]
   refine wpAnyH_done (by kernel_rfl) ?_ _
   clear hHeld
   try go_wp2_with fail
   exact hK.out _ _ _ _ _ _ _ _ _ _ _ _ _ _ _ _ _ _ _ _ _ _ _ _ qc26
 have g2 : (er != 0) = false := by rw [bne_eq_false_iff_eq]; exact hq2
 replace hq2 := Lib.hid hq2
 by_cases hq3 : dt = r.data
 ·have g3 : dt.toList = r.data.toList := by rw [hq3]
  replace hq3 := Lib.hid hq3
  clear htd
  go_wp2_with fail
  have kz29 : Only [] w w.drew := (Only.refl [] w).drew
  have fz29_0 : w.drew.cell? ⟨qo, 3, none⟩ = some (.int .u32 p.epoch) := kz29.cell f_ep (by simp)
  have fz29_1 : w.drew.cell? ⟨qo, 2, none⟩ = some (.int .u32 (fy : Int)) := kz29.cell f_file (by simp)
  have fz29_2 : w.drew.cell? ⟨ge, fy, none⟩ = some (.int .u32 e0) := kz29.cell hE (by simp)
  have fz29_3 : w.drew.cell? ⟨qr, 19, none⟩ = some (.string r.data) := kz29.cell f_dat (by simp)
  refine wp_region_held_drew (S := fun w' => w'.cell? ⟨qo, 3, none⟩ = some (.int .u32 p.epoch) ∧ w'.cell? ⟨qo, 2, none⟩ = some (.int .u32 (fy : Int)) ∧ w'.cell? ⟨ge, fy, none⟩ = some (.int .u32 e0) ∧ w'.cell? ⟨qr, 19, none⟩ = some (.string r.data)) (by kernel_rfl) ⟨fz29_0, fz29_1, fz29_2, fz29_3⟩ (fun hHeld => ?_)
  generalize w.drew = wz29 at *
  as_aux_lemma =>
   refine sgS [0, 1, 2, 3, 4, 5, 6, 7, 8, 9, 10, 11, 12, 13, 14, 15, 16, 17, 18, 19, 20, 21, 22, 23] (by kernel_rfl) (fun hseg => ?_)
   refine sgT (.pointer (some ⟨qo, 3, none⟩)) hseg hHeld (fun hseg => ?_) (hy := Or.inl ⟨by rfl, fun w' hSw => by go_simp⟩); simp only [rwA]
   refine sgT (.int .u32 p.epoch) hseg hHeld (fun hseg => ?_) (hy := Or.inl ⟨by rfl, fun w' hSw => by obtain ⟨hc, _, _, _⟩ := hSw; go_simp⟩); simp only [rwA]
   refine sgT (.pointer (some ⟨qo, 2, none⟩)) hseg hHeld (fun hseg => ?_) (hy := Or.inl ⟨by rfl, fun w' hSw => by go_simp⟩); simp only [rwA]
   refine sgT (.int .u32 (fy : Int)) hseg hHeld (fun hseg => ?_) (hy := Or.inl ⟨by rfl, fun w' hSw => by obtain ⟨_, hc, _, _⟩ := hSw; go_simp⟩); simp only [rwA]
   refine sgT (.pointer (some ⟨ge, fy, none⟩)) hseg hHeld (fun hseg => ?_) (hy := Or.inl ⟨by rfl, fun w' hSw => by go_simp⟩); simp only [rwA]
   refine sgT (.int .u32 e0) hseg hHeld (fun hseg => ?_) (hy := Or.inl ⟨by rfl, fun w' hSw => by obtain ⟨_, _, hc, _⟩ := hSw; go_simp⟩); simp only [rwA]
   refine sgT (.bool true) hseg hHeld (fun hseg => ?_) (hy := Or.inl ⟨by rfl, fun w' hSw => by go_simp⟩); simp only [rwA]
   refine sgT (.bool true) hseg hHeld (fun hseg => ?_) (hy := Or.inl ⟨by rfl, fun w' hSw => by go_simp⟩); simp only [rwA]
   refine sgT (.int .i64 er) hseg hHeld (fun hseg => ?_) (hy := Or.inl ⟨by rfl, fun w' hSw => by go_simp⟩); simp only [rwA]
   refine sgT (.bool false) hseg hHeld (fun hseg => ?_) (hy := Or.inl ⟨by rfl, fun w' hSw => by go_simp⟩); simp only [rwA]
   refine sgT (.bool false) hseg hHeld (fun hseg => ?_) (hy := Or.inl ⟨by rfl, fun w' hSw => by go_simp⟩); simp only [rwA]
   refine sgT (.string dt) hseg hHeld (fun hseg => ?_) (hy := Or.inl ⟨by rfl, fun w' hSw => by go_simp⟩); simp only [rwA]
   refine sgT (.pointer (some ⟨qr, 7, none⟩)) hseg hHeld (fun hseg => ?_) (hy := Or.inl ⟨by rfl, fun w' hSw => by go_simp⟩); simp only [rwA]
   refine sgT (.pointer (some ⟨qr, 19, none⟩)) hseg hHeld (fun hseg => ?_) (hy := Or.inl ⟨by rfl, fun w' hSw => by go_simp⟩); simp only [rwA]
   refine sgT (.string r.data) hseg hHeld (fun hseg => ?_) (hy := Or.inl ⟨by rfl, fun w' hSw => by obtain ⟨_, _, _, hc⟩ := hSw; go_simp⟩); simp only [rwA]
   refine sgT (.bool false) hseg hHeld (fun hseg => ?_) (hy := Or.inl ⟨by rfl, fun w' hSw => by go_simp⟩); simp only [rwA]
   refine sgT (.bool false) hseg hHeld (fun hseg => ?_) (hy := Or.inl ⟨by rfl, fun w' hSw => by go_simp⟩); simp only [rwA]
   refine sgT (.bool false) hseg hHeld (fun hseg => ?_) (hy := Or.inl ⟨by rfl, fun w' hSw => by go_simp⟩); simp only [rwA]
   refine sgT (.bool false) hseg hHeld (fun hseg => ?_) (hy := Or.inl ⟨by rfl, fun w' hSw => by go_simp⟩); simp only [rwA]
   refine sgU hseg hHeld (fun hseg => ?_); simp only [rwA]
   refine sgU hseg hHeld (fun hseg => ?_); simp only [rwA]
   refine sgU hseg hHeld (fun hseg => ?_); simp only [rwA]
   refine sgU hseg hHeld (fun hseg => ?_); simp only [rwA]
   refine sgT (.bool false) hseg hHeld (fun hseg => ?_) (hy := Or.inl ⟨by rfl, fun w' hSw => by go_simp⟩); simp only [rwA]
   refine wpAnyH_done (by kernel_rfl) ?_ _
   clear hHeld
   try go_wp2_with fail
   exact hK.out _ _ _ _ _ _ _ _ _ _ _ _ _ _ _ _ _ _ _ _ _ _ _ _ kz29
 ·have g3 : ¬ dt.toList = r.data.toList := fun h => hq3 ((list_same dt r.data).mp h)
  obtain rfl : ag = true := htd.resolve_left fun h => hq3 h.2
  clear htd
  go_wp2_with fail
  have kz31 : Only [] w w.drew := (Only.refl [] w).drew
  have fz31_0 : w.drew.cell? ⟨qo, 3, none⟩ = some (.int .u32 p.epoch) := kz31.cell f_ep (by simp)
  have fz31_1 : w.drew.cell? ⟨qo, 2, none⟩ = some (.int .u32 (fy : Int)) := kz31.cell f_file (by simp)
  have fz31_2 : w.drew.cell? ⟨ge, fy, none⟩ = some (.int .u32 e0) := kz31.cell hE (by simp)
  have fz31_3 : w.drew.cell? ⟨qr, 19, none⟩ = some (.string r.data) := kz31.cell f_dat (by simp)
  refine wp_region_held_drew (S := fun w' => w'.cell? ⟨qo, 3, none⟩ = some (.int .u32 p.epoch) ∧ w'.cell? ⟨qo, 2, none⟩ = some (.int .u32 (fy : Int)) ∧ w'.cell? ⟨ge, fy, none⟩ = some (.int .u32 e0) ∧ w'.cell? ⟨qr, 19, none⟩ = some (.string r.data)) (by kernel_rfl) ⟨fz31_0, fz31_1, fz31_2, fz31_3⟩ (fun hHeld => ?_)
  generalize w.drew = wz31 at *
  as_aux_lemma =>
   refine sgS [0, 1, 2, 3, 4, 5, 6, 7, 8, 9, 10, 11, 12, 13, 14, 15, 16, 17, 18, 19, 20] (by kernel_rfl) (fun hseg => ?_)
   refine sgT (.pointer (some ⟨qo, 3, none⟩)) hseg hHeld (fun hseg => ?_) (hy := Or.inl ⟨by rfl, fun w' hSw => by go_simp⟩); simp only [rwA]
   refine sgT (.int .u32 p.epoch) hseg hHeld (fun hseg => ?_) (hy := Or.inl ⟨by rfl, fun w' hSw => by obtain ⟨hc, _, _, _⟩ := hSw; go_simp⟩); simp only [rwA]
   refine sgT (.pointer (some ⟨qo, 2, none⟩)) hseg hHeld (fun hseg => ?_) (hy := Or.inl ⟨by rfl, fun w' hSw => by go_simp⟩); simp only [rwA]
   refine sgT (.int .u32 (fy : Int)) hseg hHeld (fun hseg => ?_) (hy := Or.inl ⟨by rfl, fun w' hSw => by obtain ⟨_, hc, _, _⟩ := hSw; go_simp⟩); simp only [rwA]
   refine sgT (.pointer (some ⟨ge, fy, none⟩)) hseg hHeld (fun hseg => ?_) (hy := Or.inl ⟨by rfl, fun w' hSw => by go_simp⟩); simp only [rwA]
   refine sgT (.int .u32 e0) hseg hHeld (fun hseg => ?_) (hy := Or.inl ⟨by rfl, fun w' hSw => by obtain ⟨_, _, hc, _⟩ := hSw; go_simp⟩); simp only [rwA]
   refine sgT (.bool true) hseg hHeld (fun hseg => ?_) (hy := Or.inl ⟨by rfl, fun w' hSw => by go_simp⟩); simp only [rwA]
   refine sgT (.bool true) hseg hHeld (fun hseg => ?_) (hy := Or.inl ⟨by rfl, fun w' hSw => by go_simp⟩); simp only [rwA]
   refine sgT (.int .i64 er) hseg hHeld (fun hseg => ?_) (hy := Or.inl ⟨by rfl, fun w' hSw => by go_simp⟩); simp only [rwA]
   refine sgT (.bool false) hseg hHeld (fun hseg => ?_) (hy := Or.inl ⟨by rfl, fun w' hSw => by go_simp⟩); simp only [rwA]
   refine sgT (.bool false) hseg hHeld (fun hseg => ?_) (hy := Or.inl ⟨by rfl, fun w' hSw => by go_simp⟩); simp only [rwA]
   refine sgT (.string dt) hseg hHeld (fun hseg => ?_) (hy := Or.inl ⟨by rfl, fun w' hSw => by go_simp⟩); simp only [rwA]
   refine sgT (.pointer (some ⟨qr, 7, none⟩)) hseg hHeld (fun hseg => ?_) (hy := Or.inl ⟨by rfl, fun w' hSw => by go_simp⟩); simp only [rwA]
   refine sgT (.pointer (some ⟨qr, 19, none⟩)) hseg hHeld (fun hseg => ?_) (hy := Or.inl ⟨by rfl, fun w' hSw => by go_simp⟩); simp only [rwA]
   refine sgT (.string r.data) hseg hHeld (fun hseg => ?_) (hy := Or.inl ⟨by rfl, fun w' hSw => by obtain ⟨_, _, _, hc⟩ := hSw; go_simp⟩); simp only [rwA]
   refine sgT (.bool true) hseg hHeld (fun hseg => ?_) (hy := Or.inl ⟨by rfl, fun w' hSw => by go_simp⟩); simp only [rwA]
   refine sgT (.bool true) hseg hHeld (fun hseg => ?_) (hy := Or.inl ⟨by rfl, fun w' hSw => by go_simp⟩); simp only [rwA]
   refine sgT (.bool true) hseg hHeld (fun hseg => ?_) (hy := Or.inl ⟨by rfl, fun w' hSw => by go_simp⟩); simp only [rwA]
   refine sgT (.bool true) hseg hHeld (fun hseg => ?_) (hy := Or.inl ⟨by rfl, fun w' hSw => by go_simp⟩); simp only [rwA]
   refine sgT (.slice (some ⟨g, o, none⟩) n c) hseg hHeld (fun hseg => ?_) (hy := Or.inl ⟨by rfl, fun w' hSw => by go_simp⟩); simp only [rwA]
   refine sgT (.int .i64 (k : Int)) hseg hHeld (fun hseg => ?_) (hy := Or.inl ⟨by rfl, fun w' hSw => by go_simp⟩); simp only [rwA]
   refine held_step 21 rfl (by kernel_rfl) (fun K hK => ?_)
   go_simp
   refine (hag2.out _ kz31).mono ?_; rintro e vc30 ⟨rfl, kc30⟩
   have qc30 := kz31.trans kc30
   go_wp2_with fail
   refine hK.out _ _ ⟨qc30.cell f_ep (by simp), qc30.cell f_file (by simp), qc30.cell hE (by simp), qc30.cell f_dat (by simp)⟩ (fun hHeld => ?_)
   clear hK K
   refine sgS [22, 23] (by kernel_rfl) (fun hseg => ?_)
   refine sgT (.bool false) hseg hHeld (fun hseg => ?_) (hy := Or.inl ⟨by rfl, fun w' hSw => by go_simp⟩); simp only [rwA]
   refine sgT (.bool false) hseg hHeld (fun hseg => ?_) (hy := Or.inl ⟨by rfl, fun w' hSw => by go_simp⟩); simp only [rwA]
   refine wpAnyH_done (by kernel_rfl) ?_ _
   clear hHeld
   try go_wp2_with fail
   exact hK.out _ _ _ _ _ _ _ _ _ _ _ _ _ _ _ _ _ _ _ _ _ _ _ _ qc30
end Go.Proofs.YtmelaiefbpdifaaGreatDoor.Srv
