/- DserverFenced: the epochs of a server that began anew. -/
import Derived.Test.YtmelaiefbpdifaaGreatDoorGFs13
namespace Go.Proofs.YtmelaiefbpdifaaGreatDoor.Srv
open Go.RowKit Go.Maps
open Pgs (Pg pgE errB okBytes bytesL)
set_option linter.unusedVariables false
set_option maxRecDepth 100000 in
set_option maxHeartbeats 8000000 in
theorem fenced_crash (s : Code) (hs : s = fCrash) (w : World) {w1 w4 : World} {V : List Nat} {nb sb dp b bt ge gp : Nat} {σ ν : Sv} {P2 : List Rw → Prop} (hν : SrvQ true w1 w V nb dp ν 0 b P2) (lk2 : Look w4 w ge gp σ 4 4) (hsb : ∀ W, Only [] w W → Calls Tryz.prog 21 #[.pointer (some ⟨sb, 0, none⟩)] W fun e w' => e = .returned (.int .u32 (bt : Int)) ∧ w' = W) (hνb : ν.boot = (bt : Int) + 1) (hepo : ∀ y, y < 4294967296 → epN σ.M y ≤ epN ν.M y ∨ epN ν.M y = 0)
  {u0 u1 u2 u3 u5 u6 u7 u9 u10 u12 u14 u15 u16 u17 u18 u19 u20 u21 u22 u23 u24 u25 u26 u27 u28 u29 u30 u31 u32 u33 u34 u35 u36 u37 u38 u39 u40 u41 u42 u43 u44 u45 u46 u47 u48 u49 u50 u51 u52 u53 u54 u55 u56 u57 u58 u59 u60 u61 u62 u63 u64 u65 u66 u67 u68 u69 u70 u71 u72 u73 u74 u75 u76 u77 u78 u79 u80 u81 u82 u83 u84 u85 u86 u87 u88 u89 u90 u91 u92 u93 u94 u95 u96 u97 u98 u99 u100 u101 u102 u103 u104 u105 u106 u107 u108 u109 u110 u111 u112 u113 u114 u115 u116 u117 u118 u119 u120 u121 u122 u123 u124 u125 u126 u127 u128 u129 u130 u131 u132 u133 u134 u135 u136 u137 u138 u139 u140 u141 u142 u143 u144 u145 u146 u147 u148 u149 u150 u151 u152 u153 u154 u155 u156 u157 u158 u159 u160 u161 u162 u163 u164 u165 u166 u167 u168 u169 u170 u171 u172 u173 u174 u175 u176 u177 u178 u179 u180 u181 u182 u183 u184 u185 u186 u187 u188 u189 u190 u191 u192 u193 u194 u195 u196 u197 u198 u199 u200 u201 u202 u203 u204 u205 u206 u207 u208 u209 u210 u211 u212 u213 u214 u215 u216 u217 u218 u219 u220 u221 u222 u223 u224 u225 u226 u227 u228 u229 u230 u231 u232 u233 u234 u235 u236 u237 u238 u239 u240 u241 u242 u243 u244 u245 u246 u247 u248 u249 u250 u251 u252 u253 u254 u255 u256 u257 u258 u259 u260 u261 u262 u263 u264 u265 u266 u267 u268 u269 u270 u271 u272 u273 u274 u275 u276 u277 u278 u279 u280 u281 u282 u283 u284 u285 u286 u287 u288 u289 u290 : Value} (K : Act → World → Prop) (Q0 : Exit → Act → World → Prop) (hpan : ∀ c a d v w, Q0 (.panic c) (a.put d v) w → Q0 (.panic c) a w)
  (hK : ∀ (x2 x13 x73 x74 x75 x76 x77 x78 x79 x80 x81 x82 x83 x84 x85 x86 x87 x88 x89 x90 x91 x92 x93 x94 x95 x96 : Value) (w' : World), Only [] w w' → K ⟨#[u0, u1, x2, u3, .pointer (some ⟨sb, 0, none⟩), u5, u6, u7, .pointer (some ⟨ge, 0, none⟩), u9, u10, .pointer (some ⟨nb, 0, none⟩), u12, x13, u14, u15, u16, u17, u18, u19, u20, u21, u22, u23, u24, u25, u26, u27, u28, u29, u30, u31, u32, u33, u34, u35, u36, u37, u38, u39, u40, u41, u42, u43, u44, u45, u46, u47, u48, u49, u50, u51, u52, u53, u54, u55, u56, u57, u58, u59, u60, u61, u62, u63, u64, u65, u66, u67, u68, u69, u70, u71, u72, x73, x74, x75, x76, x77, x78, x79, x80, x81, x82, x83, x84, x85, x86, x87, x88, x89, x90, x91, x92, x93, x94, x95, x96, u97, u98, u99, u100, u101, u102, u103, u104, u105, u106, u107, u108, u109, u110, u111, u112, u113, u114, u115, u116, u117, u118, u119, u120, u121, u122, u123, u124, u125, u126, u127, u128, u129, u130, u131, u132, u133, u134, u135, u136, u137, u138, u139, u140, u141, u142, u143, u144, u145, u146, u147, u148, u149, u150, u151, u152, u153, u154, u155, u156, u157, u158, u159, u160, u161, u162, u163, u164, u165, u166, u167, u168, u169, u170, u171, u172, u173, u174, u175, u176, u177, u178, u179, u180, u181, u182, u183, u184, u185, u186, u187, u188, u189, u190, u191, u192, u193, u194, u195, u196, u197, u198, u199, u200, u201, u202, u203, u204, u205, u206, u207, u208, u209, u210, u211, u212, u213, u214, u215, u216, u217, u218, u219, u220, u221, u222, u223, u224, u225, u226, u227, u228, u229, u230, u231, u232, u233, u234, u235, u236, u237, u238, u239, u240, u241, u242, u243, u244, u245, u246, u247, u248, u249, u250, u251, u252, u253, u254, u255, u256, u257, u258, u259, u260, u261, u262, u263, u264, u265, u266, u267, u268, u269, u270, u271, u272, u273, u274, u275, u276, u277, u278, u279, u280, u281, u282, u283, u284, u285, u286, u287, u288, u289, u290], []⟩ w') :
  Code.wp Tryz.prog s (Exit.then K Q0) ⟨#[u0, u1, u2, u3, .pointer (some ⟨sb, 0, none⟩), u5, u6, u7, .pointer (some ⟨ge, 0, none⟩), u9, u10, .pointer (some ⟨nb, 0, none⟩), u12, .int .u32 0, u14, u15, u16, u17, u18, u19, u20, u21, u22, u23, u24, u25, u26, u27, u28, u29, u30, u31, u32, u33, u34, u35, u36, u37, u38, u39, u40, u41, u42, u43, u44, u45, u46, u47, u48, u49, u50, u51, u52, u53, u54, u55, u56, u57, u58, u59, u60, u61, u62, u63, u64, u65, u66, u67, u68, u69, u70, u71, u72, u73, u74, u75, u76, u77, u78, u79, u80, u81, u82, u83, u84, u85, u86, u87, u88, u89, u90, u91, u92, u93, u94, u95, u96, u97, u98, u99, u100, u101, u102, u103, u104, u105, u106, u107, u108, u109, u110, u111, u112, u113, u114, u115, u116, u117, u118, u119, u120, u121, u122, u123, u124, u125, u126, u127, u128, u129, u130, u131, u132, u133, u134, u135, u136, u137, u138, u139, u140, u141, u142, u143, u144, u145, u146, u147, u148, u149, u150, u151, u152, u153, u154, u155, u156, u157, u158, u159, u160, u161, u162, u163, u164, u165, u166, u167, u168, u169, u170, u171, u172, u173, u174, u175, u176, u177, u178, u179, u180, u181, u182, u183, u184, u185, u186, u187, u188, u189, u190, u191, u192, u193, u194, u195, u196, u197, u198, u199, u200, u201, u202, u203, u204, u205, u206, u207, u208, u209, u210, u211, u212, u213, u214, u215, u216, u217, u218, u219, u220, u221, u222, u223, u224, u225, u226, u227, u228, u229, u230, u231, u232, u233, u234, u235, u236, u237, u238, u239, u240, u241, u242, u243, u244, u245, u246, u247, u248, u249, u250, u251, u252, u253, u254, u255, u256, u257, u258, u259, u260, u261, u262, u263, u264, u265, u266, u267, u268, u269, u270, u271, u272, u273, u274, u275, u276, u277, u278, u279, u280, u281, u282, u283, u284, u285, u286, u287, u288, u289, u290], []⟩ w := by
 subst hs
 conv => arg 2; whnf
 replace hK := Lib.hid hK
 replace hepo := Lib.hid hepo
 replace hsb := Lib.hid hsb
 go_wp2_with fail
 go_loopw [13] (fun i wx => ∃ y : Nat, y ≤ 4 ∧ i = .int .u32 y ∧ Only [] w wx) (fun i _ => 4 - (intOf i).toNat)
 case atStart => exact ⟨0, by omega, rfl, Only.refl [] _⟩
 case round =>
  obtain ⟨y, hy, rfl, kx⟩ := hrel
  by_cases hlt : y < 4
  case neg =>
   obtain rfl : y = 4 := by omega
   go_wp2_with fail
   exact hK.out _ _ _ _ _ _ _ _ _ _ _ _ _ _ _ _ _ _ _ _ _ _ _ _ _ _ wr kx
  have hE := (lk2.keep kx).readE (k := y) hlt
  obtain ⟨B, d, hO, _⟩ := (lk2.keep kx).readO (k := y) hlt
  have n9 := hν.keep kx
  have he := fun W (kk : Only [] wr W) => (n9.keep kk).epoch (y : Int) (by unfold U; omega)
  simp only [Int.toNat_natCast] at he
  have hbn := fun W (kk : Only [] wr W) => (n9.keep kk).boot
  rw [hνb] at hbn
  have hbs := fun W (kk : Only [] wr W) => hsb.out W (kx.trans kk)
  have hf := hepo.out y (by omega)
  have hf' : (epN σ.M y : Int) ≤ (epN ν.M y : Int) ∨ (epN ν.M y : Int) = 0 := by omega
  clear hf
  generalize (epN ν.M y : Int) = e1 at *
  generalize (epN σ.M y : Int) = e0 at *
  have dB : decide ((bt : Int) + 1 ≤ (bt : Int)) = false := by simp; omega
  replace he := Lib.hid he
  replace hbn := Lib.hid hbn
  replace hbs := Lib.hid hbs
  clear n9
  by_cases hlow : e1 < e0
  ·have dl : decide (e1 < e0) = true := by simpa using hlow
   have dz : (e1 != 0) = false := by
    rw [bne_eq_false_iff_eq]
    omega
   clear hf'
   go_wp2_with fail
   have kz5 : Only [] wr wr.drew := (Only.refl [] wr).drew
   have fz5_0 : wr.drew.cell? ⟨ge, y, none⟩ = some (.int .u32 e0) := kz5.cell hE (by simp)
   have fz5_1 : wr.drew.cell? ⟨gp, y, none⟩ = some (.slice B (objL σ y).length d) := kz5.cell hO (by simp)
   refine wp_region_held_drew (S := fun w' => w'.cell? ⟨ge, y, none⟩ = some (.int .u32 e0) ∧ w'.cell? ⟨gp, y, none⟩ = some (.slice B (objL σ y).length d)) (by kernel_rfl) ⟨fz5_0, fz5_1⟩ (fun hHeld => ?_)
   generalize wr.drew = wz5 at *
   refine sgS [0, 1, 3, 4, 5] (by kernel_rfl) (fun hseg => ?_)
   refine sgT (.pointer (some ⟨nb, 0, none⟩)) hseg hHeld (fun hseg => ?_) (hy := Or.inl ⟨by rfl, fun w' hSw => by go_simp⟩); simp only [rwA]
   refine sgT (.int .u32 (y : Int)) hseg hHeld (fun hseg => ?_) (hy := Or.inl ⟨by rfl, fun w' hSw => by go_simp⟩); simp only [rwA]
   refine sgT (.int .u32 (y : Int)) hseg hHeld (fun hseg => ?_) (hy := Or.inl ⟨by rfl, fun w' hSw => by go_simp⟩); simp only [rwA]
   refine sgT (.pointer (some ⟨ge, y, none⟩)) hseg hHeld (fun hseg => ?_) (hy := Or.inl ⟨by rfl, fun w' hSw => by go_simp⟩); simp only [rwA]
   refine sgT (.int .u32 e0) hseg hHeld (fun hseg => ?_) (hy := Or.inl ⟨by rfl, fun w' hSw => by obtain ⟨hc, _⟩ := hSw; go_simp⟩); simp only [rwA]
   refine held_step 2 rfl (by kernel_rfl) (fun K hK => ?_)
   go_simp
   refine (he.out _ kz5).mono ?_; rintro e vc1 ⟨rfl, kc1⟩
   have qc1 := kz5.trans kc1
   go_wp2_with fail
   refine hK.out _ _ ⟨qc1.cell hE (by simp), qc1.cell hO (by simp)⟩ (fun hHeld => ?_)
   clear hK K
   refine sgS [6, 7, 8, 9] (by kernel_rfl) (fun hseg => ?_)
   refine sgT (.bool true) hseg hHeld (fun hseg => ?_) (hy := Or.inl ⟨by rfl, fun w' hSw => by go_simp⟩); simp only [rwA]
   refine sgT (.bool true) hseg hHeld (fun hseg => ?_) (hy := Or.inl ⟨by rfl, fun w' hSw => by go_simp⟩); simp only [rwA]
   refine sgT (.pointer (some ⟨nb, 0, none⟩)) hseg hHeld (fun hseg => ?_) (hy := Or.inl ⟨by rfl, fun w' hSw => by go_simp⟩); simp only [rwA]
   refine sgT (.int .u32 (y : Int)) hseg hHeld (fun hseg => ?_) (hy := Or.inl ⟨by rfl, fun w' hSw => by go_simp⟩); simp only [rwA]
   refine held_step 10 rfl (by kernel_rfl) (fun K hK => ?_)
   go_simp
   refine (he.out _ qc1).mono ?_; rintro e vc2 ⟨rfl, kc2⟩
   have qc2 := qc1.trans kc2
   go_wp2_with fail
   refine hK.out _ _ ⟨qc2.cell hE (by simp), qc2.cell hO (by simp)⟩ (fun hHeld => ?_)
   clear hK K
   refine sgS [11, 12, 13, 14, 16] (by kernel_rfl) (fun hseg => ?_)
   refine sgT (.bool false) hseg hHeld (fun hseg => ?_) (hy := Or.inl ⟨by rfl, fun w' hSw => by go_simp⟩); simp only [rwA]
   refine sgT (.bool false) hseg hHeld (fun hseg => ?_) (hy := Or.inl ⟨by rfl, fun w' hSw => by go_simp⟩); simp only [rwA]
   refine sgT (.bool false) hseg hHeld (fun hseg => ?_) (hy := Or.inl ⟨by rfl, fun w' hSw => by go_simp⟩); simp only [rwA]
   refine sgT (.pointer (some ⟨nb, 0, none⟩)) hseg hHeld (fun hseg => ?_) (hy := Or.inl ⟨by rfl, fun w' hSw => by go_simp⟩); simp only [rwA]
   refine sgT (.pointer (some ⟨sb, 0, none⟩)) hseg hHeld (fun hseg => ?_) (hy := Or.inl ⟨by rfl, fun w' hSw => by go_simp⟩); simp only [rwA]
   refine held_step 15 rfl (by kernel_rfl) (fun K hK => ?_)
   go_simp
   refine (hbn.out _ qc2).mono ?_; rintro e vc3 ⟨rfl, rfl⟩
   have qc3 := qc2
   go_wp2_with fail
   refine hK.out _ _ ⟨qc3.cell hE (by simp), qc3.cell hO (by simp)⟩ (fun hHeld => ?_)
   clear hK K
   refine held_step 17 rfl (by kernel_rfl) (fun K hK => ?_)
   go_simp
   refine (hbs.out _ qc3).mono ?_; rintro e vc4 ⟨rfl, rfl⟩
   have qc4 := qc3
   go_wp2_with fail
   refine hK.out _ _ ⟨qc4.cell hE (by simp), qc4.cell hO (by simp)⟩ (fun hHeld => ?_)
   clear hK K
   refine sgS [18, 19] (by kernel_rfl) (fun hseg => ?_)
   refine sgT (.bool false) hseg hHeld (fun hseg => ?_) (hy := Or.inl ⟨by rfl, fun w' hSw => by go_simp⟩); simp only [rwA]
   refine sgT (.bool false) hseg hHeld (fun hseg => ?_) (hy := Or.inl ⟨by rfl, fun w' hSw => by go_simp⟩); simp only [rwA]
   refine wpAnyH_done (by kernel_rfl) ?_ _
   clear hHeld
   go_wp2_with fail
   go_roundw
   case rel => exact ⟨y + 1, by omega, by go_num, kx.trans qc4⟩
   case measure => simp [intOf]; omega
  ·have dl : decide (e1 < e0) = false := by simpa using hlow
   clear hf'
   go_wp2_with fail
   have kz10 : Only [] wr wr.drew := (Only.refl [] wr).drew
   have fz10_0 : wr.drew.cell? ⟨ge, y, none⟩ = some (.int .u32 e0) := kz10.cell hE (by simp)
   have fz10_1 : wr.drew.cell? ⟨gp, y, none⟩ = some (.slice B (objL σ y).length d) := kz10.cell hO (by simp)
   refine wp_region_held_drew (S := fun w' => w'.cell? ⟨ge, y, none⟩ = some (.int .u32 e0) ∧ w'.cell? ⟨gp, y, none⟩ = some (.slice B (objL σ y).length d)) (by kernel_rfl) ⟨fz10_0, fz10_1⟩ (fun hHeld => ?_)
   generalize wr.drew = wz10 at *
   refine sgS [0, 1, 3, 4, 5] (by kernel_rfl) (fun hseg => ?_)
   refine sgT (.pointer (some ⟨nb, 0, none⟩)) hseg hHeld (fun hseg => ?_) (hy := Or.inl ⟨by rfl, fun w' hSw => by go_simp⟩); simp only [rwA]
   refine sgT (.int .u32 (y : Int)) hseg hHeld (fun hseg => ?_) (hy := Or.inl ⟨by rfl, fun w' hSw => by go_simp⟩); simp only [rwA]
   refine sgT (.int .u32 (y : Int)) hseg hHeld (fun hseg => ?_) (hy := Or.inl ⟨by rfl, fun w' hSw => by go_simp⟩); simp only [rwA]
   refine sgT (.pointer (some ⟨ge, y, none⟩)) hseg hHeld (fun hseg => ?_) (hy := Or.inl ⟨by rfl, fun w' hSw => by go_simp⟩); simp only [rwA]
   refine sgT (.int .u32 e0) hseg hHeld (fun hseg => ?_) (hy := Or.inl ⟨by rfl, fun w' hSw => by obtain ⟨hc, _⟩ := hSw; go_simp⟩); simp only [rwA]
   refine held_step 2 rfl (by kernel_rfl) (fun K hK => ?_)
   go_simp
   refine (he.out _ kz10).mono ?_; rintro e vc6 ⟨rfl, kc6⟩
   have qc6 := kz10.trans kc6
   go_wp2_with fail
   refine hK.out _ _ ⟨qc6.cell hE (by simp), qc6.cell hO (by simp)⟩ (fun hHeld => ?_)
   clear hK K
   refine sgS [6, 7, 8, 9, 10, 11, 12, 13, 14, 16] (by kernel_rfl) (fun hseg => ?_)
   refine sgT (.bool false) hseg hHeld (fun hseg => ?_) (hy := Or.inl ⟨by rfl, fun w' hSw => by go_simp⟩); simp only [rwA]
   refine sgT (.bool false) hseg hHeld (fun hseg => ?_) (hy := Or.inl ⟨by rfl, fun w' hSw => by go_simp⟩); simp only [rwA]
   refine sgU hseg hHeld (fun hseg => ?_); simp only [rwA]
   refine sgU hseg hHeld (fun hseg => ?_); simp only [rwA]
   refine sgU hseg hHeld (fun hseg => ?_); simp only [rwA]
   refine sgU hseg hHeld (fun hseg => ?_); simp only [rwA]
   refine sgT (.bool false) hseg hHeld (fun hseg => ?_) (hy := Or.inl ⟨by rfl, fun w' hSw => by go_simp⟩); simp only [rwA]
   refine sgT (.bool false) hseg hHeld (fun hseg => ?_) (hy := Or.inl ⟨by rfl, fun w' hSw => by go_simp⟩); simp only [rwA]
   refine sgT (.pointer (some ⟨nb, 0, none⟩)) hseg hHeld (fun hseg => ?_) (hy := Or.inl ⟨by rfl, fun w' hSw => by go_simp⟩); simp only [rwA]
   refine sgT (.pointer (some ⟨sb, 0, none⟩)) hseg hHeld (fun hseg => ?_) (hy := Or.inl ⟨by rfl, fun w' hSw => by go_simp⟩); simp only [rwA]
   refine held_step 15 rfl (by kernel_rfl) (fun K hK => ?_)
   go_simp
   refine (hbn.out _ qc6).mono ?_; rintro e vc8 ⟨rfl, rfl⟩
   have qc8 := qc6
   go_wp2_with fail
   refine hK.out _ _ ⟨qc8.cell hE (by simp), qc8.cell hO (by simp)⟩ (fun hHeld => ?_)
   clear hK K
   refine held_step 17 rfl (by kernel_rfl) (fun K hK => ?_)
   go_simp
   refine (hbs.out _ qc8).mono ?_; rintro e vc9 ⟨rfl, rfl⟩
   have qc9 := qc8
   go_wp2_with fail
   refine hK.out _ _ ⟨qc9.cell hE (by simp), qc9.cell hO (by simp)⟩ (fun hHeld => ?_)
   clear hK K
   refine sgS [18, 19] (by kernel_rfl) (fun hseg => ?_)
   refine sgT (.bool false) hseg hHeld (fun hseg => ?_) (hy := Or.inl ⟨by rfl, fun w' hSw => by go_simp⟩); simp only [rwA]
   refine sgT (.bool false) hseg hHeld (fun hseg => ?_) (hy := Or.inl ⟨by rfl, fun w' hSw => by go_simp⟩); simp only [rwA]
   refine wpAnyH_done (by kernel_rfl) ?_ _
   clear hHeld
   go_wp2_with fail
   go_roundw
   case rel => exact ⟨y + 1, by omega, by go_num, kx.trans qc9⟩
   case measure => simp [intOf]; omega
end Go.Proofs.YtmelaiefbpdifaaGreatDoor.Srv
