/- DserverFenced: what is seen of the files ahead of an act. -/
import Derived.Test.YtmelaiefbpdifaaGreatDoorGFs13
namespace Go.Proofs.YtmelaiefbpdifaaGreatDoor.Srv
open Go.RowKit Go.Maps
open Pgs (Pg pgE errB okBytes bytesL)
set_option linter.unusedVariables false
set_option maxRecDepth 100000 in
set_option maxHeartbeats 8000000 in
theorem fenced_fill (s : Code) (hs : s = fFill) (w : World) {w1 w4 : World} {R : List Nat} {sb dp cc b ge gp : Nat} {σ : Sv} {P : List Rw → Prop} (hσ4 : SrvQ false w1 w4 R sb dp σ cc b P) (hge : ge = w4.heap.size) (hgp : gp = w4.heap.size + 1) (s6 : Look w4 w ge gp σ 0 0) (k6 : Only [] w4 w)
  {u0 u1 u2 u3 u5 u6 u7 u11 u12 u13 u14 u15 u16 u17 u18 u19 u20 u21 u22 u23 u24 u25 u26 u27 u28 u29 u30 u31 u32 u33 u34 u35 u36 u37 u38 u39 u40 u41 u42 u43 u44 u45 u46 u47 u48 u49 u50 u51 u52 u53 u54 u55 u56 u57 u58 u59 u60 u61 u62 u63 u64 u65 u66 u67 u68 u69 u70 u71 u72 u73 u74 u75 u76 u77 u78 u79 u80 u81 u82 u83 u84 u85 u86 u87 u88 u89 u90 u91 u92 u93 u94 u95 u96 u97 u98 u99 u100 u101 u102 u103 u104 u105 u106 u107 u108 u109 u110 u111 u112 u113 u114 u115 u116 u117 u118 u119 u120 u121 u122 u123 u124 u125 u126 u127 u128 u129 u130 u131 u132 u133 u134 u135 u136 u137 u138 u139 u140 u141 u142 u143 u144 u145 u146 u147 u148 u149 u150 u151 u152 u153 u154 u155 u156 u157 u158 u159 u160 u161 u162 u163 u164 u165 u166 u167 u168 u169 u170 u171 u172 u173 u174 u175 u176 u177 u178 u179 u180 u181 u182 u183 u184 u185 u186 u187 u188 u189 u190 u191 u192 u193 u194 u195 u196 u197 u198 u199 u200 u201 u202 u203 u204 u205 u206 u207 u208 u209 u210 u211 u212 u213 u214 u215 u216 u217 u218 u219 u220 u221 u222 u223 u224 u225 u226 u227 u228 u229 u230 u231 u232 u233 u234 u235 u236 u237 u238 u239 u240 u241 u242 u243 u244 u245 u246 u247 u248 u249 u250 u251 u252 u253 u254 u255 u256 u257 u258 u259 u260 u261 u262 u263 u264 u265 u266 u267 u268 u269 u270 u271 u272 u273 u274 u275 u276 u277 u278 u279 u280 u281 u282 u283 u284 u285 u286 u287 u288 u289 u290 : Value} (K : Act → World → Prop) (Q0 : Exit → Act → World → Prop) (hpan : ∀ c a d v w, Q0 (.panic c) (a.put d v) w → Q0 (.panic c) a w)
  (hK : ∀ (x10 x44 x45 x46 x47 x48 x49 x50 x51 x52 x53 x54 x55 x56 x57 : Value) (w' : World), Look w4 w' ge gp σ 4 4 → Only [] w4 w' → K ⟨#[u0, u1, u2, u3, .pointer (some ⟨sb, 0, none⟩), u5, u6, u7, .pointer (some ⟨ge, 0, none⟩), .pointer (some ⟨gp, 0, none⟩), x10, u11, u12, u13, u14, u15, u16, u17, u18, u19, u20, u21, u22, u23, u24, u25, u26, u27, u28, u29, u30, u31, u32, u33, u34, u35, u36, u37, u38, u39, u40, u41, u42, u43, x44, x45, x46, x47, x48, x49, x50, x51, x52, x53, x54, x55, x56, x57, u58, u59, u60, u61, u62, u63, u64, u65, u66, u67, u68, u69, u70, u71, u72, u73, u74, u75, u76, u77, u78, u79, u80, u81, u82, u83, u84, u85, u86, u87, u88, u89, u90, u91, u92, u93, u94, u95, u96, u97, u98, u99, u100, u101, u102, u103, u104, u105, u106, u107, u108, u109, u110, u111, u112, u113, u114, u115, u116, u117, u118, u119, u120, u121, u122, u123, u124, u125, u126, u127, u128, u129, u130, u131, u132, u133, u134, u135, u136, u137, u138, u139, u140, u141, u142, u143, u144, u145, u146, u147, u148, u149, u150, u151, u152, u153, u154, u155, u156, u157, u158, u159, u160, u161, u162, u163, u164, u165, u166, u167, u168, u169, u170, u171, u172, u173, u174, u175, u176, u177, u178, u179, u180, u181, u182, u183, u184, u185, u186, u187, u188, u189, u190, u191, u192, u193, u194, u195, u196, u197, u198, u199, u200, u201, u202, u203, u204, u205, u206, u207, u208, u209, u210, u211, u212, u213, u214, u215, u216, u217, u218, u219, u220, u221, u222, u223, u224, u225, u226, u227, u228, u229, u230, u231, u232, u233, u234, u235, u236, u237, u238, u239, u240, u241, u242, u243, u244, u245, u246, u247, u248, u249, u250, u251, u252, u253, u254, u255, u256, u257, u258, u259, u260, u261, u262, u263, u264, u265, u266, u267, u268, u269, u270, u271, u272, u273, u274, u275, u276, u277, u278, u279, u280, u281, u282, u283, u284, u285, u286, u287, u288, u289, u290], []⟩ w') :
  Code.wp Tryz.prog s (Exit.then K Q0) ⟨#[u0, u1, u2, u3, .pointer (some ⟨sb, 0, none⟩), u5, u6, u7, .pointer (some ⟨ge, 0, none⟩), .pointer (some ⟨gp, 0, none⟩), .int .u32 0, u11, u12, u13, u14, u15, u16, u17, u18, u19, u20, u21, u22, u23, u24, u25, u26, u27, u28, u29, u30, u31, u32, u33, u34, u35, u36, u37, u38, u39, u40, u41, u42, u43, u44, u45, u46, u47, u48, u49, u50, u51, u52, u53, u54, u55, u56, u57, u58, u59, u60, u61, u62, u63, u64, u65, u66, u67, u68, u69, u70, u71, u72, u73, u74, u75, u76, u77, u78, u79, u80, u81, u82, u83, u84, u85, u86, u87, u88, u89, u90, u91, u92, u93, u94, u95, u96, u97, u98, u99, u100, u101, u102, u103, u104, u105, u106, u107, u108, u109, u110, u111, u112, u113, u114, u115, u116, u117, u118, u119, u120, u121, u122, u123, u124, u125, u126, u127, u128, u129, u130, u131, u132, u133, u134, u135, u136, u137, u138, u139, u140, u141, u142, u143, u144, u145, u146, u147, u148, u149, u150, u151, u152, u153, u154, u155, u156, u157, u158, u159, u160, u161, u162, u163, u164, u165, u166, u167, u168, u169, u170, u171, u172, u173, u174, u175, u176, u177, u178, u179, u180, u181, u182, u183, u184, u185, u186, u187, u188, u189, u190, u191, u192, u193, u194, u195, u196, u197, u198, u199, u200, u201, u202, u203, u204, u205, u206, u207, u208, u209, u210, u211, u212, u213, u214, u215, u216, u217, u218, u219, u220, u221, u222, u223, u224, u225, u226, u227, u228, u229, u230, u231, u232, u233, u234, u235, u236, u237, u238, u239, u240, u241, u242, u243, u244, u245, u246, u247, u248, u249, u250, u251, u252, u253, u254, u255, u256, u257, u258, u259, u260, u261, u262, u263, u264, u265, u266, u267, u268, u269, u270, u271, u272, u273, u274, u275, u276, u277, u278, u279, u280, u281, u282, u283, u284, u285, u286, u287, u288, u289, u290], []⟩ w := by
 subst hs
 conv => arg 2; whnf
 replace hge := Lib.hid hge
 replace hgp := Lib.hid hgp
 replace hK := Lib.hid hK
 go_wp2_with fail
 go_loopw [10] (fun i wx => ∃ y : Nat, y ≤ 4 ∧ i = .int .u32 y ∧ Look w4 wx ge gp σ y y ∧ Only [] w4 wx) (fun i _ => 4 - (intOf i).toNat)
 case atStart => exact ⟨0, by omega, rfl, s6, k6⟩
 case round =>
  obtain ⟨y, hy, rfl, sx, kx⟩ := hrel
  by_cases hlt : y < 4
  case pos =>
   have hep := (hσ4.keep kx).epoch (y : Int) (by unfold U; omega)
   simp only [Int.toNat_natCast] at hep
   go_wp2_with fail
   refine hep.mono ?_; rintro e w7 ⟨rfl, k7⟩
   have s7 := sx.keep k7
   obtain ⟨⟨v, cv⟩, fv, _⟩ := s7.cellE hlt
   have s8 := s7.ep hlt
   have k8 : Only [] w4 (w7.setCell ⟨ge, y, none⟩ (.int .u32 (epN σ.M y : Int))) := (kx.trans k7).setCell (.inr (by have := hge.out; show w4.heap.size ≤ ge; omega)) _
   have hob := (hσ4.keep k8).object y y rfl (by omega)
   clear hep
   go_wp2_with fail
   have hg7 := s8.cellE hlt
   have hp7 := s8.cellO hlt
   generalize w7.setCell ⟨ge, y, none⟩ (.int .u32 (epN σ.M y : Int)) = w8 at *
   refine hob.mono ?_; rintro e w9 ⟨v', rfl, B, d, rfl, _, hE, k9, hB⟩
   have s9 := s8.keep k9
   obtain ⟨⟨v2, cv2⟩, fv2, _⟩ := s9.cellO hlt
   have hw8 := k8.size
   have hBB : ∀ a, B = some a → w4.heap.size ≤ a.block ∧ a.block ≠ ge ∧ a.block ≠ gp := fun a ha => by
    have := hB a ha
    have := hg7.2.2
    have := hp7.2.2
    exact ⟨by omega, by omega, by omega⟩
   have s10 := s9.ob (c := d) hlt hE hBB
   have k10 : Only [] w4 (w9.setCell ⟨gp, y, none⟩ (.slice B (objL σ y).length d)) := (k8.trans k9).setCell (.inr (by have := hgp.out; show w4.heap.size ≤ gp; omega)) _
   clear hob cv fv s7 s8 s9 sx
   go_wp2_with fail
   go_roundw
   case rel => exact ⟨y + 1, by omega, by go_num, s10, k10⟩
   case measure => simp [intOf]; omega
  obtain rfl : y = 4 := by omega
  go_wp2_with fail
  exact hK.out _ _ _ _ _ _ _ _ _ _ _ _ _ _ _ wr sx kx
end Go.Proofs.YtmelaiefbpdifaaGreatDoor.Srv
