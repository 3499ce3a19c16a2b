/- DserverFenced: what a packet did to the files. -/
import Derived.Test.YtmelaiefbpdifaaGreatDoorGFs13
namespace Go.Proofs.YtmelaiefbpdifaaGreatDoor.Srv
open Go.RowKit Go.Maps
open Pgs (Pg pgE errB okBytes bytesL)
set_option linter.unusedVariables false
set_option maxRecDepth 100000 in
set_option maxHeartbeats 8000000 in
theorem fenced_check (s : Code) (hs : s = fCheck) (w : World) {w1 w4 : World} {l : List Ac} {R' : List Nat} {k sb dp cc b q qo qr ge gp : Nat} {σ σ' : Sv} {P' : List Rw → Prop} {p r : Pk} {ok : Bool} {xk xn xkeep : Int} (hσ10 : SrvQ false w1 w R' sb dp σ' cc b P') (lk10 : Look w4 w ge gp σ 4 4) (b10 : Blk w q 55 (acE ⟨xk, xn, xkeep, p⟩).toArray) (bo10 : Blk w qo 51 (opL p).toArray) (br : Blk w qr 53 (pkA r)) (hsaw : Saw l k σ σ' p r ok)
  {u0 u1 u2 u3 u5 u6 u10 u11 u12 u13 u18 u19 u20 u21 u22 u23 u24 u25 u26 u27 u28 u29 u30 u31 u32 u33 u34 u35 u36 u37 u38 u39 u40 u41 u42 u43 u44 u45 u46 u47 u48 u49 u50 u51 u52 u53 u54 u55 u56 u57 u58 u59 u60 u61 u62 u63 u64 u65 u66 u67 u68 u69 u70 u71 u72 u73 u74 u75 u76 u77 u78 u79 u80 u81 u82 u83 u84 u85 u86 u87 u88 u89 u90 u91 u92 u93 u94 u95 u96 u97 u98 u99 u100 u101 u102 u103 u104 u105 u106 u107 u108 u109 u110 u111 u112 u113 u114 u115 u116 u117 u118 u119 u120 u121 u122 u123 u124 u125 u126 u127 u128 u129 u130 u131 u132 u133 u134 u135 u136 u137 u138 u139 u140 u141 u142 u143 u144 u145 u146 u147 u148 u149 u150 u151 u152 u153 u154 u155 u156 u157 u158 u159 u160 u161 u162 u163 u164 u165 u166 u167 u168 u169 u170 u171 u172 u173 u174 u175 u176 u177 u178 u179 u180 u181 u182 u183 u184 u185 u186 u187 u188 u189 u190 u191 u192 u193 u194 u195 u196 u197 u198 u199 u200 u201 u202 u203 u204 u205 u206 u207 u208 u209 u210 u211 u212 u213 u214 u215 u216 u217 u218 u219 u220 u221 u222 u223 u224 u225 u226 u227 u228 u229 u230 u231 u232 u233 u234 u235 u236 u237 u238 u239 u240 u241 u242 u243 u244 u245 u246 u247 u248 u249 u250 u251 u252 u253 u254 u255 u256 u257 u258 u259 u260 u261 u262 u263 u264 u265 u266 u267 u268 u269 u270 u271 u272 u273 u274 u275 u276 u277 u278 u279 u280 u281 u282 u283 u284 u285 u286 u287 u288 u289 u290 : Value} (K : Act → World → Prop) (Q0 : Exit → Act → World → Prop) (hpan : ∀ c a d v w, Q0 (.panic c) (a.put d v) w → Q0 (.panic c) a w)
  (hK : ∀ (x2 x17 x18 x19 x120 x121 x122 x123 x124 x125 x126 x127 x128 x129 x130 x131 x132 x133 x134 x135 x136 x137 x138 x139 x140 x141 x142 x143 x144 x145 x146 x147 x148 x149 x150 x151 x152 x153 x154 x155 x156 x157 x158 x159 x160 x161 x162 x163 x164 x165 x166 x167 x168 x169 x170 x171 x172 x173 x174 x175 x176 x177 x178 x179 x180 x181 x182 x183 x184 x185 x186 x187 x188 x189 x190 x191 x192 x193 x194 x195 x196 x197 x198 x199 x200 x201 x202 x203 x204 x205 x206 x207 x208 x209 x210 x211 x212 x213 x214 x215 x216 x217 x218 x219 x220 : Value) (w' : World), Only [] w w' → K ⟨#[u0, u1, x2, u3, .pointer (some ⟨sb, 0, none⟩), u5, u6, .pointer (some ⟨q, 0, none⟩), .pointer (some ⟨ge, 0, none⟩), .pointer (some ⟨gp, 0, none⟩), u10, u11, u12, u13, .pointer (some ⟨qo, 0, none⟩), .pointer (some ⟨qr, 0, none⟩), .bool ok, x17, x18, x19, u20, u21, u22, u23, u24, u25, u26, u27, u28, u29, u30, u31, u32, u33, u34, u35, u36, u37, u38, u39, u40, u41, u42, u43, u44, u45, u46, u47, u48, u49, u50, u51, u52, u53, u54, u55, u56, u57, u58, u59, u60, u61, u62, u63, u64, u65, u66, u67, u68, u69, u70, u71, u72, u73, u74, u75, u76, u77, u78, u79, u80, u81, u82, u83, u84, u85, u86, u87, u88, u89, u90, u91, u92, u93, u94, u95, u96, u97, u98, u99, u100, u101, u102, u103, u104, u105, u106, u107, u108, u109, u110, u111, u112, u113, u114, u115, u116, u117, u118, u119, x120, x121, x122, x123, x124, x125, x126, x127, x128, x129, x130, x131, x132, x133, x134, x135, x136, x137, x138, x139, x140, x141, x142, x143, x144, x145, x146, x147, x148, x149, x150, x151, x152, x153, x154, x155, x156, x157, x158, x159, x160, x161, x162, x163, x164, x165, x166, x167, x168, x169, x170, x171, x172, x173, x174, x175, x176, x177, x178, x179, x180, x181, x182, x183, x184, x185, x186, x187, x188, x189, x190, x191, x192, x193, x194, x195, x196, x197, x198, x199, x200, x201, x202, x203, x204, x205, x206, x207, x208, x209, x210, x211, x212, x213, x214, x215, x216, x217, x218, x219, x220, u221, u222, u223, u224, u225, u226, u227, u228, u229, u230, u231, u232, u233, u234, u235, u236, u237, u238, u239, u240, u241, u242, u243, u244, u245, u246, u247, u248, u249, u250, u251, u252, u253, u254, u255, u256, u257, u258, u259, u260, u261, u262, u263, u264, u265, u266, u267, u268, u269, u270, u271, u272, u273, u274, u275, u276, u277, u278, u279, u280, u281, u282, u283, u284, u285, u286, u287, u288, u289, u290], []⟩ w') :
  Code.wp Tryz.prog s (Exit.then K Q0) ⟨#[u0, u1, u2, u3, .pointer (some ⟨sb, 0, none⟩), u5, u6, .pointer (some ⟨q, 0, none⟩), .pointer (some ⟨ge, 0, none⟩), .pointer (some ⟨gp, 0, none⟩), u10, u11, u12, u13, .pointer (some ⟨qo, 0, none⟩), .pointer (some ⟨qr, 0, none⟩), .bool ok, .int .u32 0, u18, u19, u20, u21, u22, u23, u24, u25, u26, u27, u28, u29, u30, u31, u32, u33, u34, u35, u36, u37, u38, u39, u40, u41, u42, u43, u44, u45, u46, u47, u48, u49, u50, u51, u52, u53, u54, u55, u56, u57, u58, u59, u60, u61, u62, u63, u64, u65, u66, u67, u68, u69, u70, u71, u72, u73, u74, u75, u76, u77, u78, u79, u80, u81, u82, u83, u84, u85, u86, u87, u88, u89, u90, u91, u92, u93, u94, u95, u96, u97, u98, u99, u100, u101, u102, u103, u104, u105, u106, u107, u108, u109, u110, u111, u112, u113, u114, u115, u116, u117, u118, u119, u120, u121, u122, u123, u124, u125, u126, u127, u128, u129, u130, u131, u132, u133, u134, u135, u136, u137, u138, u139, u140, u141, u142, u143, u144, u145, u146, u147, u148, u149, u150, u151, u152, u153, u154, u155, u156, u157, u158, u159, u160, u161, u162, u163, u164, u165, u166, u167, u168, u169, u170, u171, u172, u173, u174, u175, u176, u177, u178, u179, u180, u181, u182, u183, u184, u185, u186, u187, u188, u189, u190, u191, u192, u193, u194, u195, u196, u197, u198, u199, u200, u201, u202, u203, u204, u205, u206, u207, u208, u209, u210, u211, u212, u213, u214, u215, u216, u217, u218, u219, u220, u221, u222, u223, u224, u225, u226, u227, u228, u229, u230, u231, u232, u233, u234, u235, u236, u237, u238, u239, u240, u241, u242, u243, u244, u245, u246, u247, u248, u249, u250, u251, u252, u253, u254, u255, u256, u257, u258, u259, u260, u261, u262, u263, u264, u265, u266, u267, u268, u269, u270, u271, u272, u273, u274, u275, u276, u277, u278, u279, u280, u281, u282, u283, u284, u285, u286, u287, u288, u289, u290], []⟩ w := by
 subst hs
 conv => arg 2; whnf
 replace hK := Lib.hid hK
 replace hsaw := Lib.hid hsaw
 go_wp2_with fail
 go_loopw [17] (fun i wx => ∃ y : Nat, y ≤ 4 ∧ i = .int .u32 y ∧ Only [] w wx) (fun i _ => 4 - (intOf i).toNat)
 case atStart => exact ⟨0, by omega, rfl, Only.refl [] _⟩
 case round =>
    obtain ⟨y, hy, rfl, kx⟩ := hrel
    by_cases hlt : y < 4
    case neg =>
     obtain rfl : y = 4 := by omega
     go_wp2_with fail
     exact hK.out _ _ _ _ _ _ _ _ _ _ _ _ _ _ _ _ _ _ _ _ _ _ _ _ _ _ _ _ _ _ _ _ _ _ _ _ _ _ _ _ _ _ _ _ _ _ _ _ _ _ _ _ _ _ _ _ _ _ _ _ _ _ _ _ _ _ _ _ _ _ _ _ _ _ _ _ _ _ _ _ _ _ _ _ _ _ _ _ _ _ _ _ _ _ _ _ _ _ _ _ _ _ _ _ _ wr kx
    have f_code : wr.cell? ⟨qo, 0, none⟩ = some (.int .i64 p.code) := ((bo10.kept kx (by simp)).cell 0).trans rfl
    have f_file : wr.cell? ⟨qo, 2, none⟩ = some (.int .u32 p.file) := ((bo10.kept kx (by simp)).cell 2).trans rfl
    have f_ep : wr.cell? ⟨qo, 3, none⟩ = some (.int .u32 p.epoch) := ((bo10.kept kx (by simp)).cell 3).trans rfl
    have f_err : wr.cell? ⟨qr, 8, none⟩ = some (.int .i64 r.err) := ((br.kept kx (by simp)).cell 8).trans rfl
    have f_frm : wr.cell? ⟨q, 4, none⟩ = some (.int .i64 p.frm) := ((b10.kept kx (by simp)).cell 4).trans rfl
    have lkx := lk10.keep kx
    have s9 := hσ10.keep kx
    have hE := lkx.readE (k := y) hlt
    obtain ⟨B, d, hO, hB⟩ := lkx.readO (k := y) hlt
    have he := fun W (kk : Only [] wr W) => (s9.keep kk).epoch (y : Int) (by unfold U; omega)
    simp only [Int.toNat_natCast] at he
    have ho := fun W (kk : Only [] wr W) => (s9.keep kk).object (y : Int) y rfl (by omega)
    have hl1 := Pgs.right_len (obj_right s9.ok y)
    have hep := hsaw.out.ep y (by omega)
    have hob := hsaw.out.ob y (by omega)
    have hep2 : (epN σ'.M y : Int) = (epN σ.M y : Int) ∨ (ok = true ∧ (y : Int) = p.file ∧ r.err = 0 ∧ ((p.code = 4 ∧ p.frm = 0 ∧ p.epoch = (epN σ'.M y : Int) ∧ (epN σ.M y : Int) < (epN σ'.M y : Int)) ∨ (p.code = 5 ∧ (epN σ'.M y : Int) = 0))) := by
     rcases hep with h | ⟨h1, h2, h3, h4 | h4⟩
     ·exact .inl (by rw [h])
     ·exact .inr ⟨h1, h2, h3, .inl ⟨h4.1, h4.2.1, h4.2.2.1, by have := h4.2.2.2; omega⟩⟩
     ·exact .inr ⟨h1, h2, h3, .inr ⟨h4.1, by have := h4.2; omega⟩⟩
    have hlow : 0 ≤ (epN σ.M y : Int) := by omega
    clear hep s9 lkx
    generalize (epN σ'.M y : Int) = e1 at *
    generalize (epN σ.M y : Int) = e0 at *
    generalize objL σ' y = o1 at *
    generalize objL σ y = o0 at *
    have hsame := fun W C dC (hC : Els pgE 2 W C o1) (kk : Only [] wr W) => same_says W C B dC d o1 o0 hC (hB.kept kk (by simp)) hl1
    replace he := Lib.hid he
    replace ho := Lib.hid ho
    replace hsame := Lib.hid hsame
    replace hep2 := Lib.hid hep2
    replace hob := Lib.hid hob
    replace hlow := Lib.hid hlow
    go_upto_region 35 with fail
    go_cut [18] from 120 to 220 (fun s wx => s = .bool (decide (ok = true ∧ (y : Int) = p.file ∧ r.err = 0)) ∧ Only [] wr wx)
    case first =>
     cases ok with
     | false =>
      go_wp2_with fail
      go_meet
      exact ⟨by simp, Only.refl [] _⟩
     | true =>
      by_cases hf : (y : Int) = p.file
      case neg =>
       have hf' : ((y : Int) == p.file) = false := by rw [beq_eq_false_iff_ne]; exact hf
       go_wp2_with fail
       go_meet
       exact ⟨congrArg Value.bool (decide_eq_false fun h => hf h.2.1).symm, Only.refl [] _⟩
      have hf' : ((y : Int) == p.file) = true := by rw [beq_iff_eq]; exact hf
      replace hf := Lib.hid hf
      by_cases hz : r.err = 0
      ·have hz' : (r.err == 0) = true := by rw [beq_iff_eq]; exact hz
       replace hz := Lib.hid hz
       go_wp2_with fail
       go_meet
       exact ⟨congrArg Value.bool (decide_eq_true ⟨by simp, hf.out, hz.out⟩).symm, Only.refl [] _⟩
      ·have hz' : (r.err == 0) = false := by rw [beq_eq_false_iff_ne]; exact hz
       go_wp2_with fail
       go_meet
       exact ⟨congrArg Value.bool (decide_eq_false fun h => hz h.2.2).symm, Only.refl [] _⟩
    case rest =>
     obtain ⟨rfl, kw1⟩ := hcut
     generalize wc = wA at *
     have hepm : e1 = e0 ∨ (decide (ok = true ∧ (y : Int) = p.file ∧ r.err = 0) = true ∧ ((p.code = 4 ∧ p.frm = 0 ∧ p.epoch = e1 ∧ e0 < e1) ∨ (p.code = 5 ∧ e1 = 0))) := by
      rcases hep2.out with h | ⟨h1, h2, h3, h4⟩
      ·exact .inl h
      ·exact .inr ⟨decide_eq_true ⟨h1, h2, h3⟩, h4⟩
     have hobm : o1 = o0 ∨ (decide (ok = true ∧ (y : Int) = p.file ∧ r.err = 0) = true ∧ (p.code = 4 ∨ p.code = 5 ∨ (p.code = 1 ∧ p.epoch = e0))) := by
      rcases hob.out with h | ⟨h1, h2, h3, h4⟩
      ·exact .inl h
      ·exact .inr ⟨decide_eq_true ⟨h1, h2, h3⟩, h4⟩
     clear hep2 hob
     generalize decide (ok = true ∧ (y : Int) = p.file ∧ r.err = 0) = mn at *
     replace hepm := Lib.hid hepm
     replace hobm := Lib.hid hobm
     go_upto_region 36 with fail
     go_cut [19] from 120 to 220 (fun s wx => ∃ tn : Bool, s = .bool tn ∧ Hid (tn = true → o1 ≠ o0) ∧ Only [] wr wx)
     case first =>
      go_wp2_with fail
      have kz13 : Only [] wr wA.drew := kw1.drew
      have fz13_0 : wA.drew.cell? ⟨ge, y, none⟩ = some (.int .u32 e0) := kz13.cell hE (by simp)
      have fz13_1 : wA.drew.cell? ⟨gp, y, none⟩ = some (.slice B o0.length d) := kz13.cell hO (by simp)
      refine wp_region_held_drew (S := fun w' => w'.cell? ⟨ge, y, none⟩ = some (.int .u32 e0) ∧ w'.cell? ⟨gp, y, none⟩ = some (.slice B o0.length d)) (by kernel_rfl) ⟨fz13_0, fz13_1⟩ (fun hHeld => ?_)
      generalize wA.drew = wz13 at *
      as_aux_lemma =>
       refine sgS [0, 1, 3, 4, 5] (by kernel_rfl) (fun hseg => ?_)
       refine sgT (.pointer (some ⟨sb, 0, none⟩)) hseg hHeld (fun hseg => ?_) (hy := Or.inl ⟨by rfl, fun w' hSw => by go_simp⟩); simp only [rwA]
       refine sgT (.int .u32 (y : Int)) hseg hHeld (fun hseg => ?_) (hy := Or.inl ⟨by rfl, fun w' hSw => by go_simp⟩); simp only [rwA]
       refine sgT (.int .u32 (y : Int)) hseg hHeld (fun hseg => ?_) (hy := Or.inl ⟨by rfl, fun w' hSw => by go_simp⟩); simp only [rwA]
       refine sgT (.pointer (some ⟨gp, y, none⟩)) hseg hHeld (fun hseg => ?_) (hy := Or.inl ⟨by rfl, fun w' hSw => by go_simp⟩); simp only [rwA]
       refine sgT (.slice B o0.length d) hseg hHeld (fun hseg => ?_) (hy := Or.inl ⟨by rfl, fun w' hSw => by obtain ⟨_, hc⟩ := hSw; go_simp⟩); simp only [rwA]
       refine held_step 2 rfl (by kernel_rfl) (fun K hK => ?_)
       go_simp
       refine (ho.out _ kz13).mono ?_; rintro e vc11 ⟨v, rfl, C, dC, rfl, _, hC, kc11, _⟩
       have qc11 := kz13.trans kc11
       go_wp2_with fail
       refine hK.out _ _ ⟨qc11.cell hE (by simp), qc11.cell hO (by simp)⟩ (fun hHeld => ?_)
       clear hK K
       refine held_step 6 rfl (by kernel_rfl) (fun K hK => ?_)
       go_simp
       refine (hsame.out _ C dC hC qc11).mono ?_; rintro e vc12 ⟨tb, rfl, htb, kc12⟩
       have qc12 := qc11.trans kc12
       go_wp2_with fail
       refine hK.out _ _ ⟨qc12.cell hE (by simp), qc12.cell hO (by simp)⟩ (fun hHeld => ?_)
       clear hK K
       refine sgS [7, 8] (by kernel_rfl) (fun hseg => ?_)
       refine sgT (.bool (!tb)) hseg hHeld (fun hseg => ?_) (hy := Or.inl ⟨by rfl, fun w' hSw => by go_simp⟩); simp only [rwA]
       refine sgT (.bool (!tb)) hseg hHeld (fun hseg => ?_) (hy := Or.inl ⟨by rfl, fun w' hSw => by go_simp⟩); simp only [rwA]
       refine wpAnyH_done (by kernel_rfl) ?_ _
       clear hHeld
       go_wp2_with fail
       go_meet
       exact ⟨!tb, rfl, Lib.hid (fun h e => (by rw [htb.2 e] at h; cases h)), qc12⟩
     case rest =>
      obtain ⟨tn, rfl, htn, kw2⟩ := hcut
      generalize wc = wB at *
      have hobt : tn = true → mn = true ∧ (p.code = 4 ∨ p.code = 5 ∨ (p.code = 1 ∧ p.epoch = e0)) := fun h => (hobm.out).resolve_left (htn.out h)
      replace hobt := Lib.hid hobt
      clear hobm htn kw1
      go_upto_region 37 with fail
      go_cut [190] from 120 to 220 (fun s wx => s = .bool false ∧ Only [] wr wx)
      case first =>
       go_wp2_with fail
       have kz14 : Only [] wr wB.drew := kw2.drew
       have fz14_0 : wB.drew.cell? ⟨ge, y, none⟩ = some (.int .u32 e0) := kz14.cell hE (by simp)
       have fz14_1 : wB.drew.cell? ⟨qo, 0, none⟩ = some (.int .i64 p.code) := kz14.cell f_code (by simp)
       have fz14_2 : wB.drew.cell? ⟨qo, 3, none⟩ = some (.int .u32 p.epoch) := kz14.cell f_ep (by simp)
       refine wp_region_held_drew (S := fun w' => w'.cell? ⟨ge, y, none⟩ = some (.int .u32 e0) ∧ w'.cell? ⟨qo, 0, none⟩ = some (.int .i64 p.code) ∧ w'.cell? ⟨qo, 3, none⟩ = some (.int .u32 p.epoch)) (by kernel_rfl) ⟨fz14_0, fz14_1, fz14_2⟩ (fun hHeld => ?_)
       generalize wB.drew = wz14 at *
       refine sgS [0, 1, 3, 4, 5] (by kernel_rfl) (fun hseg => ?_)
       refine sgT (.pointer (some ⟨sb, 0, none⟩)) hseg hHeld (fun hseg => ?_) (hy := Or.inl ⟨by rfl, fun w' hSw => by go_simp⟩); simp only [rwA]
       refine sgT (.int .u32 (y : Int)) hseg hHeld (fun hseg => ?_) (hy := Or.inl ⟨by rfl, fun w' hSw => by go_simp⟩); simp only [rwA]
       refine sgT (.int .u32 (y : Int)) hseg hHeld (fun hseg => ?_) (hy := Or.inl ⟨by rfl, fun w' hSw => by go_simp⟩); simp only [rwA]
       refine sgT (.pointer (some ⟨ge, y, none⟩)) hseg hHeld (fun hseg => ?_) (hy := Or.inl ⟨by rfl, fun w' hSw => by go_simp⟩); simp only [rwA]
       refine sgT (.int .u32 e0) hseg hHeld (fun hseg => ?_) (hy := Or.inl ⟨by rfl, fun w' hSw => by obtain ⟨hc, _, _⟩ := hSw; go_simp⟩); simp only [rwA]
       refine held_step 2 rfl (by kernel_rfl) (fun K hK => ?_)
       go_simp
       refine (he.out _ kz14).mono ?_; rintro e vc15 ⟨rfl, kc15⟩
       have qc15 := kz14.trans kc15
       go_wp2_with fail
       refine hK.out _ _ ⟨qc15.cell hE (by simp), qc15.cell f_code (by simp), qc15.cell f_ep (by simp)⟩ (fun hHeld => ?_)
       clear hK K
       refine sgS [6, 7, 8, 9, 10, 11, 12, 13, 14, 15, 16, 17, 18, 19, 20, 21, 22, 23, 24, 25, 26, 27, 28, 29, 30, 31, 32, 33, 34, 35, 36, 37, 38, 39, 40, 41, 42, 43, 44, 45] (by kernel_rfl) (fun hseg => ?_)
       by_cases hlow1 : e1 < e0
       ·have dl : decide (e1 < e0) = true := by simpa using hlow1
        obtain ⟨rfl, hc5⟩ : mn = true ∧ p.code = 5 := by
         rcases hepm.out with h | ⟨h0, h | h⟩
         ·omega
         ·exact absurd hlow1 (by omega)
         ·exact ⟨h0, h.1⟩
        have n5 : (p.code != 5) = false := by rw [hc5]; rfl
        have i1 : (p.code == 1) = false := by rw [hc5]; rfl
        have i2 : (p.code == 2) = false := by rw [hc5]; rfl
        have i3 : (p.code == 3) = false := by rw [hc5]; rfl
        replace hc5 := Lib.hid hc5
        replace hlow1 := Lib.hid hlow1
        cases tn with
        | false =>
         as_aux_lemma =>
          refine sgT (.bool true) hseg hHeld (fun hseg => ?_) (hy := Or.inl ⟨by rfl, fun w' hSw => by go_simp⟩); simp only [rwA]
          refine sgT (.bool true) hseg hHeld (fun hseg => ?_) (hy := Or.inl ⟨by rfl, fun w' hSw => by go_simp⟩); simp only [rwA]
          refine sgT (.bool true) hseg hHeld (fun hseg => ?_) (hy := Or.inl ⟨by rfl, fun w' hSw => by go_simp⟩); simp only [rwA]
          refine sgT (.bool false) hseg hHeld (fun hseg => ?_) (hy := Or.inl ⟨by rfl, fun w' hSw => by go_simp⟩); simp only [rwA]
          refine sgT (.bool false) hseg hHeld (fun hseg => ?_) (hy := Or.inl ⟨by rfl, fun w' hSw => by go_simp⟩); simp only [rwA]
          refine sgT (.pointer (some ⟨qo, 0, none⟩)) hseg hHeld (fun hseg => ?_) (hy := Or.inl ⟨by rfl, fun w' hSw => by go_simp⟩); simp only [rwA]
          refine sgT (.int .i64 p.code) hseg hHeld (fun hseg => ?_) (hy := Or.inl ⟨by rfl, fun w' hSw => by obtain ⟨_, hc, _⟩ := hSw; go_simp⟩); simp only [rwA]
          refine sgT (.bool false) hseg hHeld (fun hseg => ?_) (hy := Or.inl ⟨by rfl, fun w' hSw => by go_simp⟩); simp only [rwA]
          refine sgT (.bool false) hseg hHeld (fun hseg => ?_) (hy := Or.inl ⟨by rfl, fun w' hSw => by go_simp⟩); simp only [rwA]
          refine sgT (.bool false) hseg hHeld (fun hseg => ?_) (hy := Or.inl ⟨by rfl, fun w' hSw => by go_simp⟩); simp only [rwA]
          refine sgT (.bool false) hseg hHeld (fun hseg => ?_) (hy := Or.inl ⟨by rfl, fun w' hSw => by go_simp⟩); simp only [rwA]
          refine sgT (.bool false) hseg hHeld (fun hseg => ?_) (hy := Or.inl ⟨by rfl, fun w' hSw => by go_simp⟩); simp only [rwA]
          refine sgT (.bool false) hseg hHeld (fun hseg => ?_) (hy := Or.inl ⟨by rfl, fun w' hSw => by go_simp⟩); simp only [rwA]
          refine sgU hseg hHeld (fun hseg => ?_); simp only [rwA]
          refine sgU hseg hHeld (fun hseg => ?_); simp only [rwA]
          refine sgU hseg hHeld (fun hseg => ?_); simp only [rwA]
          refine sgU hseg hHeld (fun hseg => ?_); simp only [rwA]
          refine sgU hseg hHeld (fun hseg => ?_); simp only [rwA]
          refine sgU hseg hHeld (fun hseg => ?_); simp only [rwA]
          refine sgU hseg hHeld (fun hseg => ?_); simp only [rwA]
          refine sgU hseg hHeld (fun hseg => ?_); simp only [rwA]
          refine sgU hseg hHeld (fun hseg => ?_); simp only [rwA]
          refine sgU hseg hHeld (fun hseg => ?_); simp only [rwA]
          refine sgU hseg hHeld (fun hseg => ?_); simp only [rwA]
          refine sgU hseg hHeld (fun hseg => ?_); simp only [rwA]
          refine sgU hseg hHeld (fun hseg => ?_); simp only [rwA]
          refine sgU hseg hHeld (fun hseg => ?_); simp only [rwA]
          refine sgU hseg hHeld (fun hseg => ?_); simp only [rwA]
          refine sgU hseg hHeld (fun hseg => ?_); simp only [rwA]
          refine sgU hseg hHeld (fun hseg => ?_); simp only [rwA]
          refine sgU hseg hHeld (fun hseg => ?_); simp only [rwA]
          refine sgU hseg hHeld (fun hseg => ?_); simp only [rwA]
          refine sgU hseg hHeld (fun hseg => ?_); simp only [rwA]
          refine sgU hseg hHeld (fun hseg => ?_); simp only [rwA]
          refine sgU hseg hHeld (fun hseg => ?_); simp only [rwA]
          refine sgU hseg hHeld (fun hseg => ?_); simp only [rwA]
          refine sgU hseg hHeld (fun hseg => ?_); simp only [rwA]
          refine sgU hseg hHeld (fun hseg => ?_); simp only [rwA]
          refine sgT (.bool false) hseg hHeld (fun hseg => ?_) (hy := Or.inl ⟨by rfl, fun w' hSw => by go_simp⟩); simp only [rwA]
          refine sgT (.bool false) hseg hHeld (fun hseg => ?_) (hy := Or.inl ⟨by rfl, fun w' hSw => by go_simp⟩); simp only [rwA]
          refine wpAnyH_done (by kernel_rfl) ?_ _
          clear hHeld
          go_wp2_with fail
          go_meet
          exact ⟨rfl, qc15⟩
        | true =>
         as_aux_lemma =>
          refine sgT (.bool true) hseg hHeld (fun hseg => ?_) (hy := Or.inl ⟨by rfl, fun w' hSw => by go_simp⟩); simp only [rwA]
          refine sgT (.bool true) hseg hHeld (fun hseg => ?_) (hy := Or.inl ⟨by rfl, fun w' hSw => by go_simp⟩); simp only [rwA]
          refine sgT (.bool true) hseg hHeld (fun hseg => ?_) (hy := Or.inl ⟨by rfl, fun w' hSw => by go_simp⟩); simp only [rwA]
          refine sgT (.bool false) hseg hHeld (fun hseg => ?_) (hy := Or.inl ⟨by rfl, fun w' hSw => by go_simp⟩); simp only [rwA]
          refine sgT (.bool false) hseg hHeld (fun hseg => ?_) (hy := Or.inl ⟨by rfl, fun w' hSw => by go_simp⟩); simp only [rwA]
          refine sgT (.pointer (some ⟨qo, 0, none⟩)) hseg hHeld (fun hseg => ?_) (hy := Or.inl ⟨by rfl, fun w' hSw => by go_simp⟩); simp only [rwA]
          refine sgT (.int .i64 p.code) hseg hHeld (fun hseg => ?_) (hy := Or.inl ⟨by rfl, fun w' hSw => by obtain ⟨_, hc, _⟩ := hSw; go_simp⟩); simp only [rwA]
          refine sgT (.bool false) hseg hHeld (fun hseg => ?_) (hy := Or.inl ⟨by rfl, fun w' hSw => by go_simp⟩); simp only [rwA]
          refine sgT (.bool false) hseg hHeld (fun hseg => ?_) (hy := Or.inl ⟨by rfl, fun w' hSw => by go_simp⟩); simp only [rwA]
          refine sgT (.bool false) hseg hHeld (fun hseg => ?_) (hy := Or.inl ⟨by rfl, fun w' hSw => by go_simp⟩); simp only [rwA]
          refine sgT (.bool false) hseg hHeld (fun hseg => ?_) (hy := Or.inl ⟨by rfl, fun w' hSw => by go_simp⟩); simp only [rwA]
          refine sgT (.bool true) hseg hHeld (fun hseg => ?_) (hy := Or.inl ⟨by rfl, fun w' hSw => by go_simp⟩); simp only [rwA]
          refine sgT (.bool true) hseg hHeld (fun hseg => ?_) (hy := Or.inl ⟨by rfl, fun w' hSw => by go_simp⟩); simp only [rwA]
          refine sgT (.bool true) hseg hHeld (fun hseg => ?_) (hy := Or.inl ⟨by rfl, fun w' hSw => by go_simp⟩); simp only [rwA]
          refine sgT (.bool false) hseg hHeld (fun hseg => ?_) (hy := Or.inl ⟨by rfl, fun w' hSw => by go_simp⟩); simp only [rwA]
          refine sgT (.bool false) hseg hHeld (fun hseg => ?_) (hy := Or.inl ⟨by rfl, fun w' hSw => by go_simp⟩); simp only [rwA]
          refine sgT (.pointer (some ⟨qo, 0, none⟩)) hseg hHeld (fun hseg => ?_) (hy := Or.inl ⟨by rfl, fun w' hSw => by go_simp⟩); simp only [rwA]
          refine sgT (.int .i64 p.code) hseg hHeld (fun hseg => ?_) (hy := Or.inl ⟨by rfl, fun w' hSw => by obtain ⟨_, hc, _⟩ := hSw; go_simp⟩); simp only [rwA]
          refine sgT (.bool false) hseg hHeld (fun hseg => ?_) (hy := Or.inl ⟨by rfl, fun w' hSw => by go_simp⟩); simp only [rwA]
          refine sgT (.bool false) hseg hHeld (fun hseg => ?_) (hy := Or.inl ⟨by rfl, fun w' hSw => by go_simp⟩); simp only [rwA]
          refine sgU hseg hHeld (fun hseg => ?_); simp only [rwA]
          refine sgU hseg hHeld (fun hseg => ?_); simp only [rwA]
          refine sgU hseg hHeld (fun hseg => ?_); simp only [rwA]
          refine sgU hseg hHeld (fun hseg => ?_); simp only [rwA]
          refine sgU hseg hHeld (fun hseg => ?_); simp only [rwA]
          refine sgU hseg hHeld (fun hseg => ?_); simp only [rwA]
          refine sgT (.bool false) hseg hHeld (fun hseg => ?_) (hy := Or.inl ⟨by rfl, fun w' hSw => by go_simp⟩); simp only [rwA]
          refine sgT (.bool false) hseg hHeld (fun hseg => ?_) (hy := Or.inl ⟨by rfl, fun w' hSw => by go_simp⟩); simp only [rwA]
          refine sgT (.bool false) hseg hHeld (fun hseg => ?_) (hy := Or.inl ⟨by rfl, fun w' hSw => by go_simp⟩); simp only [rwA]
          refine sgT (.pointer (some ⟨qo, 0, none⟩)) hseg hHeld (fun hseg => ?_) (hy := Or.inl ⟨by rfl, fun w' hSw => by go_simp⟩); simp only [rwA]
          refine sgT (.int .i64 p.code) hseg hHeld (fun hseg => ?_) (hy := Or.inl ⟨by rfl, fun w' hSw => by obtain ⟨_, hc, _⟩ := hSw; go_simp⟩); simp only [rwA]
          refine sgT (.bool false) hseg hHeld (fun hseg => ?_) (hy := Or.inl ⟨by rfl, fun w' hSw => by go_simp⟩); simp only [rwA]
          refine sgT (.bool false) hseg hHeld (fun hseg => ?_) (hy := Or.inl ⟨by rfl, fun w' hSw => by go_simp⟩); simp only [rwA]
          refine sgT (.bool false) hseg hHeld (fun hseg => ?_) (hy := Or.inl ⟨by rfl, fun w' hSw => by go_simp⟩); simp only [rwA]
          refine sgT (.pointer (some ⟨qo, 0, none⟩)) hseg hHeld (fun hseg => ?_) (hy := Or.inl ⟨by rfl, fun w' hSw => by go_simp⟩); simp only [rwA]
          refine sgT (.int .i64 p.code) hseg hHeld (fun hseg => ?_) (hy := Or.inl ⟨by rfl, fun w' hSw => by obtain ⟨_, hc, _⟩ := hSw; go_simp⟩); simp only [rwA]
          refine sgT (.bool false) hseg hHeld (fun hseg => ?_) (hy := Or.inl ⟨by rfl, fun w' hSw => by go_simp⟩); simp only [rwA]
          refine sgT (.bool false) hseg hHeld (fun hseg => ?_) (hy := Or.inl ⟨by rfl, fun w' hSw => by go_simp⟩); simp only [rwA]
          refine sgT (.bool false) hseg hHeld (fun hseg => ?_) (hy := Or.inl ⟨by rfl, fun w' hSw => by go_simp⟩); simp only [rwA]
          refine sgT (.bool false) hseg hHeld (fun hseg => ?_) (hy := Or.inl ⟨by rfl, fun w' hSw => by go_simp⟩); simp only [rwA]
          refine wpAnyH_done (by kernel_rfl) ?_ _
          clear hHeld
          go_wp2_with fail
          go_meet
          exact ⟨rfl, qc15⟩
       ·have dl : decide (e1 < e0) = false := by simpa using hlow1
        replace hlow1 := Lib.hid hlow1
        cases tn with
        | false =>
         as_aux_lemma =>
          refine sgT (.bool false) hseg hHeld (fun hseg => ?_) (hy := Or.inl ⟨by rfl, fun w' hSw => by go_simp⟩); simp only [rwA]
          refine sgT (.bool false) hseg hHeld (fun hseg => ?_) (hy := Or.inl ⟨by rfl, fun w' hSw => by go_simp⟩); simp only [rwA]
          refine sgU hseg hHeld (fun hseg => ?_); simp only [rwA]
          refine sgU hseg hHeld (fun hseg => ?_); simp only [rwA]
          refine sgU hseg hHeld (fun hseg => ?_); simp only [rwA]
          refine sgU hseg hHeld (fun hseg => ?_); simp only [rwA]
          refine sgU hseg hHeld (fun hseg => ?_); simp only [rwA]
          refine sgU hseg hHeld (fun hseg => ?_); simp only [rwA]
          refine sgU hseg hHeld (fun hseg => ?_); simp only [rwA]
          refine sgT (.bool false) hseg hHeld (fun hseg => ?_) (hy := Or.inl ⟨by rfl, fun w' hSw => by go_simp⟩); simp only [rwA]
          refine sgT (.bool false) hseg hHeld (fun hseg => ?_) (hy := Or.inl ⟨by rfl, fun w' hSw => by go_simp⟩); simp only [rwA]
          refine sgT (.bool false) hseg hHeld (fun hseg => ?_) (hy := Or.inl ⟨by rfl, fun w' hSw => by go_simp⟩); simp only [rwA]
          refine sgT (.bool false) hseg hHeld (fun hseg => ?_) (hy := Or.inl ⟨by rfl, fun w' hSw => by go_simp⟩); simp only [rwA]
          refine sgU hseg hHeld (fun hseg => ?_); simp only [rwA]
          refine sgU hseg hHeld (fun hseg => ?_); simp only [rwA]
          refine sgU hseg hHeld (fun hseg => ?_); simp only [rwA]
          refine sgU hseg hHeld (fun hseg => ?_); simp only [rwA]
          refine sgU hseg hHeld (fun hseg => ?_); simp only [rwA]
          refine sgU hseg hHeld (fun hseg => ?_); simp only [rwA]
          refine sgU hseg hHeld (fun hseg => ?_); simp only [rwA]
          refine sgU hseg hHeld (fun hseg => ?_); simp only [rwA]
          refine sgU hseg hHeld (fun hseg => ?_); simp only [rwA]
          refine sgU hseg hHeld (fun hseg => ?_); simp only [rwA]
          refine sgU hseg hHeld (fun hseg => ?_); simp only [rwA]
          refine sgU hseg hHeld (fun hseg => ?_); simp only [rwA]
          refine sgU hseg hHeld (fun hseg => ?_); simp only [rwA]
          refine sgU hseg hHeld (fun hseg => ?_); simp only [rwA]
          refine sgU hseg hHeld (fun hseg => ?_); simp only [rwA]
          refine sgU hseg hHeld (fun hseg => ?_); simp only [rwA]
          refine sgU hseg hHeld (fun hseg => ?_); simp only [rwA]
          refine sgU hseg hHeld (fun hseg => ?_); simp only [rwA]
          refine sgU hseg hHeld (fun hseg => ?_); simp only [rwA]
          refine sgU hseg hHeld (fun hseg => ?_); simp only [rwA]
          refine sgU hseg hHeld (fun hseg => ?_); simp only [rwA]
          refine sgU hseg hHeld (fun hseg => ?_); simp only [rwA]
          refine sgU hseg hHeld (fun hseg => ?_); simp only [rwA]
          refine sgU hseg hHeld (fun hseg => ?_); simp only [rwA]
          refine sgU hseg hHeld (fun hseg => ?_); simp only [rwA]
          refine sgT (.bool false) hseg hHeld (fun hseg => ?_) (hy := Or.inl ⟨by rfl, fun w' hSw => by go_simp⟩); simp only [rwA]
          refine sgT (.bool false) hseg hHeld (fun hseg => ?_) (hy := Or.inl ⟨by rfl, fun w' hSw => by go_simp⟩); simp only [rwA]
          refine wpAnyH_done (by kernel_rfl) ?_ _
          clear hHeld
          go_wp2_with fail
          go_meet
          exact ⟨rfl, qc15⟩
        | true =>
         obtain ⟨rfl, hcc⟩ := hobt.out rfl
         by_cases hc1 : p.code = 1
         ·have i1 : (p.code == 1) = true := by rw [beq_iff_eq]; exact hc1
          have i2 : (p.code == 2) = false := by rw [hc1]; rfl
          have i3 : (p.code == 3) = false := by rw [hc1]; rfl
          have ie : (p.epoch != e0) = false := by
           rw [bne_eq_false_iff_eq]
           rcases hcc with h | h | h
           ·omega
           ·omega
           ·exact h.2
          replace hc1 := Lib.hid hc1
          replace hcc := Lib.hid hcc
          as_aux_lemma =>
           refine sgT (.bool false) hseg hHeld (fun hseg => ?_) (hy := Or.inl ⟨by rfl, fun w' hSw => by go_simp⟩); simp only [rwA]
           refine sgT (.bool false) hseg hHeld (fun hseg => ?_) (hy := Or.inl ⟨by rfl, fun w' hSw => by go_simp⟩); simp only [rwA]
           refine sgU hseg hHeld (fun hseg => ?_); simp only [rwA]
           refine sgU hseg hHeld (fun hseg => ?_); simp only [rwA]
           refine sgU hseg hHeld (fun hseg => ?_); simp only [rwA]
           refine sgU hseg hHeld (fun hseg => ?_); simp only [rwA]
           refine sgU hseg hHeld (fun hseg => ?_); simp only [rwA]
           refine sgU hseg hHeld (fun hseg => ?_); simp only [rwA]
           refine sgU hseg hHeld (fun hseg => ?_); simp only [rwA]
           refine sgT (.bool false) hseg hHeld (fun hseg => ?_) (hy := Or.inl ⟨by rfl, fun w' hSw => by go_simp⟩); simp only [rwA]
           refine sgT (.bool false) hseg hHeld (fun hseg => ?_) (hy := Or.inl ⟨by rfl, fun w' hSw => by go_simp⟩); simp only [rwA]
           refine sgT (.bool true) hseg hHeld (fun hseg => ?_) (hy := Or.inl ⟨by rfl, fun w' hSw => by go_simp⟩); simp only [rwA]
           refine sgT (.bool true) hseg hHeld (fun hseg => ?_) (hy := Or.inl ⟨by rfl, fun w' hSw => by go_simp⟩); simp only [rwA]
           refine sgT (.bool true) hseg hHeld (fun hseg => ?_) (hy := Or.inl ⟨by rfl, fun w' hSw => by go_simp⟩); simp only [rwA]
           refine sgT (.bool false) hseg hHeld (fun hseg => ?_) (hy := Or.inl ⟨by rfl, fun w' hSw => by go_simp⟩); simp only [rwA]
           refine sgT (.bool false) hseg hHeld (fun hseg => ?_) (hy := Or.inl ⟨by rfl, fun w' hSw => by go_simp⟩); simp only [rwA]
           refine sgT (.pointer (some ⟨qo, 0, none⟩)) hseg hHeld (fun hseg => ?_) (hy := Or.inl ⟨by rfl, fun w' hSw => by go_simp⟩); simp only [rwA]
           refine sgT (.int .i64 p.code) hseg hHeld (fun hseg => ?_) (hy := Or.inl ⟨by rfl, fun w' hSw => by obtain ⟨_, hc, _⟩ := hSw; go_simp⟩); simp only [rwA]
           refine sgT (.bool true) hseg hHeld (fun hseg => ?_) (hy := Or.inl ⟨by rfl, fun w' hSw => by go_simp⟩); simp only [rwA]
           refine sgT (.bool true) hseg hHeld (fun hseg => ?_) (hy := Or.inl ⟨by rfl, fun w' hSw => by go_simp⟩); simp only [rwA]
           refine sgT (.pointer (some ⟨qo, 3, none⟩)) hseg hHeld (fun hseg => ?_) (hy := Or.inl ⟨by rfl, fun w' hSw => by go_simp⟩); simp only [rwA]
           refine sgT (.int .u32 p.epoch) hseg hHeld (fun hseg => ?_) (hy := Or.inl ⟨by rfl, fun w' hSw => by obtain ⟨_, _, hc⟩ := hSw; go_simp⟩); simp only [rwA]
           refine sgT (.int .u32 (y : Int)) hseg hHeld (fun hseg => ?_) (hy := Or.inl ⟨by rfl, fun w' hSw => by go_simp⟩); simp only [rwA]
           refine sgT (.pointer (some ⟨ge, y, none⟩)) hseg hHeld (fun hseg => ?_) (hy := Or.inl ⟨by rfl, fun w' hSw => by go_simp⟩); simp only [rwA]
           refine sgT (.int .u32 e0) hseg hHeld (fun hseg => ?_) (hy := Or.inl ⟨by rfl, fun w' hSw => by obtain ⟨hc, _, _⟩ := hSw; go_simp⟩); simp only [rwA]
           refine sgT (.bool false) hseg hHeld (fun hseg => ?_) (hy := Or.inl ⟨by rfl, fun w' hSw => by go_simp⟩); simp only [rwA]
           refine sgT (.bool false) hseg hHeld (fun hseg => ?_) (hy := Or.inl ⟨by rfl, fun w' hSw => by go_simp⟩); simp only [rwA]
           refine sgT (.bool false) hseg hHeld (fun hseg => ?_) (hy := Or.inl ⟨by rfl, fun w' hSw => by go_simp⟩); simp only [rwA]
           refine sgT (.bool false) hseg hHeld (fun hseg => ?_) (hy := Or.inl ⟨by rfl, fun w' hSw => by go_simp⟩); simp only [rwA]
           refine sgT (.pointer (some ⟨qo, 0, none⟩)) hseg hHeld (fun hseg => ?_) (hy := Or.inl ⟨by rfl, fun w' hSw => by go_simp⟩); simp only [rwA]
           refine sgT (.int .i64 p.code) hseg hHeld (fun hseg => ?_) (hy := Or.inl ⟨by rfl, fun w' hSw => by obtain ⟨_, hc, _⟩ := hSw; go_simp⟩); simp only [rwA]
           refine sgT (.bool false) hseg hHeld (fun hseg => ?_) (hy := Or.inl ⟨by rfl, fun w' hSw => by go_simp⟩); simp only [rwA]
           refine sgT (.bool false) hseg hHeld (fun hseg => ?_) (hy := Or.inl ⟨by rfl, fun w' hSw => by go_simp⟩); simp only [rwA]
           refine sgT (.bool false) hseg hHeld (fun hseg => ?_) (hy := Or.inl ⟨by rfl, fun w' hSw => by go_simp⟩); simp only [rwA]
           refine sgT (.pointer (some ⟨qo, 0, none⟩)) hseg hHeld (fun hseg => ?_) (hy := Or.inl ⟨by rfl, fun w' hSw => by go_simp⟩); simp only [rwA]
           refine sgT (.int .i64 p.code) hseg hHeld (fun hseg => ?_) (hy := Or.inl ⟨by rfl, fun w' hSw => by obtain ⟨_, hc, _⟩ := hSw; go_simp⟩); simp only [rwA]
           refine sgT (.bool false) hseg hHeld (fun hseg => ?_) (hy := Or.inl ⟨by rfl, fun w' hSw => by go_simp⟩); simp only [rwA]
           refine sgT (.bool false) hseg hHeld (fun hseg => ?_) (hy := Or.inl ⟨by rfl, fun w' hSw => by go_simp⟩); simp only [rwA]
           refine sgT (.bool false) hseg hHeld (fun hseg => ?_) (hy := Or.inl ⟨by rfl, fun w' hSw => by go_simp⟩); simp only [rwA]
           refine sgT (.bool false) hseg hHeld (fun hseg => ?_) (hy := Or.inl ⟨by rfl, fun w' hSw => by go_simp⟩); simp only [rwA]
           refine wpAnyH_done (by kernel_rfl) ?_ _
           clear hHeld
           go_wp2_with fail
           go_meet
           exact ⟨rfl, qc15⟩
         ·have i1 : (p.code == 1) = false := by rw [beq_eq_false_iff_ne]; exact hc1
          have i2 : (p.code == 2) = false := by rw [beq_eq_false_iff_ne]; omega
          have i3 : (p.code == 3) = false := by rw [beq_eq_false_iff_ne]; omega
          replace hc1 := Lib.hid hc1
          replace hcc := Lib.hid hcc
          as_aux_lemma =>
           refine sgT (.bool false) hseg hHeld (fun hseg => ?_) (hy := Or.inl ⟨by rfl, fun w' hSw => by go_simp⟩); simp only [rwA]
           refine sgT (.bool false) hseg hHeld (fun hseg => ?_) (hy := Or.inl ⟨by rfl, fun w' hSw => by go_simp⟩); simp only [rwA]
           refine sgU hseg hHeld (fun hseg => ?_); simp only [rwA]
           refine sgU hseg hHeld (fun hseg => ?_); simp only [rwA]
           refine sgU hseg hHeld (fun hseg => ?_); simp only [rwA]
           refine sgU hseg hHeld (fun hseg => ?_); simp only [rwA]
           refine sgU hseg hHeld (fun hseg => ?_); simp only [rwA]
           refine sgU hseg hHeld (fun hseg => ?_); simp only [rwA]
           refine sgU hseg hHeld (fun hseg => ?_); simp only [rwA]
           refine sgT (.bool false) hseg hHeld (fun hseg => ?_) (hy := Or.inl ⟨by rfl, fun w' hSw => by go_simp⟩); simp only [rwA]
           refine sgT (.bool false) hseg hHeld (fun hseg => ?_) (hy := Or.inl ⟨by rfl, fun w' hSw => by go_simp⟩); simp only [rwA]
           refine sgT (.bool true) hseg hHeld (fun hseg => ?_) (hy := Or.inl ⟨by rfl, fun w' hSw => by go_simp⟩); simp only [rwA]
           refine sgT (.bool true) hseg hHeld (fun hseg => ?_) (hy := Or.inl ⟨by rfl, fun w' hSw => by go_simp⟩); simp only [rwA]
           refine sgT (.bool true) hseg hHeld (fun hseg => ?_) (hy := Or.inl ⟨by rfl, fun w' hSw => by go_simp⟩); simp only [rwA]
           refine sgT (.bool false) hseg hHeld (fun hseg => ?_) (hy := Or.inl ⟨by rfl, fun w' hSw => by go_simp⟩); simp only [rwA]
           refine sgT (.bool false) hseg hHeld (fun hseg => ?_) (hy := Or.inl ⟨by rfl, fun w' hSw => by go_simp⟩); simp only [rwA]
           refine sgT (.pointer (some ⟨qo, 0, none⟩)) hseg hHeld (fun hseg => ?_) (hy := Or.inl ⟨by rfl, fun w' hSw => by go_simp⟩); simp only [rwA]
           refine sgT (.int .i64 p.code) hseg hHeld (fun hseg => ?_) (hy := Or.inl ⟨by rfl, fun w' hSw => by obtain ⟨_, hc, _⟩ := hSw; go_simp⟩); simp only [rwA]
           refine sgT (.bool false) hseg hHeld (fun hseg => ?_) (hy := Or.inl ⟨by rfl, fun w' hSw => by go_simp⟩); simp only [rwA]
           refine sgT (.bool false) hseg hHeld (fun hseg => ?_) (hy := Or.inl ⟨by rfl, fun w' hSw => by go_simp⟩); simp only [rwA]
           refine sgU hseg hHeld (fun hseg => ?_); simp only [rwA]
           refine sgU hseg hHeld (fun hseg => ?_); simp only [rwA]
           refine sgU hseg hHeld (fun hseg => ?_); simp only [rwA]
           refine sgU hseg hHeld (fun hseg => ?_); simp only [rwA]
           refine sgU hseg hHeld (fun hseg => ?_); simp only [rwA]
           refine sgU hseg hHeld (fun hseg => ?_); simp only [rwA]
           refine sgT (.bool false) hseg hHeld (fun hseg => ?_) (hy := Or.inl ⟨by rfl, fun w' hSw => by go_simp⟩); simp only [rwA]
           refine sgT (.bool false) hseg hHeld (fun hseg => ?_) (hy := Or.inl ⟨by rfl, fun w' hSw => by go_simp⟩); simp only [rwA]
           refine sgT (.bool false) hseg hHeld (fun hseg => ?_) (hy := Or.inl ⟨by rfl, fun w' hSw => by go_simp⟩); simp only [rwA]
           refine sgT (.pointer (some ⟨qo, 0, none⟩)) hseg hHeld (fun hseg => ?_) (hy := Or.inl ⟨by rfl, fun w' hSw => by go_simp⟩); simp only [rwA]
           refine sgT (.int .i64 p.code) hseg hHeld (fun hseg => ?_) (hy := Or.inl ⟨by rfl, fun w' hSw => by obtain ⟨_, hc, _⟩ := hSw; go_simp⟩); simp only [rwA]
           refine sgT (.bool false) hseg hHeld (fun hseg => ?_) (hy := Or.inl ⟨by rfl, fun w' hSw => by go_simp⟩); simp only [rwA]
           refine sgT (.bool false) hseg hHeld (fun hseg => ?_) (hy := Or.inl ⟨by rfl, fun w' hSw => by go_simp⟩); simp only [rwA]
           refine sgT (.bool false) hseg hHeld (fun hseg => ?_) (hy := Or.inl ⟨by rfl, fun w' hSw => by go_simp⟩); simp only [rwA]
           refine sgT (.pointer (some ⟨qo, 0, none⟩)) hseg hHeld (fun hseg => ?_) (hy := Or.inl ⟨by rfl, fun w' hSw => by go_simp⟩); simp only [rwA]
           refine sgT (.int .i64 p.code) hseg hHeld (fun hseg => ?_) (hy := Or.inl ⟨by rfl, fun w' hSw => by obtain ⟨_, hc, _⟩ := hSw; go_simp⟩); simp only [rwA]
           refine sgT (.bool false) hseg hHeld (fun hseg => ?_) (hy := Or.inl ⟨by rfl, fun w' hSw => by go_simp⟩); simp only [rwA]
           refine sgT (.bool false) hseg hHeld (fun hseg => ?_) (hy := Or.inl ⟨by rfl, fun w' hSw => by go_simp⟩); simp only [rwA]
           refine sgT (.bool false) hseg hHeld (fun hseg => ?_) (hy := Or.inl ⟨by rfl, fun w' hSw => by go_simp⟩); simp only [rwA]
           refine sgT (.bool false) hseg hHeld (fun hseg => ?_) (hy := Or.inl ⟨by rfl, fun w' hSw => by go_simp⟩); simp only [rwA]
           refine wpAnyH_done (by kernel_rfl) ?_ _
           clear hHeld
           go_wp2_with fail
           go_meet
           exact ⟨rfl, qc15⟩
      case rest =>
       obtain ⟨rfl, kw3⟩ := hcut
       generalize wc = wC at *
       clear hobt kw2
       go_upto_region 39 with fail
       go_cut [220] from 120 to 220 (fun s wx => s = .bool false ∧ Only [] wr wx)
       case first =>
        by_cases hup : e0 < e1
        ·have dl : decide (e0 < e1) = true := by simpa using hup
         obtain ⟨rfl, hc4, hfr0, hee⟩ : mn = true ∧ p.code = 4 ∧ p.frm = 0 ∧ p.epoch = e1 := by
          have := hlow.out
          rcases hepm.out with h | ⟨h0, h | h⟩
          ·omega
          ·exact ⟨h0, h.1, h.2.1, h.2.2.1⟩
          ·omega
         have n4 : (p.code != 4) = false := by rw [hc4]; rfl
         have nf : (p.frm != 0) = false := by rw [hfr0]; rfl
         have ne : (p.epoch != e1) = false := by rw [bne_eq_false_iff_eq]; exact hee
         replace hc4 := Lib.hid hc4
         replace hfr0 := Lib.hid hfr0
         replace hee := Lib.hid hee
         replace hup := Lib.hid hup
         go_wp2_with fail
         have kz18 : Only [] wr wC.drew := kw3.drew
         have fz18_0 : wC.drew.cell? ⟨ge, y, none⟩ = some (.int .u32 e0) := kz18.cell hE (by simp)
         have fz18_1 : wC.drew.cell? ⟨qo, 0, none⟩ = some (.int .i64 p.code) := kz18.cell f_code (by simp)
         have fz18_2 : wC.drew.cell? ⟨qo, 3, none⟩ = some (.int .u32 p.epoch) := kz18.cell f_ep (by simp)
         have fz18_3 : wC.drew.cell? ⟨q, 4, none⟩ = some (.int .i64 p.frm) := kz18.cell f_frm (by simp)
         refine wp_region_held_drew (S := fun w' => w'.cell? ⟨ge, y, none⟩ = some (.int .u32 e0) ∧ w'.cell? ⟨qo, 0, none⟩ = some (.int .i64 p.code) ∧ w'.cell? ⟨qo, 3, none⟩ = some (.int .u32 p.epoch) ∧ w'.cell? ⟨q, 4, none⟩ = some (.int .i64 p.frm)) (by kernel_rfl) ⟨fz18_0, fz18_1, fz18_2, fz18_3⟩ (fun hHeld => ?_)
         generalize wC.drew = wz18 at *
         as_aux_lemma =>
          refine sgS [0, 1, 3, 4, 5] (by kernel_rfl) (fun hseg => ?_)
          refine sgT (.pointer (some ⟨sb, 0, none⟩)) hseg hHeld (fun hseg => ?_) (hy := Or.inl ⟨by rfl, fun w' hSw => by go_simp⟩); simp only [rwA]
          refine sgT (.int .u32 (y : Int)) hseg hHeld (fun hseg => ?_) (hy := Or.inl ⟨by rfl, fun w' hSw => by go_simp⟩); simp only [rwA]
          refine sgT (.int .u32 (y : Int)) hseg hHeld (fun hseg => ?_) (hy := Or.inl ⟨by rfl, fun w' hSw => by go_simp⟩); simp only [rwA]
          refine sgT (.pointer (some ⟨ge, y, none⟩)) hseg hHeld (fun hseg => ?_) (hy := Or.inl ⟨by rfl, fun w' hSw => by go_simp⟩); simp only [rwA]
          refine sgT (.int .u32 e0) hseg hHeld (fun hseg => ?_) (hy := Or.inl ⟨by rfl, fun w' hSw => by obtain ⟨hc, _, _, _⟩ := hSw; go_simp⟩); simp only [rwA]
          refine held_step 2 rfl (by kernel_rfl) (fun K hK => ?_)
          go_simp
          refine (he.out _ kz18).mono ?_; rintro e vc16 ⟨rfl, kc16⟩
          have qc16 := kz18.trans kc16
          go_wp2_with fail
          refine hK.out _ _ ⟨qc16.cell hE (by simp), qc16.cell f_code (by simp), qc16.cell f_ep (by simp), qc16.cell f_frm (by simp)⟩ (fun hHeld => ?_)
          clear hK K
          refine sgS [6, 7, 8, 9, 10, 11, 12, 13, 14, 15, 16, 17, 18, 19] (by kernel_rfl) (fun hseg => ?_)
          refine sgT (.bool true) hseg hHeld (fun hseg => ?_) (hy := Or.inl ⟨by rfl, fun w' hSw => by go_simp⟩); simp only [rwA]
          refine sgT (.bool true) hseg hHeld (fun hseg => ?_) (hy := Or.inl ⟨by rfl, fun w' hSw => by go_simp⟩); simp only [rwA]
          refine sgT (.bool true) hseg hHeld (fun hseg => ?_) (hy := Or.inl ⟨by rfl, fun w' hSw => by go_simp⟩); simp only [rwA]
          refine sgT (.bool false) hseg hHeld (fun hseg => ?_) (hy := Or.inl ⟨by rfl, fun w' hSw => by go_simp⟩); simp only [rwA]
          refine sgT (.bool false) hseg hHeld (fun hseg => ?_) (hy := Or.inl ⟨by rfl, fun w' hSw => by go_simp⟩); simp only [rwA]
          refine sgT (.pointer (some ⟨qo, 0, none⟩)) hseg hHeld (fun hseg => ?_) (hy := Or.inl ⟨by rfl, fun w' hSw => by go_simp⟩); simp only [rwA]
          refine sgT (.int .i64 p.code) hseg hHeld (fun hseg => ?_) (hy := Or.inl ⟨by rfl, fun w' hSw => by obtain ⟨_, hc, _, _⟩ := hSw; go_simp⟩); simp only [rwA]
          refine sgT (.bool false) hseg hHeld (fun hseg => ?_) (hy := Or.inl ⟨by rfl, fun w' hSw => by go_simp⟩); simp only [rwA]
          refine sgT (.bool false) hseg hHeld (fun hseg => ?_) (hy := Or.inl ⟨by rfl, fun w' hSw => by go_simp⟩); simp only [rwA]
          refine sgT (.bool false) hseg hHeld (fun hseg => ?_) (hy := Or.inl ⟨by rfl, fun w' hSw => by go_simp⟩); simp only [rwA]
          refine sgT (.pointer (some ⟨qo, 3, none⟩)) hseg hHeld (fun hseg => ?_) (hy := Or.inl ⟨by rfl, fun w' hSw => by go_simp⟩); simp only [rwA]
          refine sgT (.int .u32 p.epoch) hseg hHeld (fun hseg => ?_) (hy := Or.inl ⟨by rfl, fun w' hSw => by obtain ⟨_, _, hc, _⟩ := hSw; go_simp⟩); simp only [rwA]
          refine sgT (.pointer (some ⟨sb, 0, none⟩)) hseg hHeld (fun hseg => ?_) (hy := Or.inl ⟨by rfl, fun w' hSw => by go_simp⟩); simp only [rwA]
          refine sgT (.int .u32 (y : Int)) hseg hHeld (fun hseg => ?_) (hy := Or.inl ⟨by rfl, fun w' hSw => by go_simp⟩); simp only [rwA]
          refine held_step 20 rfl (by kernel_rfl) (fun K hK => ?_)
          go_simp
          refine (he.out _ qc16).mono ?_; rintro e vc17 ⟨rfl, kc17⟩
          have qc17 := qc16.trans kc17
          go_wp2_with fail
          refine hK.out _ _ ⟨qc17.cell hE (by simp), qc17.cell f_code (by simp), qc17.cell f_ep (by simp), qc17.cell f_frm (by simp)⟩ (fun hHeld => ?_)
          clear hK K
          refine sgS [21, 22, 23, 24, 25, 26, 27, 28, 29] (by kernel_rfl) (fun hseg => ?_)
          refine sgT (.bool false) hseg hHeld (fun hseg => ?_) (hy := Or.inl ⟨by rfl, fun w' hSw => by go_simp⟩); simp only [rwA]
          refine sgT (.bool false) hseg hHeld (fun hseg => ?_) (hy := Or.inl ⟨by rfl, fun w' hSw => by go_simp⟩); simp only [rwA]
          refine sgT (.bool false) hseg hHeld (fun hseg => ?_) (hy := Or.inl ⟨by rfl, fun w' hSw => by go_simp⟩); simp only [rwA]
          refine sgT (.pointer (some ⟨q, 3, none⟩)) hseg hHeld (fun hseg => ?_) (hy := Or.inl ⟨by rfl, fun w' hSw => by go_simp⟩); simp only [rwA]
          refine sgT (.pointer (some ⟨q, 4, none⟩)) hseg hHeld (fun hseg => ?_) (hy := Or.inl ⟨by rfl, fun w' hSw => by go_simp⟩); simp only [rwA]
          refine sgT (.int .i64 p.frm) hseg hHeld (fun hseg => ?_) (hy := Or.inl ⟨by rfl, fun w' hSw => by obtain ⟨_, _, _, hc⟩ := hSw; go_simp⟩); simp only [rwA]
          refine sgT (.bool false) hseg hHeld (fun hseg => ?_) (hy := Or.inl ⟨by rfl, fun w' hSw => by go_simp⟩); simp only [rwA]
          refine sgT (.bool false) hseg hHeld (fun hseg => ?_) (hy := Or.inl ⟨by rfl, fun w' hSw => by go_simp⟩); simp only [rwA]
          refine sgT (.bool false) hseg hHeld (fun hseg => ?_) (hy := Or.inl ⟨by rfl, fun w' hSw => by go_simp⟩); simp only [rwA]
          refine wpAnyH_done (by kernel_rfl) ?_ _
          clear hHeld
          go_wp2_with fail
          go_meet
          exact ⟨rfl, qc17⟩
        ·have dl : decide (e0 < e1) = false := by simpa using hup
         replace hup := Lib.hid hup
         go_wp2_with fail
         have kz21 : Only [] wr wC.drew := kw3.drew
         have fz21_0 : wC.drew.cell? ⟨ge, y, none⟩ = some (.int .u32 e0) := kz21.cell hE (by simp)
         have fz21_1 : wC.drew.cell? ⟨qo, 0, none⟩ = some (.int .i64 p.code) := kz21.cell f_code (by simp)
         have fz21_2 : wC.drew.cell? ⟨qo, 3, none⟩ = some (.int .u32 p.epoch) := kz21.cell f_ep (by simp)
         have fz21_3 : wC.drew.cell? ⟨q, 4, none⟩ = some (.int .i64 p.frm) := kz21.cell f_frm (by simp)
         refine wp_region_held_drew (S := fun w' => w'.cell? ⟨ge, y, none⟩ = some (.int .u32 e0) ∧ w'.cell? ⟨qo, 0, none⟩ = some (.int .i64 p.code) ∧ w'.cell? ⟨qo, 3, none⟩ = some (.int .u32 p.epoch) ∧ w'.cell? ⟨q, 4, none⟩ = some (.int .i64 p.frm)) (by kernel_rfl) ⟨fz21_0, fz21_1, fz21_2, fz21_3⟩ (fun hHeld => ?_)
         generalize wC.drew = wz21 at *
         as_aux_lemma =>
          refine sgS [0, 1, 3, 4, 5] (by kernel_rfl) (fun hseg => ?_)
          refine sgT (.pointer (some ⟨sb, 0, none⟩)) hseg hHeld (fun hseg => ?_) (hy := Or.inl ⟨by rfl, fun w' hSw => by go_simp⟩); simp only [rwA]
          refine sgT (.int .u32 (y : Int)) hseg hHeld (fun hseg => ?_) (hy := Or.inl ⟨by rfl, fun w' hSw => by go_simp⟩); simp only [rwA]
          refine sgT (.int .u32 (y : Int)) hseg hHeld (fun hseg => ?_) (hy := Or.inl ⟨by rfl, fun w' hSw => by go_simp⟩); simp only [rwA]
          refine sgT (.pointer (some ⟨ge, y, none⟩)) hseg hHeld (fun hseg => ?_) (hy := Or.inl ⟨by rfl, fun w' hSw => by go_simp⟩); simp only [rwA]
          refine sgT (.int .u32 e0) hseg hHeld (fun hseg => ?_) (hy := Or.inl ⟨by rfl, fun w' hSw => by obtain ⟨hc, _, _, _⟩ := hSw; go_simp⟩); simp only [rwA]
          refine held_step 2 rfl (by kernel_rfl) (fun K hK => ?_)
          go_simp
          refine (he.out _ kz21).mono ?_; rintro e vc19 ⟨rfl, kc19⟩
          have qc19 := kz21.trans kc19
          go_wp2_with fail
          refine hK.out _ _ ⟨qc19.cell hE (by simp), qc19.cell f_code (by simp), qc19.cell f_ep (by simp), qc19.cell f_frm (by simp)⟩ (fun hHeld => ?_)
          clear hK K
          refine sgS [6, 7, 8, 9, 10, 11, 12, 13, 14, 15, 16, 17, 18, 19, 20, 21, 22, 23, 24, 25, 26, 27, 28, 29] (by kernel_rfl) (fun hseg => ?_)
          refine sgT (.bool false) hseg hHeld (fun hseg => ?_) (hy := Or.inl ⟨by rfl, fun w' hSw => by go_simp⟩); simp only [rwA]
          refine sgT (.bool false) hseg hHeld (fun hseg => ?_) (hy := Or.inl ⟨by rfl, fun w' hSw => by go_simp⟩); simp only [rwA]
          refine sgU hseg hHeld (fun hseg => ?_); simp only [rwA]
          refine sgU hseg hHeld (fun hseg => ?_); simp only [rwA]
          refine sgU hseg hHeld (fun hseg => ?_); simp only [rwA]
          refine sgU hseg hHeld (fun hseg => ?_); simp only [rwA]
          refine sgU hseg hHeld (fun hseg => ?_); simp only [rwA]
          refine sgU hseg hHeld (fun hseg => ?_); simp only [rwA]
          refine sgU hseg hHeld (fun hseg => ?_); simp only [rwA]
          refine sgU hseg hHeld (fun hseg => ?_); simp only [rwA]
          refine sgU hseg hHeld (fun hseg => ?_); simp only [rwA]
          refine sgU hseg hHeld (fun hseg => ?_); simp only [rwA]
          refine sgU hseg hHeld (fun hseg => ?_); simp only [rwA]
          refine sgU hseg hHeld (fun hseg => ?_); simp only [rwA]
          refine sgU hseg hHeld (fun hseg => ?_); simp only [rwA]
          refine sgU hseg hHeld (fun hseg => ?_); simp only [rwA]
          refine sgU hseg hHeld (fun hseg => ?_); simp only [rwA]
          refine sgU hseg hHeld (fun hseg => ?_); simp only [rwA]
          refine sgU hseg hHeld (fun hseg => ?_); simp only [rwA]
          refine sgU hseg hHeld (fun hseg => ?_); simp only [rwA]
          refine sgU hseg hHeld (fun hseg => ?_); simp only [rwA]
          refine sgU hseg hHeld (fun hseg => ?_); simp only [rwA]
          refine sgU hseg hHeld (fun hseg => ?_); simp only [rwA]
          refine sgT (.bool false) hseg hHeld (fun hseg => ?_) (hy := Or.inl ⟨by rfl, fun w' hSw => by go_simp⟩); simp only [rwA]
          refine wpAnyH_done (by kernel_rfl) ?_ _
          clear hHeld
          go_wp2_with fail
          go_meet
          exact ⟨rfl, qc19⟩
       case rest =>
        obtain ⟨rfl, kw4⟩ := hcut
        generalize wc = wD at *
        go_wp2_with fail
        go_roundw
        case rel => exact ⟨y + 1, by omega, by go_num, kx.trans kw4⟩
        case measure => simp [intOf]; omega
end Go.Proofs.YtmelaiefbpdifaaGreatDoor.Srv
