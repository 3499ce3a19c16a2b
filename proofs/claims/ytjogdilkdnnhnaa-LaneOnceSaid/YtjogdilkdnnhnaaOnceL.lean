/- LaneOnce: the arms joined; the walk. -/
import Derived.Test.YtjogdilkdnnhnaaOnce0
import Derived.Test.YtjogdilkdnnhnaaOnce1
import Derived.Test.YtjogdilkdnnhnaaOnce2
import Derived.Test.YtjogdilkdnnhnaaOnce3
import Derived.Test.YtjogdilkdnnhnaaOnce4
import Derived.Test.YtjogdilkdnnhnaaOnceX
namespace Go.Proofs.Ytjogdilkdnnhnaa
open Go.RowKit

set_option linter.unusedVariables false
/-- The loop's state at a round's beginning. -/
inductive WI (w1 : World) (li : Int) (gl gs nL cA : Nat) (AA : Option Addr) : Act → World → Prop
  | mk (k : Nat) (ln : Ln) (st : Sat) (A B : List Snt) (D : List Int) (heard : Int) (va vb vd hh ii : Value) (wr : World) (hii : ii = .int .i64 (k : Int)) (hhh : hh = .int .i64 heard) (k2 : k ≤ 200) (kL : k ≤ nL) (hinv : Inv li k ln st A B D heard) (hst : St8 w1 wr gl gs ln st va vb vd A B D)
    (u4 u12 u13 u14 u15 u16 u17 u18 u19 u20 u21 u22 u31 u32 u33 u34 u35 u36 u37 u38 u39 u40 u41 u42 u43 u44 u45 u46 u47 u48 u49 u50 u51 u52 u53 u54 u55 u56 u57 u58 u59 u60 u61 u62 u63 u64 u65 u66 u67 u68 u69 u70 u71 u72 u73 u74 u75 u76 u77 u78 u79 u80 u81 u82 u83 u84 u85 u86 u87 u88 u89 u90 u91 u92 u93 u94 u95 u96 u97 u98 u99 u100 u101 u102 u103 u104 u105 u106 u107 u108 u109 u110 u111 u112 u113 u114 u115 u116 u117 u118 u119 u120 u121 u122 u123 u124 u125 u126 u127 u128 u129 u130 u131 u132 u133 u134 u135 u136 u137 u138 u139 u140 u141 u142 u143 u144 u145 u146 u147 u148 u149 u150 u151 u152 u153 u154 u155 u156 u157 u158 u159 u160 u161 u162 u163 u164 u165 u166 u167 u168 u169 u170 u171 u172 u173 u174 u175 u176 u177 u178 u179 u180 u181 u182 u183 u184 u185 u186 u187 u188 u189 u190 u191 u192 u193 u194 u195 u196 u197 u198 u199 u200 u201 u202 u203 u204 u205 u206 u207 u208 u209 u210 u211 u212 c26 c27 c28 c29 c30 : Value) : WI w1 li gl gs nL cA AA ⟨#[.int .u32 li, .slice AA nL cA, undef, undef, u4, .pointer (some ⟨gl, 0, none⟩), .pointer (some ⟨gs, 0, none⟩), va, vb, vd, hh, ii, u12, u13, u14, u15, u16, u17, u18, u19, u20, u21, u22, undef, .bool true, .bool false, c26, c27, c28, c29, c30, u31, u32, u33, u34, u35, u36, u37, u38, u39, u40, u41, u42, u43, u44, u45, u46, u47, u48, u49, u50, u51, u52, u53, u54, u55, u56, u57, u58, u59, u60, u61, u62, u63, u64, u65, u66, u67, u68, u69, u70, u71, u72, u73, u74, u75, u76, u77, u78, u79, u80, u81, u82, u83, u84, u85, u86, u87, u88, u89, u90, u91, u92, u93, u94, u95, u96, u97, u98, u99, u100, u101, u102, u103, u104, u105, u106, u107, u108, u109, u110, u111, u112, u113, u114, u115, u116, u117, u118, u119, u120, u121, u122, u123, u124, u125, u126, u127, u128, u129, u130, u131, u132, u133, u134, u135, u136, u137, u138, u139, u140, u141, u142, u143, u144, u145, u146, u147, u148, u149, u150, u151, u152, u153, u154, u155, u156, u157, u158, u159, u160, u161, u162, u163, u164, u165, u166, u167, u168, u169, u170, u171, u172, u173, u174, u175, u176, u177, u178, u179, u180, u181, u182, u183, u184, u185, u186, u187, u188, u189, u190, u191, u192, u193, u194, u195, u196, u197, u198, u199, u200, u201, u202, u203, u204, u205, u206, u207, u208, u209, u210, u211, u212, undef, undef, undef, undef, undef, undef, undef, undef, undef, undef, undef, undef, undef, undef, undef, undef, undef, undef, undef, undef, undef, undef, undef, undef, undef, undef, undef, undef, undef], []⟩ wr

def Wmu (nL : Nat) (a : Act) (_ : World) : Nat := nL - (intOf (a.tmps.getD 11 undef)).toNat

set_option maxRecDepth 100000 in
set_option maxHeartbeats 4000000 in
theorem once_round (w0 w1 : World) (li : Int) (hli : U li) (l1 : 1 ≤ li) (gl gs cA : Nat) (AA : Option Addr) (L : List (Int × Int)) (k1 : Only [] w0 w1) (hL : Acts w0 AA L) (hr : ∀ x ∈ L, I x.1 ∧ I x.2) (hlen : L.length ≤ 9223372036854775807) (Q0 : Exit → Act → World → Prop)
    (hexit : ∀ a' w', WI w1 li gl gs L.length cA AA a' w' → Q0 (.exit 0) a' w')
    (a : Act) (w : World) (hI : WI w1 li gl gs L.length cA AA a w) : Code.wp Try.prog onceBody (Exit.then (fun a' w' => WI w1 li gl gs L.length cA AA a' w' ∧ Wmu L.length a' w' < Wmu L.length a w) Q0) a w := by
  cases hI with
  | mk k ln st A B D heard va vb vd hh ii wx hii hhh k2 kL hinv hst u4 u12 u13 u14 u15 u16 u17 u18 u19 u20 u21 u22 u31 u32 u33 u34 u35 u36 u37 u38 u39 u40 u41 u42 u43 u44 u45 u46 u47 u48 u49 u50 u51 u52 u53 u54 u55 u56 u57 u58 u59 u60 u61 u62 u63 u64 u65 u66 u67 u68 u69 u70 u71 u72 u73 u74 u75 u76 u77 u78 u79 u80 u81 u82 u83 u84 u85 u86 u87 u88 u89 u90 u91 u92 u93 u94 u95 u96 u97 u98 u99 u100 u101 u102 u103 u104 u105 u106 u107 u108 u109 u110 u111 u112 u113 u114 u115 u116 u117 u118 u119 u120 u121 u122 u123 u124 u125 u126 u127 u128 u129 u130 u131 u132 u133 u134 u135 u136 u137 u138 u139 u140 u141 u142 u143 u144 u145 u146 u147 u148 u149 u150 u151 u152 u153 u154 u155 u156 u157 u158 u159 u160 u161 u162 u163 u164 u165 u166 u167 u168 u169 u170 u171 u172 u173 u174 u175 u176 u177 u178 u179 u180 u181 u182 u183 u184 u185 u186 u187 u188 u189 u190 u191 u192 u193 u194 u195 u196 u197 u198 u199 u200 u201 u202 u203 u204 u205 u206 u207 u208 u209 u210 u211 u212 c26 c27 c28 c29 =>
    rename_i c30
    subst hii
    subst hhh

    by_cases hk : ¬ k < L.length ∨ k = 200
    · exact once_x AA w1 w li hli l1 gl gs k L.length cA ln st A B D heard va vb vd hinv hst k2 kL hlen _ Q0 u4 u12 u13 u14 u15 u16 u17 u18 u19 u20 u21 u22 u31 u32 u33 u34 u35 u36 u37 u38 u39 u40 u41 u42 u43 u44 u45 u46 u47 u48 u49 u50 u51 u52 u53 u54 u55 u56 u57 u58 u59 u60 u61 u62 u63 u64 u65 u66 u67 u68 u69 u70 u71 u72 u73 u74 u75 u76 u77 u78 u79 u80 u81 u82 u83 u84 u85 u86 u87 u88 u89 u90 u91 u92 u93 u94 u95 u96 u97 u98 u99 u100 u101 u102 u103 u104 u105 u106 u107 u108 u109 u110 u111 u112 u113 u114 u115 u116 u117 u118 u119 u120 u121 u122 u123 u124 u125 u126 u127 u128 u129 u130 u131 u132 u133 u134 u135 u136 u137 u138 u139 u140 u141 u142 u143 u144 u145 u146 u147 u148 u149 u150 u151 u152 u153 u154 u155 u156 u157 u158 u159 u160 u161 u162 u163 u164 u165 u166 u167 u168 u169 u170 u171 u172 u173 u174 u175 u176 u177 u178 u179 u180 u181 u182 u183 u184 u185 u186 u187 u188 u189 u190 u191 u192 u193 u194 u195 u196 u197 u198 u199 u200 u201 u202 u203 u204 u205 u206 u207 u208 u209 u210 u211 u212 c26 c27 c28 c29 c30 hk (fun x31 x32 x33 x34 x35 x36 x37 x38 => hexit _ _ (WI.mk k ln st A B D heard va vb vd _ _ w rfl rfl k2 kL hinv hst u4 u12 u13 u14 u15 u16 u17 u18 u19 u20 u21 u22 x31 x32 x33 x34 x35 x36 x37 x38 u39 u40 u41 u42 u43 u44 u45 u46 u47 u48 u49 u50 u51 u52 u53 u54 u55 u56 u57 u58 u59 u60 u61 u62 u63 u64 u65 u66 u67 u68 u69 u70 u71 u72 u73 u74 u75 u76 u77 u78 u79 u80 u81 u82 u83 u84 u85 u86 u87 u88 u89 u90 u91 u92 u93 u94 u95 u96 u97 u98 u99 u100 u101 u102 u103 u104 u105 u106 u107 u108 u109 u110 u111 u112 u113 u114 u115 u116 u117 u118 u119 u120 u121 u122 u123 u124 u125 u126 u127 u128 u129 u130 u131 u132 u133 u134 u135 u136 u137 u138 u139 u140 u141 u142 u143 u144 u145 u146 u147 u148 u149 u150 u151 u152 u153 u154 u155 u156 u157 u158 u159 u160 u161 u162 u163 u164 u165 u166 u167 u168 u169 u170 u171 u172 u173 u174 u175 u176 u177 u178 u179 u180 u181 u182 u183 u184 u185 u186 u187 u188 u189 u190 u191 u192 u193 u194 u195 u196 u197 u198 u199 u200 u201 u202 u203 u204 u205 u206 u207 u208 u209 u210 u211 u212 c26 c27 c28 c29 c30))
    have hlt : k < L.length := by omega
    have h200 : k < 200 := by omega
    obtain ⟨g, o, rfl, hel⟩ := hL.get hlt
    have hel0 := hst.only.cell (k1.cell hel.1 (by simp)) (by simp)
    have hel1 := hst.only.cell (k1.cell hel.2 (by simp)) (by simp)
    obtain ⟨hI1, hI2⟩ := hr _ (List.getElem_mem hlt)
    generalize L[k] = act at hel hel0 hel1 hI1 hI2
    obtain ⟨kind, num⟩ := act
    simp only at hel0 hel1 hI1 hI2
    have hend : ∀ (ln' : Ln) (st' : Sat) (A' B' : List Snt) (D' : List Int) (heard' : Int) (va' vb' vd' hh ii : Value) (w' : World), ii = .int .i64 ((k + 1 : Nat) : Int) → hh = .int .i64 heard' → Inv li (k + 1) ln' st' A' B' D' heard' → St8 w1 w' gl gs ln' st' va' vb' vd' A' B' D' →
        ∀ (xu4 xu12 xu13 xu14 xu15 xu16 xu17 xu18 xu19 xu20 xu21 xu22 xu31 xu32 xu33 xu34 xu35 xu36 xu37 xu38 xu39 xu40 xu41 xu42 xu43 xu44 xu45 xu46 xu47 xu48 xu49 xu50 xu51 xu52 xu53 xu54 xu55 xu56 xu57 xu58 xu59 xu60 xu61 xu62 xu63 xu64 xu65 xu66 xu67 xu68 xu69 xu70 xu71 xu72 xu73 xu74 xu75 xu76 xu77 xu78 xu79 xu80 xu81 xu82 xu83 xu84 xu85 xu86 xu87 xu88 xu89 xu90 xu91 xu92 xu93 xu94 xu95 xu96 xu97 xu98 xu99 xu100 xu101 xu102 xu103 xu104 xu105 xu106 xu107 xu108 xu109 xu110 xu111 xu112 xu113 xu114 xu115 xu116 xu117 xu118 xu119 xu120 xu121 xu122 xu123 xu124 xu125 xu126 xu127 xu128 xu129 xu130 xu131 xu132 xu133 xu134 xu135 xu136 xu137 xu138 xu139 xu140 xu141 xu142 xu143 xu144 xu145 xu146 xu147 xu148 xu149 xu150 xu151 xu152 xu153 xu154 xu155 xu156 xu157 xu158 xu159 xu160 xu161 xu162 xu163 xu164 xu165 xu166 xu167 xu168 xu169 xu170 xu171 xu172 xu173 xu174 xu175 xu176 xu177 xu178 xu179 xu180 xu181 xu182 xu183 xu184 xu185 xu186 xu187 xu188 xu189 xu190 xu191 xu192 xu193 xu194 xu195 xu196 xu197 xu198 xu199 xu200 xu201 xu202 xu203 xu204 xu205 xu206 xu207 xu208 xu209 xu210 xu211 xu212 xc26 xc27 xc28 xc29 xc30 : Value), WI w1 li gl gs L.length cA (some ⟨g, o, none⟩) ⟨#[.int .u32 li, .slice (some ⟨g, o, none⟩) L.length cA, undef, undef, xu4, .pointer (some ⟨gl, 0, none⟩), .pointer (some ⟨gs, 0, none⟩), va', vb', vd', hh, ii, xu12, xu13, xu14, xu15, xu16, xu17, xu18, xu19, xu20, xu21, xu22, undef, .bool true, .bool false, xc26, xc27, xc28, xc29, xc30, xu31, xu32, xu33, xu34, xu35, xu36, xu37, xu38, xu39, xu40, xu41, xu42, xu43, xu44, xu45, xu46, xu47, xu48, xu49, xu50, xu51, xu52, xu53, xu54, xu55, xu56, xu57, xu58, xu59, xu60, xu61, xu62, xu63, xu64, xu65, xu66, xu67, xu68, xu69, xu70, xu71, xu72, xu73, xu74, xu75, xu76, xu77, xu78, xu79, xu80, xu81, xu82, xu83, xu84, xu85, xu86, xu87, xu88, xu89, xu90, xu91, xu92, xu93, xu94, xu95, xu96, xu97, xu98, xu99, xu100, xu101, xu102, xu103, xu104, xu105, xu106, xu107, xu108, xu109, xu110, xu111, xu112, xu113, xu114, xu115, xu116, xu117, xu118, xu119, xu120, xu121, xu122, xu123, xu124, xu125, xu126, xu127, xu128, xu129, xu130, xu131, xu132, xu133, xu134, xu135, xu136, xu137, xu138, xu139, xu140, xu141, xu142, xu143, xu144, xu145, xu146, xu147, xu148, xu149, xu150, xu151, xu152, xu153, xu154, xu155, xu156, xu157, xu158, xu159, xu160, xu161, xu162, xu163, xu164, xu165, xu166, xu167, xu168, xu169, xu170, xu171, xu172, xu173, xu174, xu175, xu176, xu177, xu178, xu179, xu180, xu181, xu182, xu183, xu184, xu185, xu186, xu187, xu188, xu189, xu190, xu191, xu192, xu193, xu194, xu195, xu196, xu197, xu198, xu199, xu200, xu201, xu202, xu203, xu204, xu205, xu206, xu207, xu208, xu209, xu210, xu211, xu212, undef, undef, undef, undef, undef, undef, undef, undef, undef, undef, undef, undef, undef, undef, undef, undef, undef, undef, undef, undef, undef, undef, undef, undef, undef, undef, undef, undef, undef], []⟩ w' ∧ Wmu L.length ⟨#[.int .u32 li, .slice (some ⟨g, o, none⟩) L.length cA, undef, undef, xu4, .pointer (some ⟨gl, 0, none⟩), .pointer (some ⟨gs, 0, none⟩), va', vb', vd', hh, ii, xu12, xu13, xu14, xu15, xu16, xu17, xu18, xu19, xu20, xu21, xu22, undef, .bool true, .bool false, xc26, xc27, xc28, xc29, xc30, xu31, xu32, xu33, xu34, xu35, xu36, xu37, xu38, xu39, xu40, xu41, xu42, xu43, xu44, xu45, xu46, xu47, xu48, xu49, xu50, xu51, xu52, xu53, xu54, xu55, xu56, xu57, xu58, xu59, xu60, xu61, xu62, xu63, xu64, xu65, xu66, xu67, xu68, xu69, xu70, xu71, xu72, xu73, xu74, xu75, xu76, xu77, xu78, xu79, xu80, xu81, xu82, xu83, xu84, xu85, xu86, xu87, xu88, xu89, xu90, xu91, xu92, xu93, xu94, xu95, xu96, xu97, xu98, xu99, xu100, xu101, xu102, xu103, xu104, xu105, xu106, xu107, xu108, xu109, xu110, xu111, xu112, xu113, xu114, xu115, xu116, xu117, xu118, xu119, xu120, xu121, xu122, xu123, xu124, xu125, xu126, xu127, xu128, xu129, xu130, xu131, xu132, xu133, xu134, xu135, xu136, xu137, xu138, xu139, xu140, xu141, xu142, xu143, xu144, xu145, xu146, xu147, xu148, xu149, xu150, xu151, xu152, xu153, xu154, xu155, xu156, xu157, xu158, xu159, xu160, xu161, xu162, xu163, xu164, xu165, xu166, xu167, xu168, xu169, xu170, xu171, xu172, xu173, xu174, xu175, xu176, xu177, xu178, xu179, xu180, xu181, xu182, xu183, xu184, xu185, xu186, xu187, xu188, xu189, xu190, xu191, xu192, xu193, xu194, xu195, xu196, xu197, xu198, xu199, xu200, xu201, xu202, xu203, xu204, xu205, xu206, xu207, xu208, xu209, xu210, xu211, xu212, undef, undef, undef, undef, undef, undef, undef, undef, undef, undef, undef, undef, undef, undef, undef, undef, undef, undef, undef, undef, undef, undef, undef, undef, undef, undef, undef, undef, undef], []⟩ w' < Wmu L.length ⟨#[.int .u32 li, .slice (some ⟨g, o, none⟩) L.length cA, undef, undef, u4, .pointer (some ⟨gl, 0, none⟩), .pointer (some ⟨gs, 0, none⟩), va, vb, vd, .int .i64 heard, .int .i64 k, u12, u13, u14, u15, u16, u17, u18, u19, u20, u21, u22, undef, .bool true, .bool false, c26, c27, c28, c29, c30, u31, u32, u33, u34, u35, u36, u37, u38, u39, u40, u41, u42, u43, u44, u45, u46, u47, u48, u49, u50, u51, u52, u53, u54, u55, u56, u57, u58, u59, u60, u61, u62, u63, u64, u65, u66, u67, u68, u69, u70, u71, u72, u73, u74, u75, u76, u77, u78, u79, u80, u81, u82, u83, u84, u85, u86, u87, u88, u89, u90, u91, u92, u93, u94, u95, u96, u97, u98, u99, u100, u101, u102, u103, u104, u105, u106, u107, u108, u109, u110, u111, u112, u113, u114, u115, u116, u117, u118, u119, u120, u121, u122, u123, u124, u125, u126, u127, u128, u129, u130, u131, u132, u133, u134, u135, u136, u137, u138, u139, u140, u141, u142, u143, u144, u145, u146, u147, u148, u149, u150, u151, u152, u153, u154, u155, u156, u157, u158, u159, u160, u161, u162, u163, u164, u165, u166, u167, u168, u169, u170, u171, u172, u173, u174, u175, u176, u177, u178, u179, u180, u181, u182, u183, u184, u185, u186, u187, u188, u189, u190, u191, u192, u193, u194, u195, u196, u197, u198, u199, u200, u201, u202, u203, u204, u205, u206, u207, u208, u209, u210, u211, u212, undef, undef, undef, undef, undef, undef, undef, undef, undef, undef, undef, undef, undef, undef, undef, undef, undef, undef, undef, undef, undef, undef, undef, undef, undef, undef, undef, undef, undef], []⟩ w := by
      intro ln' st' A' B' D' heard' va' vb' vd' hh ii w' hii hhh hinv' hst' xu4 xu12 xu13 xu14 xu15 xu16 xu17 xu18 xu19 xu20 xu21 xu22 xu31 xu32 xu33 xu34 xu35 xu36 xu37 xu38 xu39 xu40 xu41 xu42 xu43 xu44 xu45 xu46 xu47 xu48 xu49 xu50 xu51 xu52 xu53 xu54 xu55 xu56 xu57 xu58 xu59 xu60 xu61 xu62 xu63 xu64 xu65 xu66 xu67 xu68 xu69 xu70 xu71 xu72 xu73 xu74 xu75 xu76 xu77 xu78 xu79 xu80 xu81 xu82 xu83 xu84 xu85 xu86 xu87 xu88 xu89 xu90 xu91 xu92 xu93 xu94 xu95 xu96 xu97 xu98 xu99 xu100 xu101 xu102 xu103 xu104 xu105 xu106 xu107 xu108 xu109 xu110 xu111 xu112 xu113 xu114 xu115 xu116 xu117 xu118 xu119 xu120 xu121 xu122 xu123 xu124 xu125 xu126 xu127 xu128 xu129 xu130 xu131 xu132 xu133 xu134 xu135 xu136 xu137 xu138 xu139 xu140 xu141 xu142 xu143 xu144 xu145 xu146 xu147 xu148 xu149 xu150 xu151 xu152 xu153 xu154 xu155 xu156 xu157 xu158 xu159 xu160 xu161 xu162 xu163 xu164 xu165 xu166 xu167 xu168 xu169 xu170 xu171 xu172 xu173 xu174 xu175 xu176 xu177 xu178 xu179 xu180 xu181 xu182 xu183 xu184 xu185 xu186 xu187 xu188 xu189 xu190 xu191 xu192 xu193 xu194 xu195 xu196 xu197 xu198 xu199 xu200 xu201 xu202 xu203 xu204 xu205 xu206 xu207 xu208 xu209 xu210 xu211 xu212 xc26 xc27 xc28 xc29 xc30
      refine ⟨WI.mk (k + 1) ln' st' A' B' D' heard' va' vb' vd' hh ii w' hii hhh (by omega) (by omega) hinv' hst' xu4 xu12 xu13 xu14 xu15 xu16 xu17 xu18 xu19 xu20 xu21 xu22 xu31 xu32 xu33 xu34 xu35 xu36 xu37 xu38 xu39 xu40 xu41 xu42 xu43 xu44 xu45 xu46 xu47 xu48 xu49 xu50 xu51 xu52 xu53 xu54 xu55 xu56 xu57 xu58 xu59 xu60 xu61 xu62 xu63 xu64 xu65 xu66 xu67 xu68 xu69 xu70 xu71 xu72 xu73 xu74 xu75 xu76 xu77 xu78 xu79 xu80 xu81 xu82 xu83 xu84 xu85 xu86 xu87 xu88 xu89 xu90 xu91 xu92 xu93 xu94 xu95 xu96 xu97 xu98 xu99 xu100 xu101 xu102 xu103 xu104 xu105 xu106 xu107 xu108 xu109 xu110 xu111 xu112 xu113 xu114 xu115 xu116 xu117 xu118 xu119 xu120 xu121 xu122 xu123 xu124 xu125 xu126 xu127 xu128 xu129 xu130 xu131 xu132 xu133 xu134 xu135 xu136 xu137 xu138 xu139 xu140 xu141 xu142 xu143 xu144 xu145 xu146 xu147 xu148 xu149 xu150 xu151 xu152 xu153 xu154 xu155 xu156 xu157 xu158 xu159 xu160 xu161 xu162 xu163 xu164 xu165 xu166 xu167 xu168 xu169 xu170 xu171 xu172 xu173 xu174 xu175 xu176 xu177 xu178 xu179 xu180 xu181 xu182 xu183 xu184 xu185 xu186 xu187 xu188 xu189 xu190 xu191 xu192 xu193 xu194 xu195 xu196 xu197 xu198 xu199 xu200 xu201 xu202 xu203 xu204 xu205 xu206 xu207 xu208 xu209 xu210 xu211 xu212 xc26 xc27 xc28 xc29 xc30, ?_⟩
      show L.length - (intOf ii).toNat < L.length - (intOf (.int .i64 (k : Int))).toNat
      rw [hii]
      simp only [intOf]
      omega
    by_cases a0 : kind.tmod 4 = 0
    · exact once_0 g o kind num w1 w li hli l1 gl gs k L.length cA ln st A B D heard va vb vd hinv hst k2 kL hlen _ Q0 u4 u12 u13 u14 u15 u16 u17 u18 u19 u20 u21 u22 u31 u32 u33 u34 u35 u36 u37 u38 u39 u40 u41 u42 u43 u44 u45 u46 u47 u48 u49 u50 u51 u52 u53 u54 u55 u56 u57 u58 u59 u60 u61 u62 u63 u64 u65 u66 u67 u68 u69 u70 u71 u72 u73 u74 u75 u76 u77 u78 u79 u80 u81 u82 u83 u84 u85 u86 u87 u88 u89 u90 u91 u92 u93 u94 u95 u96 u97 u98 u99 u100 u101 u102 u103 u104 u105 u106 u107 u108 u109 u110 u111 u112 u113 u114 u115 u116 u117 u118 u119 u120 u121 u122 u123 u124 u125 u126 u127 u128 u129 u130 u131 u132 u133 u134 u135 u136 u137 u138 u139 u140 u141 u142 u143 u144 u145 u146 u147 u148 u149 u150 u151 u152 u153 u154 u155 u156 u157 u158 u159 u160 u161 u162 u163 u164 u165 u166 u167 u168 u169 u170 u171 u172 u173 u174 u175 u176 u177 u178 u179 u180 u181 u182 u183 u184 u185 u186 u187 u188 u189 u190 u191 u192 u193 u194 u195 u196 u197 u198 u199 u200 u201 u202 u203 u204 u205 u206 u207 u208 u209 u210 u211 u212 c26 c27 c28 c29 c30 hend hlt h200 hel0 hel1 hI1 hI2 a0
    by_cases a1 : kind.tmod 4 = 1
    · exact once_1 g o kind num w1 w li hli l1 gl gs k L.length cA ln st A B D heard va vb vd hinv hst k2 kL hlen _ Q0 u4 u12 u13 u14 u15 u16 u17 u18 u19 u20 u21 u22 u31 u32 u33 u34 u35 u36 u37 u38 u39 u40 u41 u42 u43 u44 u45 u46 u47 u48 u49 u50 u51 u52 u53 u54 u55 u56 u57 u58 u59 u60 u61 u62 u63 u64 u65 u66 u67 u68 u69 u70 u71 u72 u73 u74 u75 u76 u77 u78 u79 u80 u81 u82 u83 u84 u85 u86 u87 u88 u89 u90 u91 u92 u93 u94 u95 u96 u97 u98 u99 u100 u101 u102 u103 u104 u105 u106 u107 u108 u109 u110 u111 u112 u113 u114 u115 u116 u117 u118 u119 u120 u121 u122 u123 u124 u125 u126 u127 u128 u129 u130 u131 u132 u133 u134 u135 u136 u137 u138 u139 u140 u141 u142 u143 u144 u145 u146 u147 u148 u149 u150 u151 u152 u153 u154 u155 u156 u157 u158 u159 u160 u161 u162 u163 u164 u165 u166 u167 u168 u169 u170 u171 u172 u173 u174 u175 u176 u177 u178 u179 u180 u181 u182 u183 u184 u185 u186 u187 u188 u189 u190 u191 u192 u193 u194 u195 u196 u197 u198 u199 u200 u201 u202 u203 u204 u205 u206 u207 u208 u209 u210 u211 u212 c26 c27 c28 c29 c30 hend hlt h200 hel0 hel1 hI1 hI2 a1
    by_cases a2 : kind.tmod 4 = 2
    · exact once_2 g o kind num w1 w li hli l1 gl gs k L.length cA ln st A B D heard va vb vd hinv hst k2 kL hlen _ Q0 u4 u12 u13 u14 u15 u16 u17 u18 u19 u20 u21 u22 u31 u32 u33 u34 u35 u36 u37 u38 u39 u40 u41 u42 u43 u44 u45 u46 u47 u48 u49 u50 u51 u52 u53 u54 u55 u56 u57 u58 u59 u60 u61 u62 u63 u64 u65 u66 u67 u68 u69 u70 u71 u72 u73 u74 u75 u76 u77 u78 u79 u80 u81 u82 u83 u84 u85 u86 u87 u88 u89 u90 u91 u92 u93 u94 u95 u96 u97 u98 u99 u100 u101 u102 u103 u104 u105 u106 u107 u108 u109 u110 u111 u112 u113 u114 u115 u116 u117 u118 u119 u120 u121 u122 u123 u124 u125 u126 u127 u128 u129 u130 u131 u132 u133 u134 u135 u136 u137 u138 u139 u140 u141 u142 u143 u144 u145 u146 u147 u148 u149 u150 u151 u152 u153 u154 u155 u156 u157 u158 u159 u160 u161 u162 u163 u164 u165 u166 u167 u168 u169 u170 u171 u172 u173 u174 u175 u176 u177 u178 u179 u180 u181 u182 u183 u184 u185 u186 u187 u188 u189 u190 u191 u192 u193 u194 u195 u196 u197 u198 u199 u200 u201 u202 u203 u204 u205 u206 u207 u208 u209 u210 u211 u212 c26 c27 c28 c29 c30 hend hlt h200 hel0 hel1 hI1 hI2 a2
    by_cases a3 : kind.tmod 4 = 3
    · exact once_3 g o kind num w1 w li hli l1 gl gs k L.length cA ln st A B D heard va vb vd hinv hst k2 kL hlen _ Q0 u4 u12 u13 u14 u15 u16 u17 u18 u19 u20 u21 u22 u31 u32 u33 u34 u35 u36 u37 u38 u39 u40 u41 u42 u43 u44 u45 u46 u47 u48 u49 u50 u51 u52 u53 u54 u55 u56 u57 u58 u59 u60 u61 u62 u63 u64 u65 u66 u67 u68 u69 u70 u71 u72 u73 u74 u75 u76 u77 u78 u79 u80 u81 u82 u83 u84 u85 u86 u87 u88 u89 u90 u91 u92 u93 u94 u95 u96 u97 u98 u99 u100 u101 u102 u103 u104 u105 u106 u107 u108 u109 u110 u111 u112 u113 u114 u115 u116 u117 u118 u119 u120 u121 u122 u123 u124 u125 u126 u127 u128 u129 u130 u131 u132 u133 u134 u135 u136 u137 u138 u139 u140 u141 u142 u143 u144 u145 u146 u147 u148 u149 u150 u151 u152 u153 u154 u155 u156 u157 u158 u159 u160 u161 u162 u163 u164 u165 u166 u167 u168 u169 u170 u171 u172 u173 u174 u175 u176 u177 u178 u179 u180 u181 u182 u183 u184 u185 u186 u187 u188 u189 u190 u191 u192 u193 u194 u195 u196 u197 u198 u199 u200 u201 u202 u203 u204 u205 u206 u207 u208 u209 u210 u211 u212 c26 c27 c28 c29 c30 hend hlt h200 hel0 hel1 hI1 hI2 a3
    exact once_4 g o kind num w1 w li hli l1 gl gs k L.length cA ln st A B D heard va vb vd hinv hst k2 kL hlen _ Q0 u4 u12 u13 u14 u15 u16 u17 u18 u19 u20 u21 u22 u31 u32 u33 u34 u35 u36 u37 u38 u39 u40 u41 u42 u43 u44 u45 u46 u47 u48 u49 u50 u51 u52 u53 u54 u55 u56 u57 u58 u59 u60 u61 u62 u63 u64 u65 u66 u67 u68 u69 u70 u71 u72 u73 u74 u75 u76 u77 u78 u79 u80 u81 u82 u83 u84 u85 u86 u87 u88 u89 u90 u91 u92 u93 u94 u95 u96 u97 u98 u99 u100 u101 u102 u103 u104 u105 u106 u107 u108 u109 u110 u111 u112 u113 u114 u115 u116 u117 u118 u119 u120 u121 u122 u123 u124 u125 u126 u127 u128 u129 u130 u131 u132 u133 u134 u135 u136 u137 u138 u139 u140 u141 u142 u143 u144 u145 u146 u147 u148 u149 u150 u151 u152 u153 u154 u155 u156 u157 u158 u159 u160 u161 u162 u163 u164 u165 u166 u167 u168 u169 u170 u171 u172 u173 u174 u175 u176 u177 u178 u179 u180 u181 u182 u183 u184 u185 u186 u187 u188 u189 u190 u191 u192 u193 u194 u195 u196 u197 u198 u199 u200 u201 u202 u203 u204 u205 u206 u207 u208 u209 u210 u211 u212 c26 c27 c28 c29 c30 hend hlt h200 hel0 hel1 hI1 hI2 a0 a1 a2 a3

set_option maxRecDepth 100000 in
set_option maxHeartbeats 4000000 in
theorem once_loop (w0 w1 : World) (li : Int) (hli : U li) (l1 : 1 ≤ li) (gl gs cA : Nat) (AA : Option Addr) (L : List (Int × Int)) (k1 : Only [] w0 w1) (hL : Acts w0 AA L) (hr : ∀ x ∈ L, I x.1 ∧ I x.2) (hlen : L.length ≤ 9223372036854775807) (Q0 : Exit → Act → World → Prop)
    (hexit : ∀ a' w', WI w1 li gl gs L.length cA AA a' w' → Q0 (.exit 0) a' w') (w : World) (ln : Ln) (st : Sat) (hst : St8 w1 w gl gs ln st (.slice none 0 0) (.slice none 0 0) (.slice none 0 0) [] [] []) (hinv : Inv li 0 ln st [] [] [] 0) (u4 u12 u13 u14 u15 u16 u17 u18 u19 u20 u21 u22 u31 u32 u33 u34 u35 u36 u37 u38 u39 u40 u41 u42 u43 u44 u45 u46 u47 u48 u49 u50 u51 u52 u53 u54 u55 u56 u57 u58 u59 u60 u61 u62 u63 u64 u65 u66 u67 u68 u69 u70 u71 u72 u73 u74 u75 u76 u77 u78 u79 u80 u81 u82 u83 u84 u85 u86 u87 u88 u89 u90 u91 u92 u93 u94 u95 u96 u97 u98 u99 u100 u101 u102 u103 u104 u105 u106 u107 u108 u109 u110 u111 u112 u113 u114 u115 u116 u117 u118 u119 u120 u121 u122 u123 u124 u125 u126 u127 u128 u129 u130 u131 u132 u133 u134 u135 u136 u137 u138 u139 u140 u141 u142 u143 u144 u145 u146 u147 u148 u149 u150 u151 u152 u153 u154 u155 u156 u157 u158 u159 u160 u161 u162 u163 u164 u165 u166 u167 u168 u169 u170 u171 u172 u173 u174 u175 u176 u177 u178 u179 u180 u181 u182 u183 u184 u185 u186 u187 u188 u189 u190 u191 u192 u193 u194 u195 u196 u197 u198 u199 u200 u201 u202 u203 u204 u205 u206 u207 u208 u209 u210 u211 u212 c26 c27 c28 c29 c30 : Value) :
    Code.wp Try.prog (Code.loop onceBody) Q0 ⟨#[.int .u32 li, .slice AA L.length cA, undef, undef, u4, .pointer (some ⟨gl, 0, none⟩), .pointer (some ⟨gs, 0, none⟩), .slice none 0 0, .slice none 0 0, .slice none 0 0, .int .i64 0, .int .i64 0, u12, u13, u14, u15, u16, u17, u18, u19, u20, u21, u22, undef, .bool true, .bool false, c26, c27, c28, c29, c30, u31, u32, u33, u34, u35, u36, u37, u38, u39, u40, u41, u42, u43, u44, u45, u46, u47, u48, u49, u50, u51, u52, u53, u54, u55, u56, u57, u58, u59, u60, u61, u62, u63, u64, u65, u66, u67, u68, u69, u70, u71, u72, u73, u74, u75, u76, u77, u78, u79, u80, u81, u82, u83, u84, u85, u86, u87, u88, u89, u90, u91, u92, u93, u94, u95, u96, u97, u98, u99, u100, u101, u102, u103, u104, u105, u106, u107, u108, u109, u110, u111, u112, u113, u114, u115, u116, u117, u118, u119, u120, u121, u122, u123, u124, u125, u126, u127, u128, u129, u130, u131, u132, u133, u134, u135, u136, u137, u138, u139, u140, u141, u142, u143, u144, u145, u146, u147, u148, u149, u150, u151, u152, u153, u154, u155, u156, u157, u158, u159, u160, u161, u162, u163, u164, u165, u166, u167, u168, u169, u170, u171, u172, u173, u174, u175, u176, u177, u178, u179, u180, u181, u182, u183, u184, u185, u186, u187, u188, u189, u190, u191, u192, u193, u194, u195, u196, u197, u198, u199, u200, u201, u202, u203, u204, u205, u206, u207, u208, u209, u210, u211, u212, undef, undef, undef, undef, undef, undef, undef, undef, undef, undef, undef, undef, undef, undef, undef, undef, undef, undef, undef, undef, undef, undef, undef, undef, undef, undef, undef, undef, undef], []⟩ w :=
  wp_loop (WI w1 li gl gs L.length cA AA) (Wmu L.length) (WI.mk 0 ln st [] [] [] 0 _ _ _ _ _ w rfl rfl (by omega) (by omega) hinv hst u4 u12 u13 u14 u15 u16 u17 u18 u19 u20 u21 u22 u31 u32 u33 u34 u35 u36 u37 u38 u39 u40 u41 u42 u43 u44 u45 u46 u47 u48 u49 u50 u51 u52 u53 u54 u55 u56 u57 u58 u59 u60 u61 u62 u63 u64 u65 u66 u67 u68 u69 u70 u71 u72 u73 u74 u75 u76 u77 u78 u79 u80 u81 u82 u83 u84 u85 u86 u87 u88 u89 u90 u91 u92 u93 u94 u95 u96 u97 u98 u99 u100 u101 u102 u103 u104 u105 u106 u107 u108 u109 u110 u111 u112 u113 u114 u115 u116 u117 u118 u119 u120 u121 u122 u123 u124 u125 u126 u127 u128 u129 u130 u131 u132 u133 u134 u135 u136 u137 u138 u139 u140 u141 u142 u143 u144 u145 u146 u147 u148 u149 u150 u151 u152 u153 u154 u155 u156 u157 u158 u159 u160 u161 u162 u163 u164 u165 u166 u167 u168 u169 u170 u171 u172 u173 u174 u175 u176 u177 u178 u179 u180 u181 u182 u183 u184 u185 u186 u187 u188 u189 u190 u191 u192 u193 u194 u195 u196 u197 u198 u199 u200 u201 u202 u203 u204 u205 u206 u207 u208 u209 u210 u211 u212 c26 c27 c28 c29 c30) (fun a w' hI => once_round w0 w1 li hli l1 gl gs cA AA L k1 hL hr hlen Q0 hexit a w' hI)

set_option maxRecDepth 100000 in
set_option maxHeartbeats 4000000 in
theorem laneOnce_pos (w : World) (li : Int) (AA : Option Addr) (cA : Nat) (L : List (Int × Int)) (hli : U li) (l1 : 1 ≤ li) (hL : Acts w AA L) (hr : ∀ x ∈ L, I x.1 ∧ I x.2) (hlen : L.length ≤ 9223372036854775807) :
    Calls Try.prog 6 #[.int .u32 li, .slice AA L.length cA] w fun e w' => e = .returned (.bool true) ∧ Only [] w w' := by
  have d0 : (li == 0) = false := by simp; omega
  go_enter Try.func6, Try.ntmps6
  go_wp2_with fail
  refine (alive_any _).mono ?_; rintro e w1 ⟨rfl, k1⟩
  have hst : St8 w1 ((w1.alloc (.cells #[.int .u32 li, .int .u32 3, .int .u32 0, .bool false, .string ⟨#[]⟩, .int .i64 0, .int .i64 0] 30)).alloc (.cells #[.int .u32 0, .int .u32 0, .string ⟨#[]⟩] 24))
      w1.heap.size (w1.heap.size + 1) ⟨li, 3, 0, false, ⟨#[]⟩, 0, 0⟩ ⟨0, 0, ⟨#[]⟩⟩ (.slice none 0 0) (.slice none 0 0) (.slice none 0 0) [] [] [] := St8.start w1 li
  replace hst := Lib.hid hst
  go_wp2_with fail
  generalize w1.heap.size + 1 = gs at *
  generalize w1.heap.size = gl at *
  refine once_loop w w1 li hli l1 gl gs cA AA L k1 hL hr hlen _ ?_ _ _ _ hst.out (Inv.start li) _ _ _ _ _ _ _ _ _ _ _ _ _ _ _ _ _ _ _ _ _ _ _ _ _ _ _ _ _ _ _ _ _ _ _ _ _ _ _ _ _ _ _ _ _ _ _ _ _ _ _ _ _ _ _ _ _ _ _ _ _ _ _ _ _ _ _ _ _ _ _ _ _ _ _ _ _ _ _ _ _ _ _ _ _ _ _ _ _ _ _ _ _ _ _ _ _ _ _ _ _ _ _ _ _ _ _ _ _ _ _ _ _ _ _ _ _ _ _ _ _ _ _ _ _ _ _ _ _ _ _ _ _ _ _ _ _ _ _ _ _ _ _ _ _ _ _ _ _ _ _ _ _ _ _ _ _ _ _ _ _ _ _ _ _ _ _ _ _ _ _ _ _ _ _ _ _ _ _ _ _ _ _ _ _ _ _ _ _ _ _ _ _ _ _ _ _ _ _
  intro a' w' hI
  cases hI with
  | mk k ln st A B D heard va vb vd hh ii wx hii hhh k2 kL hinv hst' u4 u12 u13 u14 u15 u16 u17 u18 u19 u20 u21 u22 u31 u32 u33 u34 u35 u36 u37 u38 u39 u40 u41 u42 u43 u44 u45 u46 u47 u48 u49 u50 u51 u52 u53 u54 u55 u56 u57 u58 u59 u60 u61 u62 u63 u64 u65 u66 u67 u68 u69 u70 u71 u72 u73 u74 u75 u76 u77 u78 u79 u80 u81 u82 u83 u84 u85 u86 u87 u88 u89 u90 u91 u92 u93 u94 u95 u96 u97 u98 u99 u100 u101 u102 u103 u104 u105 u106 u107 u108 u109 u110 u111 u112 u113 u114 u115 u116 u117 u118 u119 u120 u121 u122 u123 u124 u125 u126 u127 u128 u129 u130 u131 u132 u133 u134 u135 u136 u137 u138 u139 u140 u141 u142 u143 u144 u145 u146 u147 u148 u149 u150 u151 u152 u153 u154 u155 u156 u157 u158 u159 u160 u161 u162 u163 u164 u165 u166 u167 u168 u169 u170 u171 u172 u173 u174 u175 u176 u177 u178 u179 u180 u181 u182 u183 u184 u185 u186 u187 u188 u189 u190 u191 u192 u193 u194 u195 u196 u197 u198 u199 u200 u201 u202 u203 u204 u205 u206 u207 u208 u209 u210 u211 u212 c26 c27 c28 c29 =>
    rename_i c30
    subst hii
    subst hhh
    clear hst
    have hst := hst'
    clear hst'
    obtain ⟨pA, cpA, rfl, eA⟩ := own_shape sntE_length hst.a
    obtain ⟨pB, cpB, rfl, eB⟩ := own_shape sntE_length hst.b
    obtain ⟨pD, cpD, rfl, eD⟩ := own_shape numE_length hst.d
    obtain ⟨y0, y1, n, out, body, left, gap⟩ := ln
    have e0 : li = y0 := hinv.lif.symm
    have e1 : 3 = y1 := hinv.boot.symm
    subst e0 e1
    have lD := hinv.ld
    have lH := hinv.heards
    have hni := hinv.ni
    have hdone := hinv.done
    simp only at lD hni
    have hD : D.length ≤ 200 := by omega
    have g0 : decide (heard ≤ (D.length : Int)) = true := by simp; omega
    have g1 : decide ((D.length : Int) ≤ n) = true := by simp; omega
    have g2 : IntKind.u32.wrap (D.length : Int) = (D.length : Int) := by rw [IntKind.wrap_u32]; omega
    replace hdone := Lib.hid hdone
    replace g2 := Lib.hid g2
    clear hinv lD lH hni eA eB hL hr hlen
    go_wp2_with fail
    go_loopw [23] (fun x w4 => ∃ m : Nat, m ≤ D.length ∧ x = .int .i64 m ∧ w4 = w') (fun x _ => D.length - (intOf x).toNat)
    case atStart => exact ⟨0, by omega, rfl, by simp⟩
    case round =>
      obtain ⟨m, hm, rfl, rfl⟩ := hrel
      by_cases hmd : m < D.length
      · obtain ⟨gd, od, rfl, _, hat⟩ := eD.get hmd
        have hc := hat m hmd 0 _ rfl
        rw [hdone.out m hmd] at hc
        rw [show od + m * 1 + 0 = od + m by omega] at hc
        clear hat hdone g0 g1 g2 eD
        go_wp2_with fail
        go_roundw
        case rel => exact ⟨m + 1, by omega, by go_num, by simp⟩
        case measure => simp [intOf]; omega
      · go_wp2_with fail
        refine (alive_any _).mono ?_; rintro e w9 ⟨rfl, k9⟩
        have S9 := hst.keep k9
        obtain ⟨c0, c1, c2, c3, c4, c5, c6⟩ := S9.line.seven (Only.refl [] _) (by simp)
        replace g2 := g2.out
        go_wp2
        go_ret
        exact ⟨rfl, k1.trans S9.only⟩

set_option maxRecDepth 100000 in
set_option maxHeartbeats 4000000 in
theorem laneOnce_zero (w : World) (AA : Option Addr) (cA : Nat) (L : List (Int × Int)) (hL : Acts w AA L) (hr : ∀ x ∈ L, I x.1 ∧ I x.2) (hlen : L.length ≤ 9223372036854775807) :
    Calls Try.prog 6 #[.int .u32 0, .slice AA L.length cA] w fun e w' => e = .returned (.bool true) ∧ Only [] w w' := by
  go_enter Try.func6, Try.ntmps6
  go_wp2_with fail
  refine (alive_any _).mono ?_; rintro e w1 ⟨rfl, k1⟩
  have hst : St8 w1 ((w1.alloc (.cells #[.int .u32 1, .int .u32 3, .int .u32 0, .bool false, .string ⟨#[]⟩, .int .i64 0, .int .i64 0] 30)).alloc (.cells #[.int .u32 0, .int .u32 0, .string ⟨#[]⟩] 24))
      w1.heap.size (w1.heap.size + 1) ⟨1, 3, 0, false, ⟨#[]⟩, 0, 0⟩ ⟨0, 0, ⟨#[]⟩⟩ (.slice none 0 0) (.slice none 0 0) (.slice none 0 0) [] [] [] := St8.start w1 1
  replace hst := Lib.hid hst
  go_wp2_with fail
  generalize w1.heap.size + 1 = gs at *
  generalize w1.heap.size = gl at *
  refine once_loop w w1 1 ⟨by omega, by omega⟩ (by omega) gl gs cA AA L k1 hL hr hlen _ ?_ _ _ _ hst.out (Inv.start 1) _ _ _ _ _ _ _ _ _ _ _ _ _ _ _ _ _ _ _ _ _ _ _ _ _ _ _ _ _ _ _ _ _ _ _ _ _ _ _ _ _ _ _ _ _ _ _ _ _ _ _ _ _ _ _ _ _ _ _ _ _ _ _ _ _ _ _ _ _ _ _ _ _ _ _ _ _ _ _ _ _ _ _ _ _ _ _ _ _ _ _ _ _ _ _ _ _ _ _ _ _ _ _ _ _ _ _ _ _ _ _ _ _ _ _ _ _ _ _ _ _ _ _ _ _ _ _ _ _ _ _ _ _ _ _ _ _ _ _ _ _ _ _ _ _ _ _ _ _ _ _ _ _ _ _ _ _ _ _ _ _ _ _ _ _ _ _ _ _ _ _ _ _ _ _ _ _ _ _ _ _ _ _ _ _ _ _ _ _ _ _ _ _ _ _ _ _ _ _
  intro a' w' hI
  cases hI with
  | mk k ln st A B D heard va vb vd hh ii wx hii hhh k2 kL hinv hst' u4 u12 u13 u14 u15 u16 u17 u18 u19 u20 u21 u22 u31 u32 u33 u34 u35 u36 u37 u38 u39 u40 u41 u42 u43 u44 u45 u46 u47 u48 u49 u50 u51 u52 u53 u54 u55 u56 u57 u58 u59 u60 u61 u62 u63 u64 u65 u66 u67 u68 u69 u70 u71 u72 u73 u74 u75 u76 u77 u78 u79 u80 u81 u82 u83 u84 u85 u86 u87 u88 u89 u90 u91 u92 u93 u94 u95 u96 u97 u98 u99 u100 u101 u102 u103 u104 u105 u106 u107 u108 u109 u110 u111 u112 u113 u114 u115 u116 u117 u118 u119 u120 u121 u122 u123 u124 u125 u126 u127 u128 u129 u130 u131 u132 u133 u134 u135 u136 u137 u138 u139 u140 u141 u142 u143 u144 u145 u146 u147 u148 u149 u150 u151 u152 u153 u154 u155 u156 u157 u158 u159 u160 u161 u162 u163 u164 u165 u166 u167 u168 u169 u170 u171 u172 u173 u174 u175 u176 u177 u178 u179 u180 u181 u182 u183 u184 u185 u186 u187 u188 u189 u190 u191 u192 u193 u194 u195 u196 u197 u198 u199 u200 u201 u202 u203 u204 u205 u206 u207 u208 u209 u210 u211 u212 c26 c27 c28 c29 =>
    rename_i c30
    subst hii
    subst hhh
    clear hst
    have hst := hst'
    clear hst'
    obtain ⟨pA, cpA, rfl, eA⟩ := own_shape sntE_length hst.a
    obtain ⟨pB, cpB, rfl, eB⟩ := own_shape sntE_length hst.b
    obtain ⟨pD, cpD, rfl, eD⟩ := own_shape numE_length hst.d
    obtain ⟨y0, y1, n, out, body, left, gap⟩ := ln
    have e0 : 1 = y0 := hinv.lif.symm
    have e1 : 3 = y1 := hinv.boot.symm
    subst e0 e1
    have lD := hinv.ld
    have lH := hinv.heards
    have hni := hinv.ni
    have hdone := hinv.done
    simp only at lD hni
    have hD : D.length ≤ 200 := by omega
    have g0 : decide (heard ≤ (D.length : Int)) = true := by simp; omega
    have g1 : decide ((D.length : Int) ≤ n) = true := by simp; omega
    have g2 : IntKind.u32.wrap (D.length : Int) = (D.length : Int) := by rw [IntKind.wrap_u32]; omega
    replace hdone := Lib.hid hdone
    replace g2 := Lib.hid g2
    clear hinv lD lH hni eA eB hL hr hlen
    go_wp2_with fail
    go_loopw [23] (fun x w4 => ∃ m : Nat, m ≤ D.length ∧ x = .int .i64 m ∧ w4 = w') (fun x _ => D.length - (intOf x).toNat)
    case atStart => exact ⟨0, by omega, rfl, by simp⟩
    case round =>
      obtain ⟨m, hm, rfl, rfl⟩ := hrel
      by_cases hmd : m < D.length
      · obtain ⟨gd, od, rfl, _, hat⟩ := eD.get hmd
        have hc := hat m hmd 0 _ rfl
        rw [hdone.out m hmd] at hc
        rw [show od + m * 1 + 0 = od + m by omega] at hc
        clear hat hdone g0 g1 g2 eD
        go_wp2_with fail
        go_roundw
        case rel => exact ⟨m + 1, by omega, by go_num, by simp⟩
        case measure => simp [intOf]; omega
      · go_wp2_with fail
        refine (alive_any _).mono ?_; rintro e w9 ⟨rfl, k9⟩
        have S9 := hst.keep k9
        obtain ⟨c0, c1, c2, c3, c4, c5, c6⟩ := S9.line.seven (Only.refl [] _) (by simp)
        replace g2 := g2.out
        go_wp2
        go_ret
        exact ⟨rfl, k1.trans S9.only⟩

theorem laneOnce_walk (w : World) (li : Int) (AA : Option Addr) (cA : Nat) (L : List (Int × Int)) (hli : U li) (hL : Acts w AA L) (hr : ∀ x ∈ L, I x.1 ∧ I x.2) (hlen : L.length ≤ 9223372036854775807) :
    Calls Try.prog 6 #[.int .u32 li, .slice AA L.length cA] w fun e w' => e = .returned (.bool true) ∧ Only [] w w' := by
  by_cases h : li = 0
  · subst h
    exact laneOnce_zero w AA cA L hL hr hlen
  · exact laneOnce_pos w li AA cA L hli (by have := hli.1; omega) hL hr hlen

end Go.Proofs.Ytjogdilkdnnhnaa
