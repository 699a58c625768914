/- PublishPlays: the switch, some of its ways. -/
import Derived.Test.YtkdidinekoaobaaGreatDoorPstep
namespace Go.Proofs.YtkdidinekoaobaaGreatDoor.P
open Go.RowKit M J
set_option linter.unusedVariables false
set_option linter.unusedSimpArgs false

set_option maxHeartbeats 4000000 in
set_option maxRecDepth 1000000 in
theorem sw_put {W : World} {B pb qb mb ob i : Nat} {w1 : World} {o : Opq} {S : Rs} {m : Mf} {ma : Option Addr} {mc : Nat} {c0 c1 c2 c3 c7 c10 c11 c12 c13 c14 c15 c16 c17 c18 c19 c20 c21 c22 c23 c24 c25 c26 c27 c28 c29 c30 c31 c32 c33 c34 c35 c36 c37 c38 c39 c40 c41 c42 c43 c44 c45 c46 c47 c48 c49 c50 c51 c52 c53 c54 c55 c56 c57 c58 c59 c60 c61 c62 c63 c64 c65 c66 c67 c69 c70 c71 c72 c73 c74 c75 c76 c77 c78 c79 c80 c81 c82 c83 c84 c85 c86 c87 c88 c89 c90 c91 c92 c93 c94 c95 c96 c97 c98 c99 c100 c101 c102 c103 c104 c105 c106 c107 c108 c109 c110 c111 c112 c113 c114 c115 c116 c117 c118 c119 c120 c121 c122 c123 c124 c125 c126 c127 c128 c129 c130 c131 c132 c133 c134 c135 c136 c137 c138 c139 c140 c141 c142 c143 c144 c145 c146 c147 c148 c149 c150 c151 c152 c153 c154 c155 c156 c157 c158 c159 c160 c161 c162 c163 c164 c165 c166 c167 c168 c169 c170 c171 c172 c173 c174 c175 c176 c177 c178 c179 c180 c181 c182 c183 c184 c185 c186 c187 c188 c189 c190 c191 c192 c193 c194 c195 c196 c197 c198 c199 c200 c201 c202 c203 c204 c205 c206 c207 c208 c209 c210 c211 c212 c213 c214 c215 c216 c217 c218 c219 c220 c221 c222 c223 c224 c225 c226 c227 c228 c229 c230 c231 c232 c233 c234 c235 c236 c237 c238 c239 c240 c241 c242 c243 c244 c245 c246 c247 c248 c249 c250 c251 c252 c253 c254 c255 c256 c257 c258 c259 c260 c261 : Value} (h : Stp W B pb qb mb ob i w1 o S m ma mc) (hd : o.d = 6) {Q : Exit → Act → World → Prop}
    (hQ : ∀ (u10 u11 u12 u13 u14 u15 u16 u17 u18 u19 u20 u21 u22 u23 u24 u25 u26 u27 u28 u69 u70 u71 u72 u73 u74 u75 u76 u77 u78 u79 u80 u81 u82 u83 u84 u85 u86 u87 u88 u89 u90 u91 u92 u93 u94 u95 u96 u97 u98 u99 u100 u101 u102 u103 u104 u105 u106 u107 u108 u109 u110 u111 u112 u113 u114 u115 u116 u117 u118 u119 u120 u121 u122 u123 u124 u125 u126 u127 u128 u129 u130 u131 u132 u133 u134 u135 u136 u137 u138 u139 u140 u141 u142 u143 u144 u145 u146 u147 u148 u149 u150 u151 u152 u153 u154 u155 u156 u157 u158 u159 u160 u161 u162 u163 u164 u165 u166 u167 u168 u169 u170 u171 u172 u173 u174 u175 u176 u177 u178 u179 u180 u181 u182 u183 u184 u185 u186 u187 u188 u189 u190 u191 u192 u193 u194 u195 u196 u197 u198 u199 u200 u201 u202 u203 u204 u205 u206 u207 u208 u209 u210 u211 u212 u213 u214 u215 u216 u217 u218 u219 u220 u221 u222 u223 u224 u225 u226 u227 u228 u229 u230 u231 u232 u233 u234 u235 u236 u237 u238 u239 u240 u241 u242 u243 u244 u245 u246 u247 u248 u249 : Value) (wc : World), Done W B pb qb mb i wc → Q .normal ⟨#[c0, c1, c2, c3, .pointer (some ⟨pb, 0, none⟩), .pointer (some ⟨qb, 0, none⟩), .pointer (some ⟨mb, 0, none⟩), c7, .pointer (some ⟨ob, 0, none⟩), .bool true, u10, u11, u12, u13, u14, u15, u16, u17, u18, u19, u20, u21, u22, u23, u24, u25, u26, u27, u28, c29, c30, c31, c32, c33, c34, c35, c36, c37, c38, c39, c40, c41, c42, c43, c44, c45, c46, c47, c48, c49, c50, c51, c52, c53, c54, c55, c56, c57, c58, c59, c60, c61, c62, c63, c64, c65, c66, c67, .int .i64 o.d, u69, u70, u71, u72, u73, u74, u75, u76, u77, u78, u79, u80, u81, u82, u83, u84, u85, u86, u87, u88, u89, u90, u91, u92, u93, u94, u95, u96, u97, u98, u99, u100, u101, u102, u103, u104, u105, u106, u107, u108, u109, u110, u111, u112, u113, u114, u115, u116, u117, u118, u119, u120, u121, u122, u123, u124, u125, u126, u127, u128, u129, u130, u131, u132, u133, u134, u135, u136, u137, u138, u139, u140, u141, u142, u143, u144, u145, u146, u147, u148, u149, u150, u151, u152, u153, u154, u155, u156, u157, u158, u159, u160, u161, u162, u163, u164, u165, u166, u167, u168, u169, u170, u171, u172, u173, u174, u175, u176, u177, u178, u179, u180, u181, u182, u183, u184, u185, u186, u187, u188, u189, u190, u191, u192, u193, u194, u195, u196, u197, u198, u199, u200, u201, u202, u203, u204, u205, u206, u207, u208, u209, u210, u211, u212, u213, u214, u215, u216, u217, u218, u219, u220, u221, u222, u223, u224, u225, u226, u227, u228, u229, u230, u231, u232, u233, u234, u235, u236, u237, u238, u239, u240, u241, u242, u243, u244, u245, u246, u247, u248, u249, c250, c251, c252, c253, c254, c255, c256, c257, c258, c259, c260, c261], []⟩ wc) : Code.wp Tryz.prog theSwitch Q ⟨#[c0, c1, c2, c3, .pointer (some ⟨pb, 0, none⟩), .pointer (some ⟨qb, 0, none⟩), .pointer (some ⟨mb, 0, none⟩), c7, .pointer (some ⟨ob, 0, none⟩), .bool true, c10, c11, c12, c13, c14, c15, c16, c17, c18, c19, c20, c21, c22, c23, c24, c25, c26, c27, c28, c29, c30, c31, c32, c33, c34, c35, c36, c37, c38, c39, c40, c41, c42, c43, c44, c45, c46, c47, c48, c49, c50, c51, c52, c53, c54, c55, c56, c57, c58, c59, c60, c61, c62, c63, c64, c65, c66, c67, .int .i64 o.d, c69, c70, c71, c72, c73, c74, c75, c76, c77, c78, c79, c80, c81, c82, c83, c84, c85, c86, c87, c88, c89, c90, c91, c92, c93, c94, c95, c96, c97, c98, c99, c100, c101, c102, c103, c104, c105, c106, c107, c108, c109, c110, c111, c112, c113, c114, c115, c116, c117, c118, c119, c120, c121, c122, c123, c124, c125, c126, c127, c128, c129, c130, c131, c132, c133, c134, c135, c136, c137, c138, c139, c140, c141, c142, c143, c144, c145, c146, c147, c148, c149, c150, c151, c152, c153, c154, c155, c156, c157, c158, c159, c160, c161, c162, c163, c164, c165, c166, c167, c168, c169, c170, c171, c172, c173, c174, c175, c176, c177, c178, c179, c180, c181, c182, c183, c184, c185, c186, c187, c188, c189, c190, c191, c192, c193, c194, c195, c196, c197, c198, c199, c200, c201, c202, c203, c204, c205, c206, c207, c208, c209, c210, c211, c212, c213, c214, c215, c216, c217, c218, c219, c220, c221, c222, c223, c224, c225, c226, c227, c228, c229, c230, c231, c232, c233, c234, c235, c236, c237, c238, c239, c240, c241, c242, c243, c244, c245, c246, c247, c248, c249, c250, c251, c252, c253, c254, c255, c256, c257, c258, c259, c260, c261], []⟩ w1 := by
  have t0 : (o.d == 0) = false := by simp; omega
  have t1 : (o.d == 1) = false := by simp; omega
  have t2 : (o.d == 2) = false := by simp; omega
  have t3 : (o.d == 3) = false := by simp; omega
  have t4 : (o.d == 4) = false := by simp; omega
  have t5 : (o.d == 5) = false := by simp; omega
  have t6 : (o.d == 6) = true := by simp [hd]
  clear hd
  have HST := Lib.hid h
  have hst1 : Fr B (Xs mb ma m.segs ob) w1 w1 := Fr.refl
  have HAT : Hid (∀ W, Fr B (Xs mb ma m.segs ob) w1 W → _) := Lib.hid (fun W hW => h.at (W' := W) hW)
  have hwat := h.wat
  have hroom := h.room
  have hvb := h.vb
  have hsm0 := h.pl.small
  have hfew := h.pl.few
  have hi60 := h.i60
  have hof := h.fit
  have y1 := op_n h.blk
  have y2 := op_nm h.blk
  have y3 := op_b h.blk
  have y4 := op_s h.blk
  have y5 := op_k h.blk
  have HQ := Lib.hid hQ
  clear h hQ
  have hSN : S.n < 1000000000000 := by have := hroom.1; omega
  have hSL : S.obs.length < 1000000000 := by have := hroom.2.2; omega
  have f1 : o.nm.length ≤ 9223372036854775807 := hof.nm
  have hnm := HST.out.lnm
  have hlb := HST.out.lb
  obtain ⟨hm1, hm2⟩ : Small (i + 1) (takes S (lays S.obs o.nm o.b)) ∧ (takes S (lays S.obs o.nm o.b)).n ≤ S.n + 100 := ⟨small_takes hsm0 hnm (by omega : o.b.length ≤ 1500), by rw [n_takes]; omega⟩
  have HD : Hid (∀ Sr W, Bo B W pb qb (Xs mb ma m.segs ob) S Sr → _) := Lib.hid (fun Sr W (h : Bo B W pb qb (Xs mb ma m.segs ob) S Sr) => bo_put (n := o.nm) (b := o.b) h f1 hSN hSL)
  have HR : Hid (∀ Sd W, Bo B W pb qb (Xs mb ma m.segs ob) Sd S → _) := Lib.hid (fun Sd W (h : Bo B W pb qb (Xs mb ma m.segs ob) Sd S) => bo_refput (n := o.nm) (b := o.b) h f1 hSN hSL)
  have hA2 : ∀ W, Fr B (Xs mb ma m.segs ob) w1 W → W.cell? ⟨ob, 2, none⟩ = some (.string (bs o.nm)) := fun W hW => op_nm (HAT.out W hW)
  have hA3 : ∀ W, Fr B (Xs mb ma m.segs ob) w1 W → W.cell? ⟨ob, 3, none⟩ = some (.string (bs o.b)) := fun W hW => op_b (HAT.out W hW)
  clear y1 y2 y3 y4 y5 hof hvb hroom hsm0 hfew hi60
  conv => arg 2; whnf
  go_wp2_with fail
  go_region_held3 (fun W => Fr B (Xs mb ma m.segs ob) w1 W) (first | assumption | exact hst1 | exact fr_drew hst1 | exact fr_drew ‹_›)
    (first
      | (go_at_call 21
         refine (HD.out _ _ (by first | exact hB4 | exact hB4.drew | exact hwat | exact hwat.drew)).mono ?_
         rintro e w3 ⟨rfl, hB3, hf3⟩
         have hS3 : Fr B (Xs mb ma m.segs ob) w1 w3 := Fr.trans (by assumption) hf3)
      | (go_at_call 22
         refine (HR.out _ _ (by first | exact hB3 | exact hB3.drew | exact hwat | exact hwat.drew)).mono ?_
         rintro e w4 ⟨rfl, ⟨hB4, _⟩, hf4⟩
         have hS4 : Fr B (Xs mb ma m.segs ob) w1 w4 := Fr.trans (by assumption) hf4))
  all_goals
    go_wp2_with fail
    first
      | exact HQ.out _ _ _ _ _ _ _ _ _ _ _ _ _ _ _ _ _ _ _ _ _ _ _ _ _ _ _ _ _ _ _ _ _ _ _ _ _ _ _ _ _ _ _ _ _ _ _ _ _ _ _ _ _ _ _ _ _ _ _ _ _ _ _ _ _ _ _ _ _ _ _ _ _ _ _ _ _ _ _ _ _ _ _ _ _ _ _ _ _ _ _ _ _ _ _ _ _ _ _ _ _ _ _ _ _ _ _ _ _ _ _ _ _ _ _ _ _ _ _ _ _ _ _ _ _ _ _ _ _ _ _ _ _ _ _ _ _ _ _ _ _ _ _ _ _ _ _ _ _ _ _ _ _ _ _ _ _ _ _ _ _ _ _ _ _ _ _ _ _ _ _ _ _ _ _ _ _ _ _ _ _ _ _ _ _ _ _ _ _ _ _ _ _ _ _ _ _ _ _ _ _ (done_same HST.out hB4 hS4 hS4.1.size hm1 hm2)
      | exact HQ.out _ _ _ _ _ _ _ _ _ _ _ _ _ _ _ _ _ _ _ _ _ _ _ _ _ _ _ _ _ _ _ _ _ _ _ _ _ _ _ _ _ _ _ _ _ _ _ _ _ _ _ _ _ _ _ _ _ _ _ _ _ _ _ _ _ _ _ _ _ _ _ _ _ _ _ _ _ _ _ _ _ _ _ _ _ _ _ _ _ _ _ _ _ _ _ _ _ _ _ _ _ _ _ _ _ _ _ _ _ _ _ _ _ _ _ _ _ _ _ _ _ _ _ _ _ _ _ _ _ _ _ _ _ _ _ _ _ _ _ _ _ _ _ _ _ _ _ _ _ _ _ _ _ _ _ _ _ _ _ _ _ _ _ _ _ _ _ _ _ _ _ _ _ _ _ _ _ _ _ _ _ _ _ _ _ _ _ _ _ _ _ _ _ _ _ _ _ _ _ _ _ (done_same HST.out hB3 hS3 hS3.1.size hm1 hm2)

end Go.Proofs.YtkdidinekoaobaaGreatDoor.P
