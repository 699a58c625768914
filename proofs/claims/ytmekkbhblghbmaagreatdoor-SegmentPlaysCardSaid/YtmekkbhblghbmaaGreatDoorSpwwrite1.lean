/- SegmentPlays: the switch, a way of it. -/
import Derived.Test.YtmekkbhblghbmaaGreatDoorSpstep
import Derived.Test.YtmekkbhblghbmaaGreatDoorSpents
namespace Go.Proofs.YtmekkbhblghbmaaGreatDoor
open Go.RowKit
set_option linter.unusedVariables false

set_option maxHeartbeats 4000000 in
set_option maxRecDepth 1000000 in
theorem pw_write1 {W : World} {B pb qb ob : Nat} {W0 W1 : World} {o : Sop} {S : D.St} {c0 c1 c2 c3 c4 c7 c9 c10 c14 c15 c16 c17 c18 c19 c20 c21 c22 c23 c24 c25 c26 c27 c28 c29 c30 c31 c32 c33 c34 c35 c36 c37 c38 c39 c40 c41 c42 c43 c44 c45 c46 c47 c48 c49 c50 c51 c52 c53 c54 c55 c56 c57 c58 c59 c60 c61 c62 c63 c64 c65 c66 c67 c68 c69 c70 c71 c72 c73 c74 c75 c76 c77 c78 c79 c80 c81 c82 c83 c84 c85 c86 c87 c88 c89 c90 c91 c92 c93 c94 c95 c96 c97 c99 c100 c101 c102 c103 c104 c105 c106 c107 c108 c109 c110 c111 c112 c113 c114 c115 c116 c117 c118 c119 c120 c121 c122 c123 c124 c125 c126 c127 c128 c129 c130 c131 c132 c133 c134 c135 c136 c137 c138 c139 c140 c141 c142 c143 c144 c145 c146 c147 c148 c149 c150 c151 c152 c153 c154 c155 c156 c157 c158 c159 c160 c161 c162 c163 c164 c165 c166 c167 c168 c169 c170 c171 c172 c173 c174 c175 c176 c177 c178 c179 c180 c181 c182 c183 c184 c185 c186 c187 c188 c189 c190 c191 c192 c193 c194 c195 c196 c197 c198 c199 c200 c201 c202 c203 c204 c205 c206 c207 c208 c209 c210 c211 c212 c213 c214 c215 c216 c217 c218 c219 c220 c221 c222 c223 c224 c225 c226 c227 c228 c229 c230 c231 c232 c233 c234 c235 c236 c237 c238 c239 c240 c241 c242 c243 c244 c245 c246 c247 c248 c249 c250 c251 c252 c253 c254 c255 c256 c257 c258 c259 c260 c261 c262 c263 c264 c265 c266 c267 c268 c269 c270 c271 c272 c273 c274 c275 c276 c277 c278 c279 c280 c281 c282 c283 c284 c285 c286 c287 c288 c289 c290 c291 c292 c293 c294 c295 c296 c297 c298 c299 c300 c301 c302 c303 c304 c305 c306 c307 c308 c309 c310 c311 c312 c313 c314 c315 c316 c317 c318 c319 c320 c321 c322 c323 c324 c325 c326 c327 c328 c329 c330 c331 c332 c333 c334 c335 c336 c337 c338 c339 c340 c341 c342 c343 c344 c345 c346 c347 c348 c349 c350 c351 c352 c353 c354 c355 c356 c357 c358 c359 c360 c361 c362 c363 c364 c365 c366 c367 c368 c369 c370 c371 c372 c373 c374 c375 c376 c377 c378 c379 c380 c381 c382 c383 c384 c385 c386 c387 c388 c389 c390 c391 c392 c393 c394 c395 c396 c397 c398 c399 c400 c401 c402 c403 c404 c405 c406 c407 c408 c409 c410 c411 c412 : Value} (h : PStep W B pb qb ob W0 W1 o S) (hd : o.d = 1) {Q : Exit → Act → World → Prop}
    (hQ : ∀ (u14 u15 u16 u17 u18 u19 u20 u21 u22 u23 u24 u25 u26 u27 u28 u29 u30 u31 u32 u33 u34 u35 u36 u37 u38 u39 u40 u41 u42 u99 u100 u101 u102 u103 u104 u105 u106 u107 u108 u109 u110 u111 u112 u113 u114 u115 u116 u117 u118 u119 u120 u121 u122 u123 u124 u125 u126 u127 u128 u129 u130 u131 u132 u133 u134 u135 u136 u137 u138 u139 u140 u141 u142 u143 u144 u145 u146 u147 u148 u149 u150 u151 u152 u153 u154 u155 u156 u157 u158 u159 u160 u161 u162 u163 u164 u165 u166 u167 u168 u169 u170 u171 u172 u173 u174 u175 u176 u177 u178 u179 u180 u181 u182 u183 u184 u185 u186 u187 u188 u189 u190 u191 u192 u193 u194 u195 u196 u197 u198 u199 u200 u201 u202 u203 u204 u205 u206 u207 u208 u209 u210 u211 u212 u213 u214 u215 u216 u217 u218 u219 u220 u221 u222 u223 u224 u225 u226 u227 u228 u229 u230 u231 u232 u233 u234 u235 u236 u237 u238 u239 u240 u241 u242 u243 u244 u245 u246 u247 u248 u249 u250 u251 u252 u253 u254 u255 u256 u257 u258 u259 u260 u261 u262 u263 u264 u265 u266 u267 u268 u269 u270 u271 u272 u273 u274 u275 u276 u277 u278 u279 u280 u281 u282 u283 u284 u285 u286 u287 u288 u289 u290 u291 u292 u293 u294 u295 u296 u297 u298 u299 u300 u301 u302 u303 u304 u305 u306 u307 u308 u309 u310 u311 u312 u313 u314 u315 u316 u317 u318 u319 u320 u321 u322 u323 u324 u325 u326 u327 u328 u329 u330 u331 u332 u333 u334 u335 u336 u337 u338 u339 u340 u341 u342 u343 u344 u345 u346 u347 u348 u349 u350 u351 u352 u353 u354 u355 u356 u357 u358 u359 u360 u361 u362 u363 u364 u365 u366 u367 u368 u369 u370 u371 u372 u373 u374 u375 u376 u377 u378 u379 u380 u381 u382 u383 u384 : Value) (wc : World), PDone B pb qb W0 S wc → Q .normal ⟨#[c0, c1, c2, c3, c4, .bool true, .pointer (some ⟨pb, 0, none⟩), c7, .pointer (some ⟨qb, 0, none⟩), c9, c10, .pointer (some ⟨ob, 0, none⟩), .bool true, .bool true, u14, u15, u16, u17, u18, u19, u20, u21, u22, u23, u24, u25, u26, u27, u28, u29, u30, u31, u32, u33, u34, u35, u36, u37, u38, u39, u40, u41, u42, c43, c44, c45, c46, c47, c48, c49, c50, c51, c52, c53, c54, c55, c56, c57, c58, c59, c60, c61, c62, c63, c64, c65, c66, c67, c68, c69, c70, c71, c72, c73, c74, c75, c76, c77, c78, c79, c80, c81, c82, c83, c84, c85, c86, c87, c88, c89, c90, c91, c92, c93, c94, c95, c96, c97, .int .i64 o.d, u99, u100, u101, u102, u103, u104, u105, u106, u107, u108, u109, u110, u111, u112, u113, u114, u115, u116, u117, u118, u119, u120, u121, u122, u123, u124, u125, u126, u127, u128, u129, u130, u131, u132, u133, u134, u135, u136, u137, u138, u139, u140, u141, u142, u143, u144, u145, u146, u147, u148, u149, u150, u151, u152, u153, u154, u155, u156, u157, u158, u159, u160, u161, u162, u163, u164, u165, u166, u167, u168, u169, u170, u171, u172, u173, u174, u175, u176, u177, u178, u179, u180, u181, u182, u183, u184, u185, u186, u187, u188, u189, u190, u191, u192, u193, u194, u195, u196, u197, u198, u199, u200, u201, u202, u203, u204, u205, u206, u207, u208, u209, u210, u211, u212, u213, u214, u215, u216, u217, u218, u219, u220, u221, u222, u223, u224, u225, u226, u227, u228, u229, u230, u231, u232, u233, u234, u235, u236, u237, u238, u239, u240, u241, u242, u243, u244, u245, u246, u247, u248, u249, u250, u251, u252, u253, u254, u255, u256, u257, u258, u259, u260, u261, u262, u263, u264, u265, u266, u267, u268, u269, u270, u271, u272, u273, u274, u275, u276, u277, u278, u279, u280, u281, u282, u283, u284, u285, u286, u287, u288, u289, u290, u291, u292, u293, u294, u295, u296, u297, u298, u299, u300, u301, u302, u303, u304, u305, u306, u307, u308, u309, u310, u311, u312, u313, u314, u315, u316, u317, u318, u319, u320, u321, u322, u323, u324, u325, u326, u327, u328, u329, u330, u331, u332, u333, u334, u335, u336, u337, u338, u339, u340, u341, u342, u343, u344, u345, u346, u347, u348, u349, u350, u351, u352, u353, u354, u355, u356, u357, u358, u359, u360, u361, u362, u363, u364, u365, u366, u367, u368, u369, u370, u371, u372, u373, u374, u375, u376, u377, u378, u379, u380, u381, u382, u383, u384, c385, c386, c387, c388, c389, c390, c391, c392, c393, c394, c395, c396, c397, c398, c399, c400, c401, c402, c403, c404, c405, c406, c407, c408, c409, c410, c411, c412], []⟩ wc) : Code.wp Tryz.prog theSwitch Q ⟨#[c0, c1, c2, c3, c4, .bool true, .pointer (some ⟨pb, 0, none⟩), c7, .pointer (some ⟨qb, 0, none⟩), c9, c10, .pointer (some ⟨ob, 0, none⟩), .bool true, .bool true, c14, c15, c16, c17, c18, c19, c20, c21, c22, c23, c24, c25, c26, c27, c28, c29, c30, c31, c32, c33, c34, c35, c36, c37, c38, c39, c40, c41, c42, c43, c44, c45, c46, c47, c48, c49, c50, c51, c52, c53, c54, c55, c56, c57, c58, c59, c60, c61, c62, c63, c64, c65, c66, c67, c68, c69, c70, c71, c72, c73, c74, c75, c76, c77, c78, c79, c80, c81, c82, c83, c84, c85, c86, c87, c88, c89, c90, c91, c92, c93, c94, c95, c96, c97, .int .i64 o.d, c99, c100, c101, c102, c103, c104, c105, c106, c107, c108, c109, c110, c111, c112, c113, c114, c115, c116, c117, c118, c119, c120, c121, c122, c123, c124, c125, c126, c127, c128, c129, c130, c131, c132, c133, c134, c135, c136, c137, c138, c139, c140, c141, c142, c143, c144, c145, c146, c147, c148, c149, c150, c151, c152, c153, c154, c155, c156, c157, c158, c159, c160, c161, c162, c163, c164, c165, c166, c167, c168, c169, c170, c171, c172, c173, c174, c175, c176, c177, c178, c179, c180, c181, c182, c183, c184, c185, c186, c187, c188, c189, c190, c191, c192, c193, c194, c195, c196, c197, c198, c199, c200, c201, c202, c203, c204, c205, c206, c207, c208, c209, c210, c211, c212, c213, c214, c215, c216, c217, c218, c219, c220, c221, c222, c223, c224, c225, c226, c227, c228, c229, c230, c231, c232, c233, c234, c235, c236, c237, c238, c239, c240, c241, c242, c243, c244, c245, c246, c247, c248, c249, c250, c251, c252, c253, c254, c255, c256, c257, c258, c259, c260, c261, c262, c263, c264, c265, c266, c267, c268, c269, c270, c271, c272, c273, c274, c275, c276, c277, c278, c279, c280, c281, c282, c283, c284, c285, c286, c287, c288, c289, c290, c291, c292, c293, c294, c295, c296, c297, c298, c299, c300, c301, c302, c303, c304, c305, c306, c307, c308, c309, c310, c311, c312, c313, c314, c315, c316, c317, c318, c319, c320, c321, c322, c323, c324, c325, c326, c327, c328, c329, c330, c331, c332, c333, c334, c335, c336, c337, c338, c339, c340, c341, c342, c343, c344, c345, c346, c347, c348, c349, c350, c351, c352, c353, c354, c355, c356, c357, c358, c359, c360, c361, c362, c363, c364, c365, c366, c367, c368, c369, c370, c371, c372, c373, c374, c375, c376, c377, c378, c379, c380, c381, c382, c383, c384, c385, c386, c387, c388, c389, c390, c391, c392, c393, c394, c395, c396, c397, c398, c399, c400, c401, c402, c403, c404, c405, c406, c407, c408, c409, c410, c411, c412], []⟩ W1 := by
  have t0 : (o.d == 0) = false := by simp; omega
  have t1 : (o.d == 1) = true := by simp [hd]
  clear hd
  obtain ⟨hB1, hbk, hb0, hz01, hT, hSL, hof, hrec, hvals, hold, hfew, hshort⟩ := h
  obtain ⟨⟨f1, f2, f3⟩, ⟨f4, f5⟩, f6, f7, f8⟩ := hof
  have HTB := Lib.hid (fun (W : World) (hW : Below W0.heap.size W0 W) => (hT.below hW).mono hz01)
  have HQ := Lib.hid hQ
  clear hQ hT
  have hg := hB1.good.1
  have hroom := wr_room8 S o.n o.l
  have hfit := wrL_fit hg o.n o.l
  have hcnt : (wrL S o.n o.l).length ≤ 40 := Nat.le_trans (wrL_len _ _) hfew
  have hfits : Fits o.l := fun r hr => (f5 r hr).fits
  have HREC := Lib.hid (fun (W : World) (hW : Below W0.heap.size W0 W) => hrec.later (hold.trans (hW.mono hold.size)) (Nat.le_refl _))
  have HC1 := Lib.hid (bo8_e hB1 (fun F hd => segC.write hd (HTB.out _ hb0) o.n o.l o.la o.lc f2.1 f2.2 f4 (HREC.out _ hb0) hfits (by omega)))
  have HR1 := Lib.hid (fun (w2 : World) (X : Nat → Prop) (hB2 : D.Bo B w2 pb qb X (wrS S o.n o.l) S) (hw : Below W0.heap.size W0 w2) => bo8_r hB2 (fun lv hr => refWrite_any hr o.n o.l o.la o.lc f4 (HREC.out _ hw) hfits (by omega)))
  have HG1 := Lib.hid (fun (w2 : World) (X : Nat → Prop) (hB2 : D.Bo B w2 pb qb X (wrS S o.n o.l) (wrS S o.n o.l)) (hw : Below W0.heap.size W0 w2) (k : Nat) (hk : k < (wrL S o.n o.l).length) => show Calls Tryz.prog 15 #[.pointer (some ⟨pb, 0, none⟩), .int .i64 o.n, ev (wrL S o.n o.l)[k]] w2 (fun x w' => x = .returned (gtV (gtR (wrS S o.n o.l) o.n (wrL S o.n o.l)[k])) ∧ Below w2.heap.size w2 w') by
    obtain ⟨F, lv, hd, hr, _, _⟩ := hB2
    exact segC.get hd (HTB.out _ hw) o.n _ f2.1 f2.2 (hfit _ (List.getElem_mem hk)) (by omega))
  have HG2 := Lib.hid (fun (w2 : World) (X : Nat → Prop) (hB2 : D.Bo B w2 pb qb X (wrS S o.n o.l) (wrS S o.n o.l)) (k : Nat) (hk : k < (wrL S o.n o.l).length) => show Calls Tryz.prog 16 #[.pointer (some ⟨qb, 0, none⟩), .int .i64 o.n, ev (wrL S o.n o.l)[k]] w2 (fun x w' => x = .returned (gtV (gtR (wrS S o.n o.l) o.n (wrL S o.n o.l)[k])) ∧ Below w2.heap.size w2 w') by
    obtain ⟨F, lv, hd, hr, _, _⟩ := hB2
    exact refGet_any hr o.n _ (hfit _ (List.getElem_mem hk)) (by omega))
  obtain ⟨_, y1, _, y3, _⟩ := ob_cells hbk
  have hol : ob < W1.heap.size := (Array.getElem?_eq_some_iff.1 hbk).1
  have HOB : Hid (∀ W : World, W.heap[ob]? = W1.heap[ob]? → W.cell? ⟨ob, 1, none⟩ = some (.int .i64 o.n) ∧ W.cell? ⟨ob, 3, none⟩ = some (.slice o.la o.l.length o.lc)) := Lib.hid (fun W hW => by
    obtain ⟨_, z1, _, z3, _⟩ := ob_cells (hW.trans hbk)
    exact ⟨z1, z3⟩)
  generalize wrL S o.n o.l = E at *
  generalize wrE S o.n o.l = x at *
  generalize wrS S o.n o.l = S2 at *
  have HB0 := Lib.hid hb0
  clear hbk hB1 hrec hvals hold f1 f3 f4 f5 f6 f7 f8 hshort hfits hfit hg
  generalize o.la = la at *
  generalize o.lc = lc at *
  generalize o.n = n at *
  obtain ⟨NL, hNL⟩ : ∃ NL, NL = o.l.length := ⟨_, rfl⟩
  simp only [← hNL] at y3 HOB HC1 HR1 hfew
  clear hNL
  conv => arg 2; whnf
  go_wp2_with fail
  refine HC1.out.mono ?_
  rintro e w2 ⟨a2, cap2, rfl, hen2, hnw2, hB2, hf2⟩
  have hk2 : w2.heap[ob]? = W1.heap[ob]? := hf2.2 ob rfl
  have HK2 := Lib.hid hk2
  have HB2 := Lib.hid (HB0.out.trans (hf2.1.mono hz01))
  have HE2 := Lib.hid hen2
  have HR2 := Lib.hid (HR1.out _ _ hB2 HB2.out)
  obtain ⟨N, hN⟩ : ∃ N, N = E.length := ⟨_, rfl⟩
  have HN := Lib.hid hN
  clear y1 y3 hnw2 hB2 hf2 hen2 hN
  obtain ⟨y1, y3⟩ := HOB.out _ hk2
  clear hk2
  rw [← HN.out]
  rw [← HN.out] at hcnt
  try dsimp only
  go_wp2_with fail
  refine HR2.out.mono ?_
  rintro e w3 ⟨⟨b3, cap3, rfl, hen3, hnw3⟩, ⟨hB3, _⟩, hf3⟩
  have HE23 := Lib.hid (HE2.out.keep hf3.1.size (fun h0 A hA => hf3.2 A.block (Or.inr ⟨h0, A, hA, rfl⟩)))
  have HK3 := Lib.hid ((hf3.2 ob (Or.inl rfl)).trans HK2.out)
  have HB3 := Lib.hid (HB2.out.trans (hf3.1.mono hz01))
  have HBo := Lib.hid hB3; have HE3 := Lib.hid hen3
  have HTO := Lib.hid (to8_any E a2 cap2 w3 (by rw [← HN.out]; omega) HE23.out)
  rw [← HN.out] at HTO ⊢
  clear y1 y3 hnw3 hB3 hf3 hen3
  try dsimp only
  go_wp2_with fail
  refine HTO.out.mono ?_
  rintro e w4 ⟨a4, cap4, rfl, hen4, hb4⟩
  have HSM := Lib.hid (esame_yes E a4 b3 cap4 cap3 w4 (by rw [← HN.out]; omega) hen4 (HE3.out.later hb4 (Nat.le_refl _)))
  have HB34 := Lib.hid hb4
  rw [← HN.out] at HSM ⊢
  clear hen4 hb4
  try dsimp only
  go_wp2_with fail
  refine HSM.out.mono ?_
  rintro e w5 ⟨rfl, hb5⟩
  have H35 := Lib.hid (HB34.out.trans (hb5.mono HB34.out.size))
  have HB5 := Lib.hid (HB3.out.trans (H35.out.mono HB3.out.size))
  have HBo5 := Lib.hid (HBo.out.below H35.out)
  have HEA := Lib.hid (HE23.out.later H35.out (Nat.le_refl _)); have HEB := Lib.hid (HE3.out.later H35.out (Nat.le_refl _))
  have HK5 := Lib.hid ((H35.out.block ob (by have h1 := HK3.out; rw [Array.getElem?_eq_getElem hol] at h1; exact (Array.getElem?_eq_some_iff.1 h1).1)).trans HK3.out)
  have HO5 : Hid (ob < w5.heap.size) := Lib.hid (by have h1 := HK5.out; rw [Array.getElem?_eq_getElem hol] at h1; exact (Array.getElem?_eq_some_iff.1 h1).1)
  clear hb5
  try dsimp only
  go_wp2_with fail
  go_loopg [13, 19] N (fun g al it wr => ∃ k : Nat, k + g = N ∧ al = .bool true ∧ it = .int .i64 k ∧ Below w5.heap.size w5 wr)
  case atStart => exact ⟨0, by omega, rfl, rfl, Below.refl _ _⟩
  case round =>
    obtain ⟨k, hk, rfl, rfl, hbw⟩ := hrel
    have HBW := Lib.hid hbw
    have HBR := Lib.hid (HB5.out.trans (hbw.mono HB5.out.size))
    have HBoR := Lib.hid (HBo5.out.below hbw)
    clear hbw
    by_cases hlt : k < N
    · have hlt' : k < E.length := by rw [← HN.out]; exact hlt
      obtain ⟨ga, oa, rfl, hga, p0, p1, p2, p3, p4⟩ := ents_of_mem HEA.out k hlt'
      obtain ⟨gb, obb, rfl, hgb, q0, q1, q2, q3, q4⟩ := ents_of_mem HEB.out k hlt'
      have HQ0 := Lib.hid (And.intro q0 (And.intro q1 (And.intro q2 (And.intro q3 q4))))
      clear q0 q1 q2 q3 q4
      rw [← HBW.out.cell (p := ⟨ga, _, none⟩) hga] at p0 p1 p2 p3 p4
      obtain ⟨y1, _⟩ := HOB.out _ ((HBW.out.block ob HO5.out).trans HK5.out)
      have HGA := Lib.hid (fun (W : World) (hW : PNew wr W) => (HG1.out W _ (HBoR.out.below hW) (HBR.out.trans (hW.mono HBR.out.size)) k hlt').mono (fun e w' h => show e = _ ∧ PNew wr w' ∧ Below W.heap.size W w' from ⟨h.1, PNew.on hW h.2, h.2⟩))
      have HGB := Lib.hid (fun (W : World) (hW : PNew wr W) => (HG2.out W _ (HBoR.out.below hW) k hlt').mono (fun e w' h => show e = _ ∧ Below W.heap.size W w' from h))
      have hF : ∀ W, PNew wr W → W.cell? ⟨ob, 1, none⟩ = some (.int .i64 n) := fun W hW => (HOB.out _ ((Below.block hW ob (by have := HBW.out.size; have := HO5.out; omega)).trans ((HBW.out.block ob HO5.out).trans HK5.out))).1
      have hgar : ga < wr.heap.size := by have := HBW.out.size; omega
      have hgbr : gb < wr.heap.size := by have := HBW.out.size; omega
      have hP : ∀ W, PNew wr W → W.cell? ⟨ga, oa + k * 5, none⟩ = some (.string (bs E[k].k)) ∧ W.cell? ⟨ga, oa + k * 5 + 1, none⟩ = some (.int .i64 E[k].o) ∧ W.cell? ⟨ga, oa + k * 5 + 2, none⟩ = some (.int .i64 E[k].l) ∧ W.cell? ⟨ga, oa + k * 5 + 3, none⟩ = some (.int .u64 ((E[k].q : Nat) : Int)) ∧ W.cell? ⟨ga, oa + k * 5 + 4, none⟩ = some (.bool E[k].g) := fun W hW => by
        rw [Below.cell (p := ⟨ga, _, none⟩) hW hgar, Below.cell (p := ⟨ga, _, none⟩) hW hgar, Below.cell (p := ⟨ga, _, none⟩) hW hgar, Below.cell (p := ⟨ga, _, none⟩) hW hgar, Below.cell (p := ⟨ga, _, none⟩) hW hgar]
        exact ⟨p0, p1, p2, p3, p4⟩
      obtain ⟨q0, q1, q2, q3, q4⟩ := HQ0.out
      rw [← HBW.out.cell (p := ⟨gb, _, none⟩) hgb] at q0 q1 q2 q3 q4
      have hQ : ∀ W, PNew wr W → W.cell? ⟨gb, obb + k * 5, none⟩ = some (.string (bs E[k].k)) ∧ W.cell? ⟨gb, obb + k * 5 + 1, none⟩ = some (.int .i64 E[k].o) ∧ W.cell? ⟨gb, obb + k * 5 + 2, none⟩ = some (.int .i64 E[k].l) ∧ W.cell? ⟨gb, obb + k * 5 + 3, none⟩ = some (.int .u64 ((E[k].q : Nat) : Int)) ∧ W.cell? ⟨gb, obb + k * 5 + 4, none⟩ = some (.bool E[k].g) := fun W hW => by
        rw [Below.cell (p := ⟨gb, _, none⟩) hW hgbr, Below.cell (p := ⟨gb, _, none⟩) hW hgbr, Below.cell (p := ⟨gb, _, none⟩) hW hgbr, Below.cell (p := ⟨gb, _, none⟩) hW hgbr, Below.cell (p := ⟨gb, _, none⟩) hW hgbr]
        exact ⟨q0, q1, q2, q3, q4⟩
      clear p0 p1 p2 p3 p4 q0 q1 q2 q3 q4 y1 hgar hgbr
      simp only [ev] at HGA HGB
      generalize gtR S2 n E[k] = R at *
      obtain ⟨R, y⟩ := R
      simp only [gtV, rv] at HGA HGB
      generalize bs E[k].k = Ke at *
      generalize E[k].o = Oe at *
      generalize E[k].l = Le at *
      generalize ((E[k].q : Nat) : Int) = Qe at *
      generalize E[k].g = Ge at *
      generalize bs R.k = KR at *
      generalize bs R.v = VR at *
      generalize ((R.q : Nat) : Int) = QR at *
      generalize R.g = GR at *
      have hki : (k : Int) < (N : Int) := by omega
      have hk0 : (0 : Int) ≤ (k : Int) := by omega
      have K0 := PNew.refl wr
      have p0 : ∀ W, PNew wr W → W.cell? ⟨ga, oa + k * 5, none⟩ = some (.string Ke) := fun W hW => (hP W hW).1
      have p1 : ∀ W, PNew wr W → W.cell? ⟨ga, oa + k * 5 + 1, none⟩ = some (.int .i64 Oe) := fun W hW => (hP W hW).2.1
      have p2 : ∀ W, PNew wr W → W.cell? ⟨ga, oa + k * 5 + 2, none⟩ = some (.int .i64 Le) := fun W hW => (hP W hW).2.2.1
      have p3 : ∀ W, PNew wr W → W.cell? ⟨ga, oa + k * 5 + 3, none⟩ = some (.int .u64 Qe) := fun W hW => (hP W hW).2.2.2.1
      have p4 : ∀ W, PNew wr W → W.cell? ⟨ga, oa + k * 5 + 4, none⟩ = some (.bool Ge) := fun W hW => (hP W hW).2.2.2.2
      have HQC := Lib.hid hQ; have HPC := Lib.hid hP
      clear hP hQ
      go_wp2_with fail
      go_region_held3 (fun W => PNew wr W) (first | assumption | exact K0 | exact K0.drew | exact PNew.drew ‹_› | exact PNew.alloc ‹_› _ | exact PNew.alloc K0.drew _ | exact PNew.set4 ‹_› _ _ _ _)
        (first
          | (go_at_call 15
             refine (HGA.out _ (by first | assumption | exact K0.drew | exact PNew.drew ‹_›)).mono ?_
             rintro e w6 ⟨rfl, hO6, hb6⟩
             first
               | (have hz6 := new_kept (w := wr) (cs := #[.int .u64 0, .string ⟨#[]⟩, .string ⟨#[]⟩, .bool false]) (T := 47) hb6 rfl
                  obtain ⟨⟨z0, z1, z2, z3⟩, z4, z5, z6, z7⟩ := fresh4 hz6)
               | skip
             try dsimp only))
      all_goals
        first
          | (generalize hW9 : World.alloc _ _ = w9
             have hX : w9.heap[w6.heap.size]? = some (.cells #[.int .u64 QR, .string KR, .string VR, .bool GR] 47 (0, 0)) := by rw [← hW9]; exact heap_alloc_new _ _
             have hO9 : PNew wr w9 := by rw [← hW9]; exact PNew.alloc hO6 _
             obtain ⟨gx, hgx⟩ : ∃ g, g = w6.heap.size := ⟨_, rfl⟩
             rw [← hgx] at hX ⊢
             clear hW9 hgx)
          | (generalize hW9 : World.setCell _ _ _ = w9
             have hX : w9.heap[wr.heap.size]? = some (.cells #[.int .u64 QR, .string KR, .string VR, .bool GR] 47 (0, 0)) := by rw [← hW9]; exact set4_block hz6 _ _ _ _
             have hO9 : PNew wr w9 := by rw [← hW9]; exact PNew.set4 hO6 _ _ _ _
             obtain ⟨gx, hgx⟩ : ∃ g, g = wr.heap.size := ⟨_, rfl⟩
             rw [← hgx] at hX ⊢
             clear hW9 hgx)
        have HX9 := Lib.hid hX; have HO9 := Lib.hid hO9
        clear p0 p1 p2 p3 p4
        have hF9 : ∀ W, PNew w9 W → W.cell? ⟨ob, 1, none⟩ = some (.int .i64 n) := fun W hW => hF W (PNew.on HO9.out hW)
        have HF9 := Lib.hid hF9
        clear hF hX hO9
        have p0 : ∀ W, PNew w9 W → W.cell? ⟨gb, obb + k * 5, none⟩ = some (.string Ke) := fun W hW => (HQC.out W (PNew.on HO9.out hW)).1
        have p1 : ∀ W, PNew w9 W → W.cell? ⟨gb, obb + k * 5 + 1, none⟩ = some (.int .i64 Oe) := fun W hW => (HQC.out W (PNew.on HO9.out hW)).2.1
        have p2 : ∀ W, PNew w9 W → W.cell? ⟨gb, obb + k * 5 + 2, none⟩ = some (.int .i64 Le) := fun W hW => (HQC.out W (PNew.on HO9.out hW)).2.2.1
        have p3 : ∀ W, PNew w9 W → W.cell? ⟨gb, obb + k * 5 + 3, none⟩ = some (.int .u64 Qe) := fun W hW => (HQC.out W (PNew.on HO9.out hW)).2.2.2.1
        have p4 : ∀ W, PNew w9 W → W.cell? ⟨gb, obb + k * 5 + 4, none⟩ = some (.bool Ge) := fun W hW => (HQC.out W (PNew.on HO9.out hW)).2.2.2.2
        have HG9 := Lib.hid (fun (W : World) (hW : PNew w9 W) => (HGB.out W (PNew.on HO9.out hW)).mono (fun e w' h => show e = _ ∧ PNew w9 w' ∧ Below W.heap.size W w' from ⟨h.1, PNew.on hW h.2, h.2⟩))
        have K9 := PNew.refl w9
        try clear z0 z1 z2 z3 z4 z5 z6 z7 hz6
        clear hO6 hb6
        go_wp2_with fail
        go_region_held3 (fun W => PNew w9 W) (first | assumption | exact K9 | exact K9.drew | exact PNew.drew ‹_› | exact PNew.alloc ‹_› _ | exact PNew.alloc K9.drew _ | exact PNew.set4 ‹_› _ _ _ _)
          (first
            | (go_at_call 16
               refine (HG9.out _ (by first | assumption | exact K9.drew | exact PNew.drew ‹_›)).mono ?_
               rintro e w7 ⟨rfl, hO7, hb7⟩
               first
                 | (have hz7 := new_kept (w := w9) (cs := #[.int .u64 0, .string ⟨#[]⟩, .string ⟨#[]⟩, .bool false]) (T := 47) hb7 rfl
                    obtain ⟨⟨z0, z1, z2, z3⟩, z4, z5, z6, z7⟩ := fresh4 hz7)
                 | skip
               try dsimp only))
        all_goals
          first
            | (generalize hW9 : World.alloc _ _ = w10
               have hY : w10.heap[w7.heap.size]? = some (.cells #[.int .u64 QR, .string KR, .string VR, .bool GR] 47 (0, 0)) := by rw [← hW9]; exact heap_alloc_new _ _
               have hO10 : PNew w9 w10 := by rw [← hW9]; exact PNew.alloc hO7 _
               obtain ⟨gy, hgx⟩ : ∃ g, g = w7.heap.size := ⟨_, rfl⟩
               rw [← hgx] at hY ⊢
               clear hW9 hgx)
            | (generalize hW9 : World.setCell _ _ _ = w10
               have hY : w10.heap[w9.heap.size]? = some (.cells #[.int .u64 QR, .string KR, .string VR, .bool GR] 47 (0, 0)) := by rw [← hW9]; exact set4_block hz7 _ _ _ _
               have hO10 : PNew w9 w10 := by rw [← hW9]; exact PNew.set4 hO7 _ _ _ _
               obtain ⟨gy, hgx⟩ : ∃ g, g = w9.heap.size := ⟨_, rfl⟩
               rw [← hgx] at hY ⊢
               clear hW9 hgx)
          clear p0 p1 p2 p3 p4 hF9
          try clear z0 z1 z2 z3 z4 z5 z6 z7 hz7
          have HB7 := Lib.hid (HBW.out.trans (Below.mono (PNew.on HO9.out hO10) HBW.out.size))
          have hX10 := (Below.block hO10 gx (lt_of_block HX9.out)).trans HX9.out
          obtain ⟨⟨x0, x1, x2, x3⟩, _⟩ := fresh4 hX10
          obtain ⟨⟨y0, y1, y2, y3⟩, _⟩ := fresh4 hY
          clear hO7 hb7
          go_wp2_with fail
          go_roundg (gk - 1)
          case measure => omega
          case rel => exact ⟨k + 1, by omega, rfl, by go_num, HB7.out⟩
    · obtain rfl : k = N := by omega
      go_wp2_with fail
      exact HQ.out _ _ _ _ _ _ _ _ _ _ _ _ _ _ _ _ _ _ _ _ _ _ _ _ _ _ _ _ _ _ _ _ _ _ _ _ _ _ _ _ _ _ _ _ _ _ _ _ _ _ _ _ _ _ _ _ _ _ _ _ _ _ _ _ _ _ _ _ _ _ _ _ _ _ _ _ _ _ _ _ _ _ _ _ _ _ _ _ _ _ _ _ _ _ _ _ _ _ _ _ _ _ _ _ _ _ _ _ _ _ _ _ _ _ _ _ _ _ _ _ _ _ _ _ _ _ _ _ _ _ _ _ _ _ _ _ _ _ _ _ _ _ _ _ _ _ _ _ _ _ _ _ _ _ _ _ _ _ _ _ _ _ _ _ _ _ _ _ _ _ _ _ _ _ _ _ _ _ _ _ _ _ _ _ _ _ _ _ _ _ _ _ _ _ _ _ _ _ _ _ _ _ _ _ _ _ _ _ _ _ _ _ _ _ _ _ _ _ _ _ _ _ _ _ _ _ _ _ _ _ _ _ _ _ _ _ _ _ _ _ _ _ _ _ _ _ _ _ _ _ _ _ _ _ _ _ _ _ _ _ _ _ _ _ _ _ _ _ _ _ _ _ _ _ _ _ _ _ _ _ _ _ _ _ _ _ _ _ _ _ _ _ _ _ _ _ _ _ _ _ _ _ _ _ _ _ _ _ _ _ _ _ _ _ _ _ ⟨_, HBoR.out.drop, by omega, HBR.out⟩

end Go.Proofs.YtmekkbhblghbmaaGreatDoor
