/- SegmentPlays: what is asked behind each call: names, numbers, room. -/
import Derived.Test.YtmekkbhblghbmaaGreatDoorSpsides
namespace Go.Proofs.YtmekkbhblghbmaaGreatDoor
open Go.RowKit
set_option linter.unusedVariables false

/-- What stands behind a block. -/
def afterOf (n : Nat) : Code → Option (Option Code)
  | .loop c => afterOf n c
  | .seq a b => match afterOf n a with
    | some (some r) => some (some r)
    | some none => some (some b)
    | none => afterOf n b
  | .block m c => if m = n then some none else afterOf n c
  | .scope c => afterOf n c
  | .cond _ a b => match afterOf n a with
    | some r => some r
    | none => afterOf n b
  | _ => none
noncomputable def theTail : Code := ((Tryz.f3.body.bind (afterOf 2)).bind id).getD .skip

set_option maxHeartbeats 8000000 in
set_option maxRecDepth 1000000 in
theorem ptail_any {B pb qb : Nat} {T : D.St} {wc : World} {c0 c1 c2 c3 c4 c5 c7 c9 c10 c11 c12 c14 c15 c16 c17 c18 c19 c20 c21 c22 c23 c24 c25 c26 c27 c28 c29 c30 c31 c32 c33 c34 c35 c36 c37 c38 c39 c40 c41 c42 c43 c44 c45 c46 c47 c48 c49 c50 c51 c52 c53 c54 c55 c56 c57 c58 c59 c60 c61 c62 c63 c64 c65 c66 c67 c68 c69 c70 c71 c72 c73 c74 c75 c76 c77 c78 c79 c80 c81 c82 c83 c84 c85 c86 c87 c88 c89 c90 c91 c92 c93 c94 c95 c96 c97 c98 c99 c100 c101 c102 c103 c104 c105 c106 c107 c108 c109 c110 c111 c112 c113 c114 c115 c116 c117 c118 c119 c120 c121 c122 c123 c124 c125 c126 c127 c128 c129 c130 c131 c132 c133 c134 c135 c136 c137 c138 c139 c140 c141 c142 c143 c144 c145 c146 c147 c148 c149 c150 c151 c152 c153 c154 c155 c156 c157 c158 c159 c160 c161 c162 c163 c164 c165 c166 c167 c168 c169 c170 c171 c172 c173 c174 c175 c176 c177 c178 c179 c180 c181 c182 c183 c184 c185 c186 c187 c188 c189 c190 c191 c192 c193 c194 c195 c196 c197 c198 c199 c200 c201 c202 c203 c204 c205 c206 c207 c208 c209 c210 c211 c212 c213 c214 c215 c216 c217 c218 c219 c220 c221 c222 c223 c224 c225 c226 c227 c228 c229 c230 c231 c232 c233 c234 c235 c236 c237 c238 c239 c240 c241 c242 c243 c244 c245 c246 c247 c248 c249 c250 c251 c252 c253 c254 c255 c256 c257 c258 c259 c260 c261 c262 c263 c264 c265 c266 c267 c268 c269 c270 c271 c272 c273 c274 c275 c276 c277 c278 c279 c280 c281 c282 c283 c284 c285 c286 c287 c288 c289 c290 c291 c292 c293 c294 c295 c296 c297 c298 c299 c300 c301 c302 c303 c304 c305 c306 c307 c308 c309 c310 c311 c312 c313 c314 c315 c316 c317 c318 c319 c320 c321 c322 c323 c324 c325 c326 c327 c328 c329 c330 c331 c332 c333 c334 c335 c336 c337 c338 c339 c340 c341 c342 c343 c344 c345 c346 c347 c348 c349 c350 c351 c352 c353 c354 c355 c356 c357 c358 c359 c360 c361 c362 c363 c364 c365 c366 c367 c368 c369 c370 c371 c372 c373 c374 c375 c376 c377 c378 c379 c380 c381 c382 c383 c384 c385 c386 c387 c388 c389 c390 c391 c392 c393 c394 c395 c396 c397 c398 c399 c400 c401 c402 c403 c404 c405 c406 c407 c408 c409 c410 c411 c412 : Value} (hB : D.Bo B wc pb qb (fun _ => False) T T) (hTL : T.fs.length < 1000000000) {Q : Exit → Act → World → Prop}
    (hQ : ∀ (u43 u44 u385 u386 u387 u388 u389 u390 u391 u392 u393 u394 u395 u396 u397 u398 u399 u400 u401 u402 u403 u404 u405 u406 u407 u408 u409 u410 u411 : Value) (wg : World), Below wc.heap.size wc wg → Q .normal ⟨#[c0, c1, c2, c3, c4, c5, .pointer (some ⟨pb, 0, none⟩), c7, .pointer (some ⟨qb, 0, none⟩), c9, c10, c11, c12, .bool true, c14, c15, c16, c17, c18, c19, c20, c21, c22, c23, c24, c25, c26, c27, c28, c29, c30, c31, c32, c33, c34, c35, c36, c37, c38, c39, c40, c41, c42, u43, u44, c45, c46, c47, c48, c49, c50, c51, c52, c53, c54, c55, c56, c57, c58, c59, c60, c61, c62, c63, c64, c65, c66, c67, c68, c69, c70, c71, c72, c73, c74, c75, c76, c77, c78, c79, c80, c81, c82, c83, c84, c85, c86, c87, c88, c89, c90, c91, c92, c93, c94, c95, c96, c97, c98, c99, c100, c101, c102, c103, c104, c105, c106, c107, c108, c109, c110, c111, c112, c113, c114, c115, c116, c117, c118, c119, c120, c121, c122, c123, c124, c125, c126, c127, c128, c129, c130, c131, c132, c133, c134, c135, c136, c137, c138, c139, c140, c141, c142, c143, c144, c145, c146, c147, c148, c149, c150, c151, c152, c153, c154, c155, c156, c157, c158, c159, c160, c161, c162, c163, c164, c165, c166, c167, c168, c169, c170, c171, c172, c173, c174, c175, c176, c177, c178, c179, c180, c181, c182, c183, c184, c185, c186, c187, c188, c189, c190, c191, c192, c193, c194, c195, c196, c197, c198, c199, c200, c201, c202, c203, c204, c205, c206, c207, c208, c209, c210, c211, c212, c213, c214, c215, c216, c217, c218, c219, c220, c221, c222, c223, c224, c225, c226, c227, c228, c229, c230, c231, c232, c233, c234, c235, c236, c237, c238, c239, c240, c241, c242, c243, c244, c245, c246, c247, c248, c249, c250, c251, c252, c253, c254, c255, c256, c257, c258, c259, c260, c261, c262, c263, c264, c265, c266, c267, c268, c269, c270, c271, c272, c273, c274, c275, c276, c277, c278, c279, c280, c281, c282, c283, c284, c285, c286, c287, c288, c289, c290, c291, c292, c293, c294, c295, c296, c297, c298, c299, c300, c301, c302, c303, c304, c305, c306, c307, c308, c309, c310, c311, c312, c313, c314, c315, c316, c317, c318, c319, c320, c321, c322, c323, c324, c325, c326, c327, c328, c329, c330, c331, c332, c333, c334, c335, c336, c337, c338, c339, c340, c341, c342, c343, c344, c345, c346, c347, c348, c349, c350, c351, c352, c353, c354, c355, c356, c357, c358, c359, c360, c361, c362, c363, c364, c365, c366, c367, c368, c369, c370, c371, c372, c373, c374, c375, c376, c377, c378, c379, c380, c381, c382, c383, c384, u385, u386, u387, u388, u389, u390, u391, u392, u393, u394, u395, u396, u397, u398, u399, u400, u401, u402, u403, u404, u405, u406, u407, u408, u409, u410, u411, c412], []⟩ wg) : Code.wp Tryz.prog theTail Q ⟨#[c0, c1, c2, c3, c4, c5, .pointer (some ⟨pb, 0, none⟩), c7, .pointer (some ⟨qb, 0, none⟩), c9, c10, c11, c12, .bool true, c14, c15, c16, c17, c18, c19, c20, c21, c22, c23, c24, c25, c26, c27, c28, c29, c30, c31, c32, c33, c34, c35, c36, c37, c38, c39, c40, c41, c42, c43, c44, c45, c46, c47, c48, c49, c50, c51, c52, c53, c54, c55, c56, c57, c58, c59, c60, c61, c62, c63, c64, c65, c66, c67, c68, c69, c70, c71, c72, c73, c74, c75, c76, c77, c78, c79, c80, c81, c82, c83, c84, c85, c86, c87, c88, c89, c90, c91, c92, c93, c94, c95, c96, c97, c98, c99, c100, c101, c102, c103, c104, c105, c106, c107, c108, c109, c110, c111, c112, c113, c114, c115, c116, c117, c118, c119, c120, c121, c122, c123, c124, c125, c126, c127, c128, c129, c130, c131, c132, c133, c134, c135, c136, c137, c138, c139, c140, c141, c142, c143, c144, c145, c146, c147, c148, c149, c150, c151, c152, c153, c154, c155, c156, c157, c158, c159, c160, c161, c162, c163, c164, c165, c166, c167, c168, c169, c170, c171, c172, c173, c174, c175, c176, c177, c178, c179, c180, c181, c182, c183, c184, c185, c186, c187, c188, c189, c190, c191, c192, c193, c194, c195, c196, c197, c198, c199, c200, c201, c202, c203, c204, c205, c206, c207, c208, c209, c210, c211, c212, c213, c214, c215, c216, c217, c218, c219, c220, c221, c222, c223, c224, c225, c226, c227, c228, c229, c230, c231, c232, c233, c234, c235, c236, c237, c238, c239, c240, c241, c242, c243, c244, c245, c246, c247, c248, c249, c250, c251, c252, c253, c254, c255, c256, c257, c258, c259, c260, c261, c262, c263, c264, c265, c266, c267, c268, c269, c270, c271, c272, c273, c274, c275, c276, c277, c278, c279, c280, c281, c282, c283, c284, c285, c286, c287, c288, c289, c290, c291, c292, c293, c294, c295, c296, c297, c298, c299, c300, c301, c302, c303, c304, c305, c306, c307, c308, c309, c310, c311, c312, c313, c314, c315, c316, c317, c318, c319, c320, c321, c322, c323, c324, c325, c326, c327, c328, c329, c330, c331, c332, c333, c334, c335, c336, c337, c338, c339, c340, c341, c342, c343, c344, c345, c346, c347, c348, c349, c350, c351, c352, c353, c354, c355, c356, c357, c358, c359, c360, c361, c362, c363, c364, c365, c366, c367, c368, c369, c370, c371, c372, c373, c374, c375, c376, c377, c378, c379, c380, c381, c382, c383, c384, c385, c386, c387, c388, c389, c390, c391, c392, c393, c394, c395, c396, c397, c398, c399, c400, c401, c402, c403, c404, c405, c406, c407, c408, c409, c410, c411, c412], []⟩ wc := by
  have HQ := Lib.hid hQ
  have HB := Lib.hid hB
  have hls := bo8_list hB hTL
  clear hQ hB
  conv => arg 2; whnf
  go_wp2_with fail
  refine hls.mono ?_
  rintro e wa ⟨v, rfl, hv, hba⟩
  clear hls
  obtain ⟨na, nc, hvf⟩ := D.owns_form hv
  obtain ⟨M, hM⟩ : ∃ M, M = (T.fs.map D.Fl.nm).length := ⟨_, rfl⟩
  rw [← hM] at hv hvf
  subst hvf
  have hrl := bo8_reflist (HB.out.below hba) hTL
  rw [← hM] at hrl
  have HM := Lib.hid hM; clear hM
  try dsimp only
  go_wp2_with fail
  refine hrl.mono ?_
  rintro e wb ⟨v, rfl, hv2, hbb⟩
  clear hrl
  obtain ⟨nb, mc, hvf⟩ := D.owns_form hv2
  subst hvf
  have hv1 : wb.ownsRow wc.heap.size 9 1 (.slice na M nc) M (strs (T.fs.map D.Fl.nm)) := owns_kept hv (fun g hg => hbb.block g (hv.lt g hg).2)
  have hTM : M < 1000000000 := by rw [HM.out, List.length_map]; exact hTL
  have hss : Calls Tryz.prog 38 #[.slice na M nc, .slice nb M mc] wb fun e w' => e = .returned (.bool true) ∧ Below wb.heap.size wb w' := by
    have h1 := hv1
    have h2 := hv2
    have h3 := hTM
    rw [HM.out] at h1 h2 h3 ⊢
    exact D.strings_same h1 h2 h3
  try dsimp only
  go_wp2_with fail
  refine hss.mono ?_
  rintro e wd ⟨rfl, hbd⟩
  clear hss hv2 hv hv1
  have HCD : Hid (Below wc.heap.size wc wd) := Lib.hid ((hba.trans (hbb.mono hba.size)).trans (hbd.mono (Nat.le_trans hba.size hbb.size)))
  clear hba hbb hbd
  have hal := bo8_all (HB.out.below HCD.out) hTL
  have hKl := alL_len T
  unfold NumsR at hal
  obtain ⟨K, hK⟩ : ∃ K, K = (alL T).length := ⟨_, rfl⟩
  rw [← hK] at hal hKl
  have HK := Lib.hid hK; clear hK
  try dsimp only
  go_wp2_with fail
  refine hal.mono ?_
  rintro e we ⟨aa, ca, rfl, hva, hbe⟩
  clear hal
  have hra := bo8_refall ((HB.out.below HCD.out).below hbe) hTL
  unfold NumsR at hra
  rw [← HK.out] at hra
  try dsimp only
  go_wp2_with fail
  refine hra.mono ?_
  rintro e wf ⟨ab, cb, rfl, hvb, hbf⟩
  clear hra
  have hva2 := owns_kept hva (fun g hg => hbf.block g (hva.lt g hg).2)
  have hin : Calls Tryz.prog 41 #[.slice aa K ca, .slice ab K cb] wf fun e w' => e = .returned (.bool true) ∧ Below wf.heap.size wf w' := by
    have h1 := hva2
    have h2 := hvb
    have h3 : K < 1000000000 := by omega
    rw [HK.out] at h1 h2 h3 ⊢
    exact ints8_same h1 h2 h3
  try dsimp only
  go_wp2_with fail
  refine hin.mono ?_
  rintro e wg ⟨rfl, hbg⟩
  clear hin hva hvb hva2
  have HCG : Hid (Below wc.heap.size wc wg) := Lib.hid (HCD.out.trans ((hbe.trans ((hbf.mono hbe.size).trans (hbg.mono (Nat.le_trans hbe.size hbf.size)))).mono HCD.out.size))
  clear hbe hbf hbg
  have hl1 := bo8_left (HB.out.below HCG.out)
  have hl2 := bo8_refleft (HB.out.below HCG.out) hTL
  try dsimp only
  go_wp2_with fail
  refine hl1.mono ?_
  rintro e w' ⟨rfl, rfl⟩
  clear hl1
  try dsimp only
  go_wp2_with fail
  refine hl2.mono ?_
  rintro e w' ⟨rfl, rfl⟩
  clear hl2
  try dsimp only
  go_wp2_with fail
  exact HQ.out _ _ _ _ _ _ _ _ _ _ _ _ _ _ _ _ _ _ _ _ _ _ _ _ _ _ _ _ _ _ HCG.out
end Go.Proofs.YtmekkbhblghbmaaGreatDoor
