/- SegmentPlays: the switch, a way of it. -/
import Derived.Test.YtmekkbhblghbmaaGreatDoorSpstep
import Derived.Test.YtmekkbhblghbmaaGreatDoorSpents
namespace Go.Proofs.YtmekkbhblghbmaaGreatDoor
open Go.RowKit
set_option linter.unusedVariables false

set_option maxHeartbeats 4000000 in
set_option maxRecDepth 1000000 in
theorem pw_hint {W : World} {B pb qb ob : Nat} {W0 W1 : World} {o : Sop} {S : D.St} {c0 c1 c2 c3 c4 c7 c9 c10 c14 c15 c16 c17 c18 c19 c20 c21 c22 c23 c24 c25 c26 c27 c28 c29 c30 c31 c32 c33 c34 c35 c36 c37 c38 c39 c40 c41 c42 c43 c44 c45 c46 c47 c48 c49 c50 c51 c52 c53 c54 c55 c56 c57 c58 c59 c60 c61 c62 c63 c64 c65 c66 c67 c68 c69 c70 c71 c72 c73 c74 c75 c76 c77 c78 c79 c80 c81 c82 c83 c84 c85 c86 c87 c88 c89 c90 c91 c92 c93 c94 c95 c96 c97 c99 c100 c101 c102 c103 c104 c105 c106 c107 c108 c109 c110 c111 c112 c113 c114 c115 c116 c117 c118 c119 c120 c121 c122 c123 c124 c125 c126 c127 c128 c129 c130 c131 c132 c133 c134 c135 c136 c137 c138 c139 c140 c141 c142 c143 c144 c145 c146 c147 c148 c149 c150 c151 c152 c153 c154 c155 c156 c157 c158 c159 c160 c161 c162 c163 c164 c165 c166 c167 c168 c169 c170 c171 c172 c173 c174 c175 c176 c177 c178 c179 c180 c181 c182 c183 c184 c185 c186 c187 c188 c189 c190 c191 c192 c193 c194 c195 c196 c197 c198 c199 c200 c201 c202 c203 c204 c205 c206 c207 c208 c209 c210 c211 c212 c213 c214 c215 c216 c217 c218 c219 c220 c221 c222 c223 c224 c225 c226 c227 c228 c229 c230 c231 c232 c233 c234 c235 c236 c237 c238 c239 c240 c241 c242 c243 c244 c245 c246 c247 c248 c249 c250 c251 c252 c253 c254 c255 c256 c257 c258 c259 c260 c261 c262 c263 c264 c265 c266 c267 c268 c269 c270 c271 c272 c273 c274 c275 c276 c277 c278 c279 c280 c281 c282 c283 c284 c285 c286 c287 c288 c289 c290 c291 c292 c293 c294 c295 c296 c297 c298 c299 c300 c301 c302 c303 c304 c305 c306 c307 c308 c309 c310 c311 c312 c313 c314 c315 c316 c317 c318 c319 c320 c321 c322 c323 c324 c325 c326 c327 c328 c329 c330 c331 c332 c333 c334 c335 c336 c337 c338 c339 c340 c341 c342 c343 c344 c345 c346 c347 c348 c349 c350 c351 c352 c353 c354 c355 c356 c357 c358 c359 c360 c361 c362 c363 c364 c365 c366 c367 c368 c369 c370 c371 c372 c373 c374 c375 c376 c377 c378 c379 c380 c381 c382 c383 c384 c385 c386 c387 c388 c389 c390 c391 c392 c393 c394 c395 c396 c397 c398 c399 c400 c401 c402 c403 c404 c405 c406 c407 c408 c409 c410 c411 c412 : Value} (h : PStep W B pb qb ob W0 W1 o S) (hd : o.d = 10) {Q : Exit → Act → World → Prop}
    (hQ : ∀ (u14 u15 u16 u17 u18 u19 u20 u21 u22 u23 u24 u25 u26 u27 u28 u29 u30 u31 u32 u33 u34 u35 u36 u37 u38 u39 u40 u41 u42 u99 u100 u101 u102 u103 u104 u105 u106 u107 u108 u109 u110 u111 u112 u113 u114 u115 u116 u117 u118 u119 u120 u121 u122 u123 u124 u125 u126 u127 u128 u129 u130 u131 u132 u133 u134 u135 u136 u137 u138 u139 u140 u141 u142 u143 u144 u145 u146 u147 u148 u149 u150 u151 u152 u153 u154 u155 u156 u157 u158 u159 u160 u161 u162 u163 u164 u165 u166 u167 u168 u169 u170 u171 u172 u173 u174 u175 u176 u177 u178 u179 u180 u181 u182 u183 u184 u185 u186 u187 u188 u189 u190 u191 u192 u193 u194 u195 u196 u197 u198 u199 u200 u201 u202 u203 u204 u205 u206 u207 u208 u209 u210 u211 u212 u213 u214 u215 u216 u217 u218 u219 u220 u221 u222 u223 u224 u225 u226 u227 u228 u229 u230 u231 u232 u233 u234 u235 u236 u237 u238 u239 u240 u241 u242 u243 u244 u245 u246 u247 u248 u249 u250 u251 u252 u253 u254 u255 u256 u257 u258 u259 u260 u261 u262 u263 u264 u265 u266 u267 u268 u269 u270 u271 u272 u273 u274 u275 u276 u277 u278 u279 u280 u281 u282 u283 u284 u285 u286 u287 u288 u289 u290 u291 u292 u293 u294 u295 u296 u297 u298 u299 u300 u301 u302 u303 u304 u305 u306 u307 u308 u309 u310 u311 u312 u313 u314 u315 u316 u317 u318 u319 u320 u321 u322 u323 u324 u325 u326 u327 u328 u329 u330 u331 u332 u333 u334 u335 u336 u337 u338 u339 u340 u341 u342 u343 u344 u345 u346 u347 u348 u349 u350 u351 u352 u353 u354 u355 u356 u357 u358 u359 u360 u361 u362 u363 u364 u365 u366 u367 u368 u369 u370 u371 u372 u373 u374 u375 u376 u377 u378 u379 u380 u381 u382 u383 u384 : Value) (wc : World), PDone B pb qb W0 S wc → Q .normal ⟨#[c0, c1, c2, c3, c4, .bool true, .pointer (some ⟨pb, 0, none⟩), c7, .pointer (some ⟨qb, 0, none⟩), c9, c10, .pointer (some ⟨ob, 0, none⟩), .bool true, .bool true, u14, u15, u16, u17, u18, u19, u20, u21, u22, u23, u24, u25, u26, u27, u28, u29, u30, u31, u32, u33, u34, u35, u36, u37, u38, u39, u40, u41, u42, c43, c44, c45, c46, c47, c48, c49, c50, c51, c52, c53, c54, c55, c56, c57, c58, c59, c60, c61, c62, c63, c64, c65, c66, c67, c68, c69, c70, c71, c72, c73, c74, c75, c76, c77, c78, c79, c80, c81, c82, c83, c84, c85, c86, c87, c88, c89, c90, c91, c92, c93, c94, c95, c96, c97, .int .i64 o.d, u99, u100, u101, u102, u103, u104, u105, u106, u107, u108, u109, u110, u111, u112, u113, u114, u115, u116, u117, u118, u119, u120, u121, u122, u123, u124, u125, u126, u127, u128, u129, u130, u131, u132, u133, u134, u135, u136, u137, u138, u139, u140, u141, u142, u143, u144, u145, u146, u147, u148, u149, u150, u151, u152, u153, u154, u155, u156, u157, u158, u159, u160, u161, u162, u163, u164, u165, u166, u167, u168, u169, u170, u171, u172, u173, u174, u175, u176, u177, u178, u179, u180, u181, u182, u183, u184, u185, u186, u187, u188, u189, u190, u191, u192, u193, u194, u195, u196, u197, u198, u199, u200, u201, u202, u203, u204, u205, u206, u207, u208, u209, u210, u211, u212, u213, u214, u215, u216, u217, u218, u219, u220, u221, u222, u223, u224, u225, u226, u227, u228, u229, u230, u231, u232, u233, u234, u235, u236, u237, u238, u239, u240, u241, u242, u243, u244, u245, u246, u247, u248, u249, u250, u251, u252, u253, u254, u255, u256, u257, u258, u259, u260, u261, u262, u263, u264, u265, u266, u267, u268, u269, u270, u271, u272, u273, u274, u275, u276, u277, u278, u279, u280, u281, u282, u283, u284, u285, u286, u287, u288, u289, u290, u291, u292, u293, u294, u295, u296, u297, u298, u299, u300, u301, u302, u303, u304, u305, u306, u307, u308, u309, u310, u311, u312, u313, u314, u315, u316, u317, u318, u319, u320, u321, u322, u323, u324, u325, u326, u327, u328, u329, u330, u331, u332, u333, u334, u335, u336, u337, u338, u339, u340, u341, u342, u343, u344, u345, u346, u347, u348, u349, u350, u351, u352, u353, u354, u355, u356, u357, u358, u359, u360, u361, u362, u363, u364, u365, u366, u367, u368, u369, u370, u371, u372, u373, u374, u375, u376, u377, u378, u379, u380, u381, u382, u383, u384, c385, c386, c387, c388, c389, c390, c391, c392, c393, c394, c395, c396, c397, c398, c399, c400, c401, c402, c403, c404, c405, c406, c407, c408, c409, c410, c411, c412], []⟩ wc) : Code.wp Tryz.prog theSwitch Q ⟨#[c0, c1, c2, c3, c4, .bool true, .pointer (some ⟨pb, 0, none⟩), c7, .pointer (some ⟨qb, 0, none⟩), c9, c10, .pointer (some ⟨ob, 0, none⟩), .bool true, .bool true, c14, c15, c16, c17, c18, c19, c20, c21, c22, c23, c24, c25, c26, c27, c28, c29, c30, c31, c32, c33, c34, c35, c36, c37, c38, c39, c40, c41, c42, c43, c44, c45, c46, c47, c48, c49, c50, c51, c52, c53, c54, c55, c56, c57, c58, c59, c60, c61, c62, c63, c64, c65, c66, c67, c68, c69, c70, c71, c72, c73, c74, c75, c76, c77, c78, c79, c80, c81, c82, c83, c84, c85, c86, c87, c88, c89, c90, c91, c92, c93, c94, c95, c96, c97, .int .i64 o.d, c99, c100, c101, c102, c103, c104, c105, c106, c107, c108, c109, c110, c111, c112, c113, c114, c115, c116, c117, c118, c119, c120, c121, c122, c123, c124, c125, c126, c127, c128, c129, c130, c131, c132, c133, c134, c135, c136, c137, c138, c139, c140, c141, c142, c143, c144, c145, c146, c147, c148, c149, c150, c151, c152, c153, c154, c155, c156, c157, c158, c159, c160, c161, c162, c163, c164, c165, c166, c167, c168, c169, c170, c171, c172, c173, c174, c175, c176, c177, c178, c179, c180, c181, c182, c183, c184, c185, c186, c187, c188, c189, c190, c191, c192, c193, c194, c195, c196, c197, c198, c199, c200, c201, c202, c203, c204, c205, c206, c207, c208, c209, c210, c211, c212, c213, c214, c215, c216, c217, c218, c219, c220, c221, c222, c223, c224, c225, c226, c227, c228, c229, c230, c231, c232, c233, c234, c235, c236, c237, c238, c239, c240, c241, c242, c243, c244, c245, c246, c247, c248, c249, c250, c251, c252, c253, c254, c255, c256, c257, c258, c259, c260, c261, c262, c263, c264, c265, c266, c267, c268, c269, c270, c271, c272, c273, c274, c275, c276, c277, c278, c279, c280, c281, c282, c283, c284, c285, c286, c287, c288, c289, c290, c291, c292, c293, c294, c295, c296, c297, c298, c299, c300, c301, c302, c303, c304, c305, c306, c307, c308, c309, c310, c311, c312, c313, c314, c315, c316, c317, c318, c319, c320, c321, c322, c323, c324, c325, c326, c327, c328, c329, c330, c331, c332, c333, c334, c335, c336, c337, c338, c339, c340, c341, c342, c343, c344, c345, c346, c347, c348, c349, c350, c351, c352, c353, c354, c355, c356, c357, c358, c359, c360, c361, c362, c363, c364, c365, c366, c367, c368, c369, c370, c371, c372, c373, c374, c375, c376, c377, c378, c379, c380, c381, c382, c383, c384, c385, c386, c387, c388, c389, c390, c391, c392, c393, c394, c395, c396, c397, c398, c399, c400, c401, c402, c403, c404, c405, c406, c407, c408, c409, c410, c411, c412], []⟩ W1 := by
  have t0 : (o.d == 0) = false := by simp; omega
  have t1 : (o.d == 1) = false := by simp; omega
  have t2 : (o.d == 2) = false := by simp; omega
  have t3 : (o.d == 3) = false := by simp; omega
  have t4 : (o.d == 4) = false := by simp; omega
  have t5 : (o.d == 5) = false := by simp; omega
  have t10 : (o.d == 10) = true := by simp [hd]
  clear hd
  obtain ⟨hB1, hbk, hb0, hz01, hT, hSL, hof, hrec, hvals, hold, hfew, hshort⟩ := h
  obtain ⟨⟨f1, f2, f3⟩, ⟨f4, f5⟩, f6, f7, f8⟩ := hof
  have HTB := Lib.hid (fun (W : World) (hW : Below W0.heap.size W0 W) => (hT.below hW).mono hz01)
  have HQ := Lib.hid hQ
  clear hQ hT
  have hS1 : PWatch W0 W1 ob W1 := ⟨rfl, hb0⟩
  have hA : ∀ W, PWatch W0 W1 ob W → W.heap[ob]? = some (.cells #[.int .i64 o.d, .int .i64 o.n, .int .i64 o.m, .slice o.la o.l.length o.lc, .string (bs o.b), .slice o.ka o.ks.length o.kc] 34 (0, 0)) := fun W hW => hW.1.trans hbk
  have hA1 : ∀ W, PWatch W0 W1 ob W → W.cell? ⟨ob, 1, none⟩ = some (.int .i64 o.n) := fun W hW => (ob_cells (hA W hW)).2.1
  have hA2 : ∀ W, PWatch W0 W1 ob W → W.cell? ⟨ob, 2, none⟩ = some (.int .i64 o.m) := fun W hW => (ob_cells (hA W hW)).2.2.1
  have hA3 : ∀ W, PWatch W0 W1 ob W → W.cell? ⟨ob, 3, none⟩ = some (.slice o.la o.l.length o.lc) := fun W hW => (ob_cells (hA W hW)).2.2.2.1
  have hol : ob < W1.heap.size := (Array.getElem?_eq_some_iff.1 hbk).1
  obtain ⟨i0, hi0, hz0, hz1, hz2⟩ := info_parts infoEnt
  have HI := Lib.hid (And.intro hi0 (And.intro hz0 (And.intro hz1 hz2)))
  clear hi0 hz0 hz1 hz2
  obtain ⟨i1, hi1, hy0, hy1, hy2⟩ := info_parts infoRefEnt
  have HJ := Lib.hid (And.intro hi1 (And.intro hy0 (And.intro hy1 hy2)))
  clear hi1 hy0 hy1 hy2
  have HREC := Lib.hid (show Recs W1 o.la o.l from hrec.later (hold.trans (hb0.mono hold.size)) (Nat.le_refl _))
  have HFIT := Lib.hid (fun i (hi : i ≤ o.l.length) => hmk_fit o.m o.l f3 hfew f5 i hi)
  clear hA hbk hrec hvals hold f1 f4 f5 f6 f7 f8 hshort
  generalize o.la = la at *
  generalize o.lc = lc at *
  generalize o.l = l at *
  generalize o.m = m at *
  generalize o.n = n at *
  obtain ⟨L, hL⟩ : ∃ L, L = l.length := ⟨_, rfl⟩
  have HL := Lib.hid hL
  simp only [← hL] at hA3 hfew
  clear hL
  have y3 := hA3 W1 hS1
  conv => arg 2; whnf
  try dsimp only
  go_wp2_with fail
  clear y3
  go_loopg [34, 35, 36] L (fun g u v i wr => ∃ (p q : Value) (k : Nat), k + g = L ∧ p = u ∧ q = v ∧ i = .int .i64 k ∧ wr.ownsRow W1.heap.size 51 5 p k (eflat (hmk m l k)) ∧ wr.ownsRow W1.heap.size 53 5 q k (eflat (hmk m l k)) ∧ Below W1.heap.size W1 wr)
  case atStart => exact ⟨_, _, 0, by omega, rfl, rfl, rfl, World.ownsRow_nil _ _ _ _, World.ownsRow_nil _ _ _ _, Below.refl _ _⟩
  case round =>
    obtain ⟨p, q, k, hk, rfl, rfl, rfl, ho1, ho2, hbw⟩ := hrel
    have HBW := Lib.hid hbw
    have hzw := hbw.size
    have hSr := PWatch.below hS1 hbw hol
    have z1 := hA1 wr hSr
    have z2 := hA2 wr hSr
    have z3 := hA3 wr hSr
    by_cases hlt : k < L
    · have hlt' : k < l.length := by rw [← HL.out]; exact hlt
      obtain ⟨b, off, rfl, hbl, hcs⟩ := HREC.out (by omega)
      obtain ⟨c0, c1, c2, c3⟩ := hcs k hlt'
      have HCS := Lib.hid (fun (W : World) (hW : Below W1.heap.size W1 W) => And.intro ((hW.cell (p := ⟨b, _, none⟩) hbl).trans c0) (And.intro ((hW.cell (p := ⟨b, _, none⟩) hbl).trans c1) ((hW.cell (p := ⟨b, _, none⟩) hbl).trans c3)))
      clear c2 hcs
      rw [← hbw.cell (p := ⟨b, _, none⟩) hbl] at c0 c1 c3
      have HNX := Lib.hid (show eflat (hmk m l (k + 1)) = eflat (hmk m l k) ++ [.string (bs l[k].k), .int .i64 m, .int .i64 ((k : Int) + 1), .int .u64 ((l[k].q : Nat) : Int), .bool l[k].g] by rw [hmk_next m l k hlt', eflat_snoc]; rfl)
      have avp : p.ownBlock ≠ some b := fun e => by have := (ho1.lt _ e).1; omega
      have avp' : p.ownBlock ≠ some ob := fun e => by have := (ho1.lt _ e).1; omega
      have avq : q.ownBlock ≠ some b := fun e => by have := (ho2.lt _ e).1; omega
      have avq' : q.ownBlock ≠ some ob := fun e => by have := (ho2.lt _ e).1; omega
      have hap := owns_apart ho1 ho2 (by decide)
      have ltb : b < wr.heap.size := by omega
      have lto : ob < wr.heap.size := by omega
      have qk : IntKind.i64.wrap ((k : Int) + 1) = (k : Int) + 1 := IntWalk.i64_in _ ⟨by omega, by omega⟩
      have HLK : Hid (l[k]? = l[k]?) := Lib.hid rfl
      generalize l[k] = r at *
      generalize bs r.k = K at *
      generalize ((r.q : Nat) : Int) = Q at *
      generalize r.g = G at *
      have HO2 := Lib.hid ho2; have HAP := Lib.hid hap
      clear ho2 hap hbw hSr z1
      go_wp2_with fail
      go_region_held3 (fun w' => w'.cell? ⟨b, off + k * 4, none⟩ = some (.int .u64 Q) ∧ w'.cell? ⟨b, off + k * 4 + 1, none⟩ = some (.string K) ∧ w'.cell? ⟨b, off + k * 4 + 3, none⟩ = some (.bool G) ∧ w'.cell? ⟨ob, 2, none⟩ = some (.int .i64 m) ∧ w'.cell? ⟨ob, 3, none⟩ = some (.slice (some ⟨b, off, none⟩) L lc))
        (first
          | go_keep
          | (go_split_ands
             refine ⟨?_, ?_, ?_, ?_, ?_⟩
             all_goals (rw [hgrow.cell_far _ (by simp; omega) (Ne.symm (by assumption))]; assumption)))
        ((refine step_append_lies _ (by rfl) _ _ _ (by rfl) W1.heap.size 51 i0 _ 5 48 Tryz.underlying37 HI.out.1 HI.out.2.1 HI.out.2.2.1 HI.out.2.2.2 rfl (by omega) p _ _ (by rfl) ((ho1.alloc _).drew)
            ⟨wr.heap.size, 0, none⟩ 1 1 [.string K, .int .i64 m, .int .i64 ((k : Int) + 1), .int .u64 Q, .bool G] (by rfl) (by rfl) (World.news_of_block (cs := #[.string K, .int .i64 m, .int .i64 ((k : Int) + 1), .int .u64 Q, .bool G]) (t := 51) (fr := (0, 0)) (heap_alloc_new wr _)) (by simp [Value.oneCell'])
            (by omega) (by unfold maxLen; omega) (by omega) (by simp; omega) (wr.heap.size + 1) (by simp) ?_; intro gg cap2 w2 hown2 hgrow hat hlt2))
      have HBG := Lib.hid (Below.grown ((HBW.out.alloc hzw (.cells #[.string K, .int .i64 m, .int .i64 ((k : Int) + 1), .int .u64 Q, .bool G] 51)).drew) hgrow (by simp; omega) (fun j hj => (ho1.lt _ hj).1))
      have ho2 := row_grown ((HO2.out.alloc (.cells #[.string K, .int .i64 m, .int .i64 ((k : Int) + 1), .int .u64 Q, .bool G] 51)).drew) hgrow (fun g hq hp => HAP.out g hp hq)
      have HO1 := Lib.hid hown2
      have hap2 := owns_apart ho2 hown2 (by decide)
      have HAP2 := Lib.hid hap2
      have hzg := HBG.out.size
      obtain ⟨v2, hv2⟩ : ∃ v : Value, v = .slice (some ⟨gg, 0, none⟩) (k + 1) cap2 := ⟨_, rfl⟩
      rw [← hv2]
      rw [← hv2] at HO1 HAP2
      clear hown2 hgrow hat hlt2 c0 c1 c3 z2 z3 hap2 ho1 hv2
      try clear hHeld
      have hSg := PWatch.below hS1 HBG.out hol
      have z2 := hA2 w2 hSg
      have z3 := hA3 w2 hSg
      obtain ⟨c0, c1, c3⟩ := HCS.out w2 HBG.out
      have ltb2 : b < w2.heap.size := by omega
      have lto2 : ob < w2.heap.size := by omega
      clear hSg
      go_wp2_with fail
      go_region_held3 (fun w' => w'.cell? ⟨b, off + k * 4, none⟩ = some (.int .u64 Q) ∧ w'.cell? ⟨b, off + k * 4 + 1, none⟩ = some (.string K) ∧ w'.cell? ⟨b, off + k * 4 + 3, none⟩ = some (.bool G) ∧ w'.cell? ⟨ob, 2, none⟩ = some (.int .i64 m) ∧ w'.cell? ⟨ob, 3, none⟩ = some (.slice (some ⟨b, off, none⟩) L lc))
        (first
          | go_keep
          | (go_split_ands
             refine ⟨?_, ?_, ?_, ?_, ?_⟩
             all_goals (rw [hgrow.cell_far _ (by simp; omega) (Ne.symm (by assumption))]; assumption)))
        ((refine step_append_lies _ (by rfl) _ _ _ (by rfl) W1.heap.size 53 i1 _ 5 48 Tryz.underlying40 HJ.out.1 HJ.out.2.1 HJ.out.2.2.1 HJ.out.2.2.2 rfl (by omega) q _ _ (by rfl) ((ho2.alloc _).drew)
            ⟨w2.heap.size, 0, none⟩ 1 1 [.string K, .int .i64 m, .int .i64 ((k : Int) + 1), .int .u64 Q, .bool G] (by rfl) (by rfl) (World.news_of_block (cs := #[.string K, .int .i64 m, .int .i64 ((k : Int) + 1), .int .u64 Q, .bool G]) (t := 53) (fr := (0, 0)) (heap_alloc_new w2 _)) (by simp [Value.oneCell'])
            (by omega) (by unfold maxLen; omega) (by omega) (by simp; omega) (w2.heap.size + 1) (by simp) ?_; intro gg cap2 w3 hown2 hgrow hat hlt2))
      have HBH := Lib.hid (Below.grown ((HBG.out.alloc hzg (.cells #[.string K, .int .i64 m, .int .i64 ((k : Int) + 1), .int .u64 Q, .bool G] 53)).drew) hgrow (by simp; omega) (fun j hj => (ho2.lt _ hj).1))
      have HO1b := Lib.hid (row_grown ((HO1.out.alloc (.cells #[.string K, .int .i64 m, .int .i64 ((k : Int) + 1), .int .u64 Q, .bool G] 53)).drew) hgrow (fun g hp hq => HAP2.out g hq hp))
      have HO2b := Lib.hid hown2
      obtain ⟨v3, hv3⟩ : ∃ v : Value, v = .slice (some ⟨gg, 0, none⟩) (k + 1) cap2 := ⟨_, rfl⟩
      rw [← hv3]
      rw [← hv3] at HO2b
      clear hown2 hgrow hat hlt2 c0 c1 c3 z2 z3 ho2 hv3
      go_wp2_with fail
      go_roundg (gk - 1)
      case measure => omega
      case rel => exact ⟨_, _, k + 1, by omega, rfl, rfl, by go_num, by rw [HNX.out]; exact HO1b.out, by rw [HNX.out]; exact HO2b.out, HBH.out⟩
    · obtain rfl : k = L := by omega
      go_wp2_with fail
      have HEL := Lib.hid (hmk_len m l k (by rw [HL.out]; exact Nat.le_refl _))
      have HFE := Lib.hid (HFIT.out k (by rw [HL.out]; exact Nat.le_refl _))
      have hroom := hi_room8 S n (hmk m l k)
      have ho1' : wr.ownsRow W1.heap.size 51 5 p (hmk m l k).length (eflat (hmk m l k)) := by rw [HEL.out]; exact ho1
      have ho2' : wr.ownsRow W1.heap.size 53 5 q (hmk m l k).length (eflat (hmk m l k)) := by rw [HEL.out]; exact ho2
      clear ho1 ho2
      obtain ⟨E, hE⟩ : ∃ E, E = hmk m l k := ⟨_, rfl⟩
      rw [← hE] at ho1' ho2' HEL HFE hroom
      clear hE
      obtain ⟨a1, cap1, rfl, he1, hn1⟩ := owns_ents2 ho1'
      obtain ⟨a2, cap2, rfl, he2, hn2⟩ := owns_ents2 ho2'
      have hEk := HEL.out
      have HY : Hid (∀ j, (0 < E.length ∧ ∃ A, (a1 = some A ∨ a2 = some A) ∧ A.block = j) → W1.heap.size ≤ j ∧ j < wr.heap.size) := Lib.hid (fun j hj => by
        obtain ⟨h0, A, hA, rfl⟩ := hj
        rcases hA with hA | hA
        · obtain ⟨b, off, e, hb, _⟩ := he1 h0
          exact ⟨hn1 A hA, by rw [hA] at e; cases e; exact hb⟩
        · obtain ⟨b, off, e, hb, _⟩ := he2 h0
          exact ⟨hn2 A hA, by rw [hA] at e; cases e; exact hb⟩)
      obtain ⟨Y, hY⟩ : ∃ Y : Nat → Prop, Y = fun j => 0 < E.length ∧ ∃ A, (a1 = some A ∨ a2 = some A) ∧ A.block = j := ⟨_, rfl⟩
      have HE1 := Lib.hid (fun (W : World) (hW : PRows W0 W1 wr ob Y W) => hW.ents he1 (fun h0 A hA => by rw [hY]; exact ⟨h0, A, Or.inl hA, rfl⟩))
      have HE2 := Lib.hid (fun (W : World) (hW : PRows W0 W1 wr ob Y W) => hW.ents he2 (fun h0 A hA => by rw [hY]; exact ⟨h0, A, Or.inr hA, rfl⟩))
      have hB9 := bo8_new hB1 HBW.out Y (by rw [hY]; exact HY.out)
      have hS9 : PRows W0 W1 wr ob Y wr := ⟨hSr, Nat.le_refl _, fun _ _ => rfl⟩
      have HD : Hid (∀ Sr W, D.Bo B W pb qb (fun j => j = ob ∨ Y j) S Sr → PRows W0 W1 wr ob Y W → _) := Lib.hid (fun Sr W (h : D.Bo B W pb qb (fun j => j = ob ∨ Y j) S Sr) (hw : PRows W0 W1 wr ob Y W) => bo8_d (R := fun e _ => e = .returned (.int .i64 (hiE S n E))) h (fun F hd => segC.hint hd (HTB.out _ hw.1.2) n E a1 cap1 f2.1 f2.2 (by omega) (HE1.out W hw) HFE.out (by omega)))
      have HR : Hid (∀ Sd W, D.Bo B W pb qb (fun j => j = ob ∨ Y j) Sd S → PRows W0 W1 wr ob Y W → _) := Lib.hid (fun Sd W (h : D.Bo B W pb qb (fun j => j = ob ∨ Y j) Sd S) (hw : PRows W0 W1 wr ob Y W) => bo8_r (R := fun e _ => e = .returned (.int .i64 (hiE S n E))) h (fun lv hr => refHint_any hr n E a2 cap2 (by omega) (HE2.out W hw) HFE.out (by omega)))
      generalize hiE S n E = xx at *
      generalize hiS S n E = S2 at *
      have h1a : ∀ W, PRows W0 W1 wr ob Y W → W.cell? ⟨ob, 1, none⟩ = some (.int .i64 n) := fun W hW => hA1 W hW.1
      clear hEk hY HY he1 he2 hn1 hn2 ho1' ho2' hA1 hA2 hA3 z1 z2 z3 hSr hbw hS1 hB1
      have HB1 := hB9
      go_region_held3 (fun W => PRows W0 W1 wr ob Y W) (first | assumption | exact hS9 | exact hS9.drew | exact PRows.drew ‹_›)
        (first
          | (go_at_call 23
             refine (HD.out _ _ (by first | assumption | exact Bo8.drew (by assumption)) (by first | assumption | exact hS9 | exact hS9.drew | exact PRows.drew ‹_›)).mono ?_
             rintro e w3 ⟨rfl, hB3, hf3⟩
             have hS3 : PRows W0 W1 wr ob Y w3 := PRows.fr (by first | assumption | exact hS9 | exact hS9.drew | exact PRows.drew ‹_›) hf3 (Or.inl rfl) (fun _ h => Or.inr h) hz01 hf3.1.size
             try dsimp only)
          | (go_at_call 24
             refine (HR.out _ _ (by first | assumption | exact Bo8.drew (by assumption)) (by first | assumption | exact hS9 | exact hS9.drew | exact PRows.drew ‹_›)).mono ?_
             rintro e w4 ⟨rfl, ⟨hB4, _⟩, hf4⟩
             have hS4 : PRows W0 W1 wr ob Y w4 := PRows.fr (by first | assumption | exact hS9 | exact hS9.drew | exact PRows.drew ‹_›) hf4 (Or.inl rfl) (fun _ h => Or.inr h) hz01 hf4.1.size
             try dsimp only))
      all_goals
        try dsimp only
        go_wp2_with fail
        first
          | exact HQ.out _ _ _ _ _ _ _ _ _ _ _ _ _ _ _ _ _ _ _ _ _ _ _ _ _ _ _ _ _ _ _ _ _ _ _ _ _ _ _ _ _ _ _ _ _ _ _ _ _ _ _ _ _ _ _ _ _ _ _ _ _ _ _ _ _ _ _ _ _ _ _ _ _ _ _ _ _ _ _ _ _ _ _ _ _ _ _ _ _ _ _ _ _ _ _ _ _ _ _ _ _ _ _ _ _ _ _ _ _ _ _ _ _ _ _ _ _ _ _ _ _ _ _ _ _ _ _ _ _ _ _ _ _ _ _ _ _ _ _ _ _ _ _ _ _ _ _ _ _ _ _ _ _ _ _ _ _ _ _ _ _ _ _ _ _ _ _ _ _ _ _ _ _ _ _ _ _ _ _ _ _ _ _ _ _ _ _ _ _ _ _ _ _ _ _ _ _ _ _ _ _ _ _ _ _ _ _ _ _ _ _ _ _ _ _ _ _ _ _ _ _ _ _ _ _ _ _ _ _ _ _ _ _ _ _ _ _ _ _ _ _ _ _ _ _ _ _ _ _ _ _ _ _ _ _ _ _ _ _ _ _ _ _ _ _ _ _ _ _ _ _ _ _ _ _ _ _ _ _ _ _ _ _ _ _ _ _ _ _ _ _ _ _ _ _ _ _ _ _ _ _ _ _ _ _ _ _ _ _ _ _ _ _ _ _ _ ⟨_, hB4.drop, by omega, hS4.1.2⟩
          | exact HQ.out _ _ _ _ _ _ _ _ _ _ _ _ _ _ _ _ _ _ _ _ _ _ _ _ _ _ _ _ _ _ _ _ _ _ _ _ _ _ _ _ _ _ _ _ _ _ _ _ _ _ _ _ _ _ _ _ _ _ _ _ _ _ _ _ _ _ _ _ _ _ _ _ _ _ _ _ _ _ _ _ _ _ _ _ _ _ _ _ _ _ _ _ _ _ _ _ _ _ _ _ _ _ _ _ _ _ _ _ _ _ _ _ _ _ _ _ _ _ _ _ _ _ _ _ _ _ _ _ _ _ _ _ _ _ _ _ _ _ _ _ _ _ _ _ _ _ _ _ _ _ _ _ _ _ _ _ _ _ _ _ _ _ _ _ _ _ _ _ _ _ _ _ _ _ _ _ _ _ _ _ _ _ _ _ _ _ _ _ _ _ _ _ _ _ _ _ _ _ _ _ _ _ _ _ _ _ _ _ _ _ _ _ _ _ _ _ _ _ _ _ _ _ _ _ _ _ _ _ _ _ _ _ _ _ _ _ _ _ _ _ _ _ _ _ _ _ _ _ _ _ _ _ _ _ _ _ _ _ _ _ _ _ _ _ _ _ _ _ _ _ _ _ _ _ _ _ _ _ _ _ _ _ _ _ _ _ _ _ _ _ _ _ _ _ _ _ _ _ _ _ _ _ _ _ _ _ _ _ _ _ _ _ _ _ _ _ ⟨_, hB3.drop, by omega, hS3.1.2⟩

end Go.Proofs.YtmekkbhblghbmaaGreatDoor
