/- PublishPlays: the switch, some of its ways. -/
import Derived.Test.YtkdidinekoaobaaGreatDoorPstep
namespace Go.Proofs.YtkdidinekoaobaaGreatDoor.P
open Go.RowKit M J
set_option linter.unusedVariables false
set_option linter.unusedSimpArgs false

set_option maxHeartbeats 4000000 in
set_option maxRecDepth 1000000 in
theorem sw_next1 {W : World} {B pb qb mb ob i : Nat} {w1 : World} {o : Opq} {S : Rs} {m : Mf} {ma : Option Addr} {mc : Nat} {c0 c1 c2 c3 c7 c10 c11 c12 c13 c14 c15 c16 c17 c18 c19 c20 c21 c22 c23 c24 c25 c26 c27 c28 c29 c30 c31 c32 c33 c34 c35 c36 c37 c38 c39 c40 c41 c42 c43 c44 c45 c46 c47 c48 c49 c50 c51 c52 c53 c54 c55 c56 c57 c58 c59 c60 c61 c62 c63 c64 c65 c66 c67 c69 c70 c71 c72 c73 c74 c75 c76 c77 c78 c79 c80 c81 c82 c83 c84 c85 c86 c87 c88 c89 c90 c91 c92 c93 c94 c95 c96 c97 c98 c99 c100 c101 c102 c103 c104 c105 c106 c107 c108 c109 c110 c111 c112 c113 c114 c115 c116 c117 c118 c119 c120 c121 c122 c123 c124 c125 c126 c127 c128 c129 c130 c131 c132 c133 c134 c135 c136 c137 c138 c139 c140 c141 c142 c143 c144 c145 c146 c147 c148 c149 c150 c151 c152 c153 c154 c155 c156 c157 c158 c159 c160 c161 c162 c163 c164 c165 c166 c167 c168 c169 c170 c171 c172 c173 c174 c175 c176 c177 c178 c179 c180 c181 c182 c183 c184 c185 c186 c187 c188 c189 c190 c191 c192 c193 c194 c195 c196 c197 c198 c199 c200 c201 c202 c203 c204 c205 c206 c207 c208 c209 c210 c211 c212 c213 c214 c215 c216 c217 c218 c219 c220 c221 c222 c223 c224 c225 c226 c227 c228 c229 c230 c231 c232 c233 c234 c235 c236 c237 c238 c239 c240 c241 c242 c243 c244 c245 c246 c247 c248 c249 c250 c251 c252 c253 c254 c255 c256 c257 c258 c259 c260 c261 : Value} (h : Stp W B pb qb mb ob i w1 o S m ma mc) (hd : o.d = 1) {Q : Exit → Act → World → Prop}
    (hQ : ∀ (u10 u11 u12 u13 u14 u15 u16 u17 u18 u19 u20 u21 u22 u23 u24 u25 u26 u27 u28 u69 u70 u71 u72 u73 u74 u75 u76 u77 u78 u79 u80 u81 u82 u83 u84 u85 u86 u87 u88 u89 u90 u91 u92 u93 u94 u95 u96 u97 u98 u99 u100 u101 u102 u103 u104 u105 u106 u107 u108 u109 u110 u111 u112 u113 u114 u115 u116 u117 u118 u119 u120 u121 u122 u123 u124 u125 u126 u127 u128 u129 u130 u131 u132 u133 u134 u135 u136 u137 u138 u139 u140 u141 u142 u143 u144 u145 u146 u147 u148 u149 u150 u151 u152 u153 u154 u155 u156 u157 u158 u159 u160 u161 u162 u163 u164 u165 u166 u167 u168 u169 u170 u171 u172 u173 u174 u175 u176 u177 u178 u179 u180 u181 u182 u183 u184 u185 u186 u187 u188 u189 u190 u191 u192 u193 u194 u195 u196 u197 u198 u199 u200 u201 u202 u203 u204 u205 u206 u207 u208 u209 u210 u211 u212 u213 u214 u215 u216 u217 u218 u219 u220 u221 u222 u223 u224 u225 u226 u227 u228 u229 u230 u231 u232 u233 u234 u235 u236 u237 u238 u239 u240 u241 u242 u243 u244 u245 u246 u247 u248 u249 : Value) (wc : World), Done W B pb qb mb i wc → Q .normal ⟨#[c0, c1, c2, c3, .pointer (some ⟨pb, 0, none⟩), .pointer (some ⟨qb, 0, none⟩), .pointer (some ⟨mb, 0, none⟩), c7, .pointer (some ⟨ob, 0, none⟩), .bool true, u10, u11, u12, u13, u14, u15, u16, u17, u18, u19, u20, u21, u22, u23, u24, u25, u26, u27, u28, c29, c30, c31, c32, c33, c34, c35, c36, c37, c38, c39, c40, c41, c42, c43, c44, c45, c46, c47, c48, c49, c50, c51, c52, c53, c54, c55, c56, c57, c58, c59, c60, c61, c62, c63, c64, c65, c66, c67, .int .i64 o.d, u69, u70, u71, u72, u73, u74, u75, u76, u77, u78, u79, u80, u81, u82, u83, u84, u85, u86, u87, u88, u89, u90, u91, u92, u93, u94, u95, u96, u97, u98, u99, u100, u101, u102, u103, u104, u105, u106, u107, u108, u109, u110, u111, u112, u113, u114, u115, u116, u117, u118, u119, u120, u121, u122, u123, u124, u125, u126, u127, u128, u129, u130, u131, u132, u133, u134, u135, u136, u137, u138, u139, u140, u141, u142, u143, u144, u145, u146, u147, u148, u149, u150, u151, u152, u153, u154, u155, u156, u157, u158, u159, u160, u161, u162, u163, u164, u165, u166, u167, u168, u169, u170, u171, u172, u173, u174, u175, u176, u177, u178, u179, u180, u181, u182, u183, u184, u185, u186, u187, u188, u189, u190, u191, u192, u193, u194, u195, u196, u197, u198, u199, u200, u201, u202, u203, u204, u205, u206, u207, u208, u209, u210, u211, u212, u213, u214, u215, u216, u217, u218, u219, u220, u221, u222, u223, u224, u225, u226, u227, u228, u229, u230, u231, u232, u233, u234, u235, u236, u237, u238, u239, u240, u241, u242, u243, u244, u245, u246, u247, u248, u249, c250, c251, c252, c253, c254, c255, c256, c257, c258, c259, c260, c261], []⟩ wc) : Code.wp Tryz.prog theSwitch Q ⟨#[c0, c1, c2, c3, .pointer (some ⟨pb, 0, none⟩), .pointer (some ⟨qb, 0, none⟩), .pointer (some ⟨mb, 0, none⟩), c7, .pointer (some ⟨ob, 0, none⟩), .bool true, c10, c11, c12, c13, c14, c15, c16, c17, c18, c19, c20, c21, c22, c23, c24, c25, c26, c27, c28, c29, c30, c31, c32, c33, c34, c35, c36, c37, c38, c39, c40, c41, c42, c43, c44, c45, c46, c47, c48, c49, c50, c51, c52, c53, c54, c55, c56, c57, c58, c59, c60, c61, c62, c63, c64, c65, c66, c67, .int .i64 o.d, c69, c70, c71, c72, c73, c74, c75, c76, c77, c78, c79, c80, c81, c82, c83, c84, c85, c86, c87, c88, c89, c90, c91, c92, c93, c94, c95, c96, c97, c98, c99, c100, c101, c102, c103, c104, c105, c106, c107, c108, c109, c110, c111, c112, c113, c114, c115, c116, c117, c118, c119, c120, c121, c122, c123, c124, c125, c126, c127, c128, c129, c130, c131, c132, c133, c134, c135, c136, c137, c138, c139, c140, c141, c142, c143, c144, c145, c146, c147, c148, c149, c150, c151, c152, c153, c154, c155, c156, c157, c158, c159, c160, c161, c162, c163, c164, c165, c166, c167, c168, c169, c170, c171, c172, c173, c174, c175, c176, c177, c178, c179, c180, c181, c182, c183, c184, c185, c186, c187, c188, c189, c190, c191, c192, c193, c194, c195, c196, c197, c198, c199, c200, c201, c202, c203, c204, c205, c206, c207, c208, c209, c210, c211, c212, c213, c214, c215, c216, c217, c218, c219, c220, c221, c222, c223, c224, c225, c226, c227, c228, c229, c230, c231, c232, c233, c234, c235, c236, c237, c238, c239, c240, c241, c242, c243, c244, c245, c246, c247, c248, c249, c250, c251, c252, c253, c254, c255, c256, c257, c258, c259, c260, c261], []⟩ w1 := by
  have t0 : (o.d == 0) = false := by simp; omega
  have t1 : (o.d == 1) = true := by simp [hd]
  clear hd
  have HST := Lib.hid h
  have hst1 : Fr B (Xs mb ma m.segs ob) w1 w1 := Fr.refl
  have HAT : Hid (∀ W, Fr B (Xs mb ma m.segs ob) w1 W → _) := Lib.hid (fun W hW => h.at (W' := W) hW)
  have hwat := h.wat
  have hroom := h.room
  have hvb := h.vb
  have hsm0 := h.pl.small
  have hfew := h.pl.few
  have hi60 := h.i60
  have hof := h.fit
  have y1 := op_n h.blk
  have y2 := op_nm h.blk
  have y3 := op_b h.blk
  have y4 := op_s h.blk
  have y5 := op_k h.blk
  have HQ := Lib.hid hQ
  clear h hQ
  have hsl0 := HST.out.segs
  have hmblk := HST.out.pl.blk
  have hmbl := (bo_far hwat (Or.inl (Or.inl rfl))).1
  have k0 := cell_of_row _ mb 0 _ _ (0, 0) hmblk
  have k1 := cell_of_row _ mb 1 _ _ (0, 0) hmblk
  simp only [mfC, List.getElem?_toArray, List.getElem?_cons_succ, List.getElem?_cons_zero] at k0 k1
  have b2 : Below w1.heap.size w1 (w1.alloc (.cells #[.int .i64 m.ver, .slice ma m.segs.length mc] 33)) := (Below.refl _ _).alloc (Nat.le_refl _) _
  have hB2 := bo_new hwat (.cells #[.int .i64 m.ver, .slice ma m.segs.length mc] 33)
  have hf2 := Fr.below hwat b2
  have hx2 := heap_alloc_new w1 (.cells #[.int .i64 m.ver, .slice ma m.segs.length mc] 33)
  have z1 := op_n (HAT.out _ hf2)
  obtain ⟨g0, _, gf, _⟩ := set2_block hx2 (.int .i64 0) (.int .i64 0)
  clear y1 y2 y3 y4 y5 hmblk b2
  conv => arg 2; whnf
  by_cases hodd : (bits .and .i64 o.n 1 == 1) = true
  · have hxx := heap_alloc_new w1 (.cells #[.int .i64 o.n, .slice ma m.segs.length mc] 33)
    have hBx := bo_new hwat (.cells #[.int .i64 o.n, .slice ma m.segs.length mc] 33)
    have hfx := Fr.below hwat ((Below.refl _ _).alloc (Nat.le_refl _) (.cells #[.int .i64 o.n, .slice ma m.segs.length mc] 33))
    have hv := hof.n
    have z4 := op_s (HAT.out _ hfx)
    obtain ⟨e0, e1⟩ := two_cells hxx
    have hc1 := bo_next (m := ⟨o.n, m.segs⟩) (ma := ma) (mc := mc) (c := o.sc) hBx (vb_of HST.out.vt HST.out.size (HST.out.below.trans (hfx.1.mono HST.out.size))) hroom (hsl0.later (HST.out.below.trans (hfx.1.mono HST.out.size)) (Nat.le_refl _)) (fun k hk => Nat.lt_of_lt_of_le (rw_lt hsl0 hk) HST.out.size) ⟨hv, HST.out.pl.fit.2⟩ hof.sf (by have := HST.out.lsl; omega)
    have hcr : ∀ (X : Nat → Prop) Sd W' a2 c2 a3 c3, Bo B W' pb qb X Sd S → SgsIn W' a3 o.sl → _ := fun X Sd W' a2 c2 a3 c3 hb hs => bo_refnext (m := ⟨o.n, m.segs⟩) (ma := a2) (mc := c2) (c := c3) (a := a3) hb hroom hs ⟨hv, HST.out.pl.fit.2⟩ hof.sf (by have := HST.out.lsl; omega)
    have hsm := once_small (S := S) (k := i) hsm0 (ver := o.n) (l := o.sl) (mbs_len (fun s hs => (hof.sf s hs).2.2) (by have := HST.out.lsl; show o.sl.length ≤ 80; omega))
    have hmf := next_mf (S := S) (v := o.n) hof.sf HST.out.lsl
    obtain ⟨S', M', ev, hZ⟩ : ∃ a b c, next S o.n o.sl = (a, b, c) := ⟨_, _, _, rfl⟩
    simp only [hZ, mfV] at hc1
    simp only [hZ, RowE, mfV] at hcr
    simp only [hZ] at hsm hmf
    have hsm : Small (i + 1) S' ∧ S'.n ≤ S.n + 100 := ⟨hsm.1, by have := hsm.2; omega⟩
    have HCR := Lib.hid hcr; have HBX := Lib.hid hBx; have HFX := Lib.hid hfx; have HXX := Lib.hid hxx; have HOF := Lib.hid hof; have HSL0 := Lib.hid hsl0
    clear hZ hcr hBx hfx hxx hof hsl0 hvb hroom hsm0 hfew hi60 hv hx2 hB2 hf2
    go_wp2_with fail
    refine hc1.mono ?_
    rintro e w3 ⟨a, cap, rfl, s3, hB3, hf3⟩
    clear hc1
    have b3 : Below w3.heap.size w3 (w3.alloc (.cells (mfC M'.ver a M'.segs.length cap) 33)) := (Below.refl _ _).alloc (Nat.le_refl _) _
    have hB4 := bo_new hB3 (.cells (mfC M'.ver a M'.segs.length cap) 33)
    have hf4 := hf3.trans (Fr.below (bo_sub hB3 (fun k hk => Or.inl hk)) b3)
    have hx4 := heap_alloc_new w3 (.cells (mfC M'.ver a M'.segs.length cap) 33)
    have s4 := s3.later b3 (Nat.le_refl _)
    have HX := Lib.hid (And.intro hB4 (And.intro hf4 (And.intro hx4 s4)))
    clear hB3 hf3 b3 hf4 hx4 s4 s3 hB4 e0 e1 z4 g0 gf z1 k0 k1
    go_wp2_with fail
    generalize w3.heap.size = ab at *
    generalize w3.alloc _ = w4 at *
    have hfa : Fr B (Xs mb ma m.segs ob) w1 w4 := HFX.out.trans ⟨HX.out.2.1.1, fun k hk => HX.out.2.1.2 k (Or.inl hk)⟩
    have hob4 := HAT.out w4 hfa
    have hx5 := (HX.out.2.1.2 w1.heap.size (Or.inr rfl)).trans HXX.out
    have hBW : Below W.heap.size W w4 := HST.out.below.trans (hfa.1.mono HST.out.size)
    have hmr4 : SgsIn w4 ma m.segs := sgs_rw HST.out.pl.row hfa.1.size (fun k hk => hfa.2 k (Or.inl (Or.inr hk)))
    have hzz : ∀ W', Below w4.heap.size w4 W' → W'.cell? ⟨w1.heap.size, 0, none⟩ = some (.int .i64 o.n) ∧ W'.cell? ⟨w1.heap.size, 1, none⟩ = some (.slice ma m.segs.length mc) ∧ W'.cell? ⟨ob, 4, none⟩ = some (.slice o.sa o.sl.length o.sc) := fun W' hW => by
      obtain ⟨u0, u1⟩ := two_cells ((hW.block _ (Array.getElem?_eq_some_iff.1 hx5).1).trans hx5)
      exact ⟨u0, u1, op_s ((hW.block _ (Array.getElem?_eq_some_iff.1 hob4).1).trans hob4)⟩
    have HTO : Hid (∀ W', Below w4.heap.size w4 W' → Calls Tryz.prog 12 #[.agg #[.int .i64 o.n, .slice ma m.segs.length mc]] W' fun e w' => ∃ a2 c2, e = .returned (.agg #[.int .i64 o.n, .slice a2 m.segs.length c2]) ∧ Below w4.heap.size w4 w' ∧ Below W'.heap.size W' w') := Lib.hid (fun W' hW => by
      have := to_any ⟨o.n, m.segs⟩ ma mc W' (hmr4.later hW (Nat.le_refl _)) (by have := HST.out.pl.len; show m.segs.length ≤ 2000; omega)
      unfold mfV at this
      exact this.mono fun e w' ⟨a2, c2, e1, _, _, e3⟩ => ⟨a2, c2, e1, hW.trans (e3.mono hW.size), e3⟩)
    have HSG : Hid (∀ W', Below w4.heap.size w4 W' → Calls Tryz.prog 15 #[.slice o.sa o.sl.length o.sc] W' fun e w' => ∃ a3 c3, e = .returned (.slice a3 o.sl.length c3) ∧ SgsIn w' a3 o.sl ∧ Below w4.heap.size w4 w' ∧ Below W'.heap.size W' w') := Lib.hid (fun W' hW =>
      (segs_any o.sl o.sa o.sc W' (HSL0.out.later (hBW.trans (hW.mono hBW.size)) (Nat.le_refl _)) (by have := HST.out.lsl; omega)).mono fun e w' ⟨a2, c2, e1, e2, e3⟩ => by
        obtain ⟨a3, c3, e4, hsg⟩ := owns_sgs e2
        have e5 : a3 = a2 := by injection e4 with e4; exact e4.symm
        subst e5
        exact ⟨a3, c2, e1, hsg, hW.trans (e3.mono hW.size), e3⟩)
    have HNX := Lib.hid (fun W' a2 c2 a3 c3 (hW : Below w4.heap.size w4 W') (hs : SgsIn W' a3 o.sl) => (HCR.out _ _ W' a2 c2 a3 c3 (HX.out.1.below hW) hs).mono fun e w' ⟨r1, ⟨r2, r3⟩, r4⟩ => (⟨r1, r2, (Turn.of_below (fun k => k = qb) hW (Nat.le_refl _)).trans r3, (Fr.below HX.out.1 hW).trans r4⟩ : _ ∧ _ ∧ Turn (fun k => k = qb) w4 w' ∧ Fr B _ w4 w'))
    have HNY := Lib.hid (fun W' a2 c2 a3 c3 (hW : Below w4.heap.size w4 W') (hs : SgsIn W' a3 o.sl) g (hg : W'.heap[g]? = some (.cells #[.int .i64 0, .slice none 0 0] 41 (0, 0))) (hgl : w4.heap.size ≤ g) => (HCR.out _ _ W' a2 c2 a3 c3 (bo_watch2 HX.out.1 hW hgl (Array.getElem?_eq_some_iff.1 hg).1) hs).mono fun e w' ⟨r1, ⟨r2, r3⟩, r4⟩ => (⟨r1, r2, (Turn.of_below (fun k => k = qb) hW (Nat.le_refl _)).trans r3, (Fr.below HX.out.1 hW).trans ⟨r4.1, fun k hk => r4.2 k (Or.inl hk)⟩, (r4.2 g (Or.inr rfl)).trans hg⟩ : _ ∧ _ ∧ Turn (fun k => k = qb) w4 w' ∧ Fr B _ w4 w' ∧ w'.heap[g]? = some (Obj.cells #[.int .i64 0, .slice none 0 0] 41 (0, 0))))
    have hKX : ∀ k, (((Xs mb ma m.segs ob k ∨ k = w1.heap.size) ∨ Rw a M'.segs k) ∨ k = ab) → k < w4.heap.size := fun k hk => (bo_far HX.out.1 hk).1
    have hKB : B ≤ w4.heap.size := HX.out.1.size
    have B0 : Below w4.heap.size w4 w4 := Below.refl _ _
    have B1 : Below w4.heap.size w4 (w4.alloc (.cells #[.int .i64 0, .slice none 0 0] 41)) := B0.alloc (Nat.le_refl _) _
    have G1 := heap_alloc_new w4 (.cells #[.int .i64 0, .slice none 0 0] 41)
    have K0 : Fr B (fun k => ((Xs mb ma m.segs ob k ∨ k = w1.heap.size) ∨ Rw a M'.segs k) ∨ k = ab) w4 w4 := Fr.refl
    have HKB := Lib.hid (fun W' (hW : Below w4.heap.size w4 W') => Fr.below HX.out.1 hW)
    have m0 : ∀ W', Fr B (fun k => ((Xs mb ma m.segs ob k ∨ k = w1.heap.size) ∨ Rw a M'.segs k) ∨ k = ab) w4 W' → W'.cell? ⟨w1.heap.size, 0, none⟩ = some (.int .i64 o.n) := fun W' hW => by rw [cell_of_row W' _ 0 _ _ (0, 0) ((hW.2 _ (Or.inl (Or.inl (Or.inr rfl)))).trans hx5)]; rfl
    have m1 : ∀ W', Fr B (fun k => ((Xs mb ma m.segs ob k ∨ k = w1.heap.size) ∨ Rw a M'.segs k) ∨ k = ab) w4 W' → W'.cell? ⟨w1.heap.size, 1, none⟩ = some (.slice ma m.segs.length mc) := fun W' hW => by rw [cell_of_row W' _ 1 _ _ (0, 0) ((hW.2 _ (Or.inl (Or.inl (Or.inr rfl)))).trans hx5)]; rfl
    have m4 : ∀ W', Fr B (fun k => ((Xs mb ma m.segs ob k ∨ k = w1.heap.size) ∨ Rw a M'.segs k) ∨ k = ab) w4 W' → W'.cell? ⟨ob, 4, none⟩ = some (.slice o.sa o.sl.length o.sc) := fun W' hW => op_s ((hW.2 _ (Or.inl (Or.inl (Or.inl (Or.inr rfl))))).trans hob4)
    clear hob4 hx5 hBW hmr4 hfa hzz
    go_region_held3 (fun W' => Fr B (fun k => ((Xs mb ma m.segs ob k ∨ k = w1.heap.size) ∨ Rw a M'.segs k) ∨ k = ab) w4 W') (first | assumption | exact K0 | exact fr_drew K0 | exact fr_drew ‹_› | exact fr_al hKX hKB ‹_› _ | exact fr_drew (fr_al hKX hKB ‹_› _) | exact fr_al hKX hKB (fr_drew ‹_›) _ | exact fr_st hKX hKB ‹_› hg5 _ | exact fr_st hKX hKB (fr_st hKX hKB ‹_› hg5 _) hg5 _)
      (first
        | (go_at_call 12
           refine (HTO.out _ (by first | exact B0 | exact B0.drew)).mono ?_
           rintro er w8 ⟨a2, c2, rfl, hb8, hq8⟩
           have hK8 := HKB.out _ hb8)
        | (go_at_call 12
           refine (HTO.out _ (by first | exact B1 | exact B1.drew | exact B0.drew.alloc (Nat.le_refl _) _)).mono ?_
           rintro er w8 ⟨a2, c2, rfl, hb8, hq8⟩
           have G8 := (hq8.block w4.heap.size (Array.getElem?_eq_some_iff.1 G1).1).trans G1
           have hK8 := HKB.out _ hb8)
        | (go_at_call 15
           refine (HSG.out _ (by first | exact hb8 | exact hb8.drew)).mono ?_
           rintro er w9 ⟨a3, c3, rfl, s9, hb9, hq9⟩
           have G9 := (hq9.block w4.heap.size (Array.getElem?_eq_some_iff.1 G8).1).trans G8
           have hG9 : w4.heap.size ≤ w4.heap.size := Nat.le_refl _
           have hK9 := HKB.out _ hb9)
        | (go_at_call 15
           refine (HSG.out _ (by first | exact hb8 | exact hb8.drew)).mono ?_
           rintro er w9 ⟨a3, c3, rfl, s9, hb9, hq9⟩
           have hK9 := HKB.out _ hb9)
        | (go_at_call 15
           refine (HSG.out _ (by first | exact hb8.alloc hb8.size _ | exact (hb8.alloc hb8.size _).drew | exact hb8.drew.alloc hb8.size _)).mono ?_
           rintro er w9 ⟨a3, c3, rfl, s9, hb9, hq9⟩
           have G9 := (hq9.block w8.heap.size (Array.getElem?_eq_some_iff.1 (heap_alloc_new w8 (.cells #[.int .i64 0, .slice none 0 0] 41))).1).trans (heap_alloc_new w8 (.cells #[.int .i64 0, .slice none 0 0] 41))
           have hG9 := hb8.size
           have hK9 := HKB.out _ hb9)
        | (go_at_call 14
           refine (HNY.out _ _ _ _ _ (by first | exact hb9 | exact hb9.drew) (by first | exact s9 | exact s9.later (Below.drew (Below.refl _ _)) (Nat.le_refl _)) _ (by exact G9) hG9).mono ?_
           rintro er w5 ⟨⟨a', cap', rfl, s5⟩, hB5, t5, hf5, g5⟩
           obtain ⟨v0, v1, vf, _⟩ := set2_block g5 (.int .i64 M'.ver) (.slice a' M'.segs.length cap')
           have hg5 := hG9)
        | (go_at_call 14
           refine (HNX.out _ _ _ _ _ (by first | exact hb9 | exact hb9.drew) (by first | exact s9 | exact s9.later (Below.drew (Below.refl _ _)) (Nat.le_refl _))).mono ?_
           rintro er w5 ⟨⟨a', cap', rfl, s5⟩, hB5, t5, hf5⟩)
        | (go_at_call 14
           refine (HNY.out _ _ _ _ _ (by first | exact hb9.alloc hb9.size _ | exact (hb9.alloc hb9.size _).drew | exact hb9.drew.alloc hb9.size _) (by exact s9.later ((Below.refl w9.heap.size w9).alloc (Nat.le_refl _) _) (Nat.le_refl _)) _ (by exact heap_alloc_new w9 (.cells #[.int .i64 0, .slice none 0 0] 41)) hb9.size).mono ?_
           rintro er w5 ⟨⟨a', cap', rfl, s5⟩, hB5, t5, hf5, g5⟩
           obtain ⟨v0, v1, vf, _⟩ := set2_block g5 (.int .i64 M'.ver) (.slice a' M'.segs.length cap')
           have hg5 := hb9.size))
    all_goals
      first
        | have hT := (two_of2 (g := w4.heap.size) (X := fun k => Xs mb ma m.segs ob k ∨ k = w1.heap.size) (c' := cap') HX.out.1 HX.out.2.1 HX.out.2.2.1 HX.out.2.2.2 hB5 t5 hf5 s5 g5 (Nat.le_refl _)).sub (fun k hk => Or.inl hk) HFX.out
          generalize w4.heap.size = yb at *
          generalize (w5.setCell _ _).setCell _ _ = w6 at *
        | have hT := (two_of2 (g := w8.heap.size) (X := fun k => Xs mb ma m.segs ob k ∨ k = w1.heap.size) (c' := cap') HX.out.1 HX.out.2.1 HX.out.2.2.1 HX.out.2.2.2 hB5 t5 hf5 s5 g5 hb8.size).sub (fun k hk => Or.inl hk) HFX.out
          generalize w8.heap.size = yb at *
          generalize (w5.setCell _ _).setCell _ _ = w6 at *
        | have hT := (two_of2 (g := w9.heap.size) (X := fun k => Xs mb ma m.segs ob k ∨ k = w1.heap.size) (c' := cap') HX.out.1 HX.out.2.1 HX.out.2.2.1 HX.out.2.2.2 hB5 t5 hf5 s5 g5 hb9.size).sub (fun k hk => Or.inl hk) HFX.out
          generalize w9.heap.size = yb at *
          generalize (w5.setCell _ _).setCell _ _ = w6 at *
        | have hT := (two_of (X := fun k => Xs mb ma m.segs ob k ∨ k = w1.heap.size) (c' := cap') HX.out.1 HX.out.2.1 HX.out.2.2.1 HX.out.2.2.2 hB5 t5 hf5 s5).sub (fun k hk => Or.inl hk) HFX.out
          generalize w5.heap.size = yb at *
          generalize w5.alloc _ = w6 at *
      clear HX hB5 t5 hf5 s5 hb8 hb9 s9 hK8 hK9 m0 m1 m4 K0 B0 B1 G1
      clear HNX HNY HSG HTO HCR HKB hKX hKB
      go_wp2_with fail
      have HTW := Lib.hid hT
      have x0 := fun W (hW : Below w6.heap.size w6 W) => two_cells (hT.below hW).blk
      have x1 := fun W (hW : Below w6.heap.size w6 W) => two_cells (hT.below hW).rblk
      have m0 : ∀ W, Below w6.heap.size w6 W → W.cell? ⟨ab, 0, none⟩ = _ := fun W hW => (x0 W hW).1
      have m1 : ∀ W, Below w6.heap.size w6 W → W.cell? ⟨ab, 1, none⟩ = _ := fun W hW => (x0 W hW).2
      have m2 : ∀ W, Below w6.heap.size w6 W → W.cell? ⟨yb, 0, none⟩ = _ := fun W hW => (x1 W hW).1
      have m3 : ∀ W, Below w6.heap.size w6 W → W.cell? ⟨yb, 1, none⟩ = _ := fun W hW => (x1 W hW).2
      obtain ⟨ht, hs⟩ := two_same hT hmf.2
      have HTO := Lib.hid ht; have HSA := Lib.hid hs
      have K0 : Below w6.heap.size w6 w6 := Below.refl _ _
      clear ht hs x0 x1 hT
      go_region_held3 (fun W => Below w6.heap.size w6 W) (first | assumption | exact K0 | exact K0.drew | exact Below.drew ‹_›)
        (first
          | (go_at_call 12
             refine (HTO.out _ (by first | assumption | exact K0 | exact K0.drew | exact Below.drew ‹_›)).mono ?_
             rintro e w8 ⟨a2, c2, rfl, s8, hK8⟩)
          | (go_at_call 11
             refine (HSA.out _ _ _ (by first | exact s8 | exact s8.later (Below.drew (Below.refl _ _)) (Nat.le_refl _)) (by first | assumption | exact Below.drew ‹_›)).mono ?_
             rintro e w9 ⟨rfl, hK9⟩))
      all_goals
        have TW := Lib.hid (HTW.out.below hK9)
        have q0 := m0 _ hK9
        have q1 := m1 _ hK9
        obtain ⟨z0, z1, zf, _⟩ := set2_block ((TW.out.fr.2 mb (Or.inl (Or.inl rfl))).trans HST.out.pl.blk) (.int .i64 M'.ver) (.slice a M'.segs.length cap)
        clear m0 m1 m2 m3 K0 hK8 hK9 s8
        by_cases he : ev = 0
        · subst he
          go_wp2_with fail
          exact HQ.out _ _ _ _ _ _ _ _ _ _ _ _ _ _ _ _ _ _ _ _ _ _ _ _ _ _ _ _ _ _ _ _ _ _ _ _ _ _ _ _ _ _ _ _ _ _ _ _ _ _ _ _ _ _ _ _ _ _ _ _ _ _ _ _ _ _ _ _ _ _ _ _ _ _ _ _ _ _ _ _ _ _ _ _ _ _ _ _ _ _ _ _ _ _ _ _ _ _ _ _ _ _ _ _ _ _ _ _ _ _ _ _ _ _ _ _ _ _ _ _ _ _ _ _ _ _ _ _ _ _ _ _ _ _ _ _ _ _ _ _ _ _ _ _ _ _ _ _ _ _ _ _ _ _ _ _ _ _ _ _ _ _ _ _ _ _ _ _ _ _ _ _ _ _ _ _ _ _ _ _ _ _ _ _ _ _ _ _ _ _ _ _ _ _ _ _ _ _ _ _ _ (done_two_store HST.out TW.out hsm.1 hsm.2 hmf.1 hmf.2)
        · have he1 : (ev == 0) = false := by simpa using he
          go_wp2_with fail
          exact HQ.out _ _ _ _ _ _ _ _ _ _ _ _ _ _ _ _ _ _ _ _ _ _ _ _ _ _ _ _ _ _ _ _ _ _ _ _ _ _ _ _ _ _ _ _ _ _ _ _ _ _ _ _ _ _ _ _ _ _ _ _ _ _ _ _ _ _ _ _ _ _ _ _ _ _ _ _ _ _ _ _ _ _ _ _ _ _ _ _ _ _ _ _ _ _ _ _ _ _ _ _ _ _ _ _ _ _ _ _ _ _ _ _ _ _ _ _ _ _ _ _ _ _ _ _ _ _ _ _ _ _ _ _ _ _ _ _ _ _ _ _ _ _ _ _ _ _ _ _ _ _ _ _ _ _ _ _ _ _ _ _ _ _ _ _ _ _ _ _ _ _ _ _ _ _ _ _ _ _ _ _ _ _ _ _ _ _ _ _ _ _ _ _ _ _ _ _ _ _ _ _ _ (done_two_same HST.out TW.out hsm.1 hsm.2)
  · have hodd : (bits .and .i64 o.n 1 == 1) = false := by simpa using hodd
    have hxx := hx2
    have hBx := hB2
    have hfx := hf2
    have hv := HST.out.pl.fit.1
    have z4 := op_s (HAT.out _ hfx)
    obtain ⟨e0, e1⟩ := two_cells hxx
    have hc1 := bo_next (m := ⟨m.ver, m.segs⟩) (ma := ma) (mc := mc) (c := o.sc) hBx (vb_of HST.out.vt HST.out.size (HST.out.below.trans (hfx.1.mono HST.out.size))) hroom (hsl0.later (HST.out.below.trans (hfx.1.mono HST.out.size)) (Nat.le_refl _)) (fun k hk => Nat.lt_of_lt_of_le (rw_lt hsl0 hk) HST.out.size) ⟨hv, HST.out.pl.fit.2⟩ hof.sf (by have := HST.out.lsl; omega)
    have hcr : ∀ (X : Nat → Prop) Sd W' a2 c2 a3 c3, Bo B W' pb qb X Sd S → SgsIn W' a3 o.sl → _ := fun X Sd W' a2 c2 a3 c3 hb hs => bo_refnext (m := ⟨m.ver, m.segs⟩) (ma := a2) (mc := c2) (c := c3) (a := a3) hb hroom hs ⟨hv, HST.out.pl.fit.2⟩ hof.sf (by have := HST.out.lsl; omega)
    have hsm := once_small (S := S) (k := i) hsm0 (ver := m.ver) (l := o.sl) (mbs_len (fun s hs => (hof.sf s hs).2.2) (by have := HST.out.lsl; show o.sl.length ≤ 80; omega))
    have hmf := next_mf (S := S) (v := m.ver) hof.sf HST.out.lsl
    obtain ⟨S', M', ev, hZ⟩ : ∃ a b c, next S m.ver o.sl = (a, b, c) := ⟨_, _, _, rfl⟩
    simp only [hZ, mfV] at hc1
    simp only [hZ, RowE, mfV] at hcr
    simp only [hZ] at hsm hmf
    have hsm : Small (i + 1) S' ∧ S'.n ≤ S.n + 100 := ⟨hsm.1, by have := hsm.2; omega⟩
    have HCR := Lib.hid hcr; have HBX := Lib.hid hBx; have HFX := Lib.hid hfx; have HXX := Lib.hid hxx; have HOF := Lib.hid hof; have HSL0 := Lib.hid hsl0
    clear hZ hcr hBx hfx hxx hof hsl0 hvb hroom hsm0 hfew hi60 hv hx2 hB2 hf2
    go_wp2_with fail
    refine hc1.mono ?_
    rintro e w3 ⟨a, cap, rfl, s3, hB3, hf3⟩
    clear hc1
    have b3 : Below w3.heap.size w3 (w3.alloc (.cells (mfC M'.ver a M'.segs.length cap) 33)) := (Below.refl _ _).alloc (Nat.le_refl _) _
    have hB4 := bo_new hB3 (.cells (mfC M'.ver a M'.segs.length cap) 33)
    have hf4 := hf3.trans (Fr.below (bo_sub hB3 (fun k hk => Or.inl hk)) b3)
    have hx4 := heap_alloc_new w3 (.cells (mfC M'.ver a M'.segs.length cap) 33)
    have s4 := s3.later b3 (Nat.le_refl _)
    have HX := Lib.hid (And.intro hB4 (And.intro hf4 (And.intro hx4 s4)))
    clear hB3 hf3 b3 hf4 hx4 s4 s3 hB4 e0 e1 z4 g0 gf z1 k0 k1
    go_wp2_with fail
    generalize w3.heap.size = ab at *
    generalize w3.alloc _ = w4 at *
    have hfa : Fr B (Xs mb ma m.segs ob) w1 w4 := HFX.out.trans ⟨HX.out.2.1.1, fun k hk => HX.out.2.1.2 k (Or.inl hk)⟩
    have hob4 := HAT.out w4 hfa
    have hx5 := (HX.out.2.1.2 w1.heap.size (Or.inr rfl)).trans HXX.out
    have hBW : Below W.heap.size W w4 := HST.out.below.trans (hfa.1.mono HST.out.size)
    have hmr4 : SgsIn w4 ma m.segs := sgs_rw HST.out.pl.row hfa.1.size (fun k hk => hfa.2 k (Or.inl (Or.inr hk)))
    have hzz : ∀ W', Below w4.heap.size w4 W' → W'.cell? ⟨w1.heap.size, 0, none⟩ = some (.int .i64 m.ver) ∧ W'.cell? ⟨w1.heap.size, 1, none⟩ = some (.slice ma m.segs.length mc) ∧ W'.cell? ⟨ob, 4, none⟩ = some (.slice o.sa o.sl.length o.sc) := fun W' hW => by
      obtain ⟨u0, u1⟩ := two_cells ((hW.block _ (Array.getElem?_eq_some_iff.1 hx5).1).trans hx5)
      exact ⟨u0, u1, op_s ((hW.block _ (Array.getElem?_eq_some_iff.1 hob4).1).trans hob4)⟩
    have HTO : Hid (∀ W', Below w4.heap.size w4 W' → Calls Tryz.prog 12 #[.agg #[.int .i64 m.ver, .slice ma m.segs.length mc]] W' fun e w' => ∃ a2 c2, e = .returned (.agg #[.int .i64 m.ver, .slice a2 m.segs.length c2]) ∧ Below w4.heap.size w4 w' ∧ Below W'.heap.size W' w') := Lib.hid (fun W' hW => by
      have := to_any ⟨m.ver, m.segs⟩ ma mc W' (hmr4.later hW (Nat.le_refl _)) (by have := HST.out.pl.len; show m.segs.length ≤ 2000; omega)
      unfold mfV at this
      exact this.mono fun e w' ⟨a2, c2, e1, _, _, e3⟩ => ⟨a2, c2, e1, hW.trans (e3.mono hW.size), e3⟩)
    have HSG : Hid (∀ W', Below w4.heap.size w4 W' → Calls Tryz.prog 15 #[.slice o.sa o.sl.length o.sc] W' fun e w' => ∃ a3 c3, e = .returned (.slice a3 o.sl.length c3) ∧ SgsIn w' a3 o.sl ∧ Below w4.heap.size w4 w' ∧ Below W'.heap.size W' w') := Lib.hid (fun W' hW =>
      (segs_any o.sl o.sa o.sc W' (HSL0.out.later (hBW.trans (hW.mono hBW.size)) (Nat.le_refl _)) (by have := HST.out.lsl; omega)).mono fun e w' ⟨a2, c2, e1, e2, e3⟩ => by
        obtain ⟨a3, c3, e4, hsg⟩ := owns_sgs e2
        have e5 : a3 = a2 := by injection e4 with e4; exact e4.symm
        subst e5
        exact ⟨a3, c2, e1, hsg, hW.trans (e3.mono hW.size), e3⟩)
    have HNX := Lib.hid (fun W' a2 c2 a3 c3 (hW : Below w4.heap.size w4 W') (hs : SgsIn W' a3 o.sl) => (HCR.out _ _ W' a2 c2 a3 c3 (HX.out.1.below hW) hs).mono fun e w' ⟨r1, ⟨r2, r3⟩, r4⟩ => (⟨r1, r2, (Turn.of_below (fun k => k = qb) hW (Nat.le_refl _)).trans r3, (Fr.below HX.out.1 hW).trans r4⟩ : _ ∧ _ ∧ Turn (fun k => k = qb) w4 w' ∧ Fr B _ w4 w'))
    have HNY := Lib.hid (fun W' a2 c2 a3 c3 (hW : Below w4.heap.size w4 W') (hs : SgsIn W' a3 o.sl) g (hg : W'.heap[g]? = some (.cells #[.int .i64 0, .slice none 0 0] 41 (0, 0))) (hgl : w4.heap.size ≤ g) => (HCR.out _ _ W' a2 c2 a3 c3 (bo_watch2 HX.out.1 hW hgl (Array.getElem?_eq_some_iff.1 hg).1) hs).mono fun e w' ⟨r1, ⟨r2, r3⟩, r4⟩ => (⟨r1, r2, (Turn.of_below (fun k => k = qb) hW (Nat.le_refl _)).trans r3, (Fr.below HX.out.1 hW).trans ⟨r4.1, fun k hk => r4.2 k (Or.inl hk)⟩, (r4.2 g (Or.inr rfl)).trans hg⟩ : _ ∧ _ ∧ Turn (fun k => k = qb) w4 w' ∧ Fr B _ w4 w' ∧ w'.heap[g]? = some (Obj.cells #[.int .i64 0, .slice none 0 0] 41 (0, 0))))
    have hKX : ∀ k, (((Xs mb ma m.segs ob k ∨ k = w1.heap.size) ∨ Rw a M'.segs k) ∨ k = ab) → k < w4.heap.size := fun k hk => (bo_far HX.out.1 hk).1
    have hKB : B ≤ w4.heap.size := HX.out.1.size
    have B0 : Below w4.heap.size w4 w4 := Below.refl _ _
    have B1 : Below w4.heap.size w4 (w4.alloc (.cells #[.int .i64 0, .slice none 0 0] 41)) := B0.alloc (Nat.le_refl _) _
    have G1 := heap_alloc_new w4 (.cells #[.int .i64 0, .slice none 0 0] 41)
    have K0 : Fr B (fun k => ((Xs mb ma m.segs ob k ∨ k = w1.heap.size) ∨ Rw a M'.segs k) ∨ k = ab) w4 w4 := Fr.refl
    have HKB := Lib.hid (fun W' (hW : Below w4.heap.size w4 W') => Fr.below HX.out.1 hW)
    have m0 : ∀ W', Fr B (fun k => ((Xs mb ma m.segs ob k ∨ k = w1.heap.size) ∨ Rw a M'.segs k) ∨ k = ab) w4 W' → W'.cell? ⟨w1.heap.size, 0, none⟩ = some (.int .i64 m.ver) := fun W' hW => by rw [cell_of_row W' _ 0 _ _ (0, 0) ((hW.2 _ (Or.inl (Or.inl (Or.inr rfl)))).trans hx5)]; rfl
    have m1 : ∀ W', Fr B (fun k => ((Xs mb ma m.segs ob k ∨ k = w1.heap.size) ∨ Rw a M'.segs k) ∨ k = ab) w4 W' → W'.cell? ⟨w1.heap.size, 1, none⟩ = some (.slice ma m.segs.length mc) := fun W' hW => by rw [cell_of_row W' _ 1 _ _ (0, 0) ((hW.2 _ (Or.inl (Or.inl (Or.inr rfl)))).trans hx5)]; rfl
    have m4 : ∀ W', Fr B (fun k => ((Xs mb ma m.segs ob k ∨ k = w1.heap.size) ∨ Rw a M'.segs k) ∨ k = ab) w4 W' → W'.cell? ⟨ob, 4, none⟩ = some (.slice o.sa o.sl.length o.sc) := fun W' hW => op_s ((hW.2 _ (Or.inl (Or.inl (Or.inl (Or.inr rfl))))).trans hob4)
    clear hob4 hx5 hBW hmr4 hfa hzz
    go_region_held3 (fun W' => Fr B (fun k => ((Xs mb ma m.segs ob k ∨ k = w1.heap.size) ∨ Rw a M'.segs k) ∨ k = ab) w4 W') (first | assumption | exact K0 | exact fr_drew K0 | exact fr_drew ‹_› | exact fr_al hKX hKB ‹_› _ | exact fr_drew (fr_al hKX hKB ‹_› _) | exact fr_al hKX hKB (fr_drew ‹_›) _ | exact fr_st hKX hKB ‹_› hg5 _ | exact fr_st hKX hKB (fr_st hKX hKB ‹_› hg5 _) hg5 _)
      (first
        | (go_at_call 12
           refine (HTO.out _ (by first | exact B0 | exact B0.drew)).mono ?_
           rintro er w8 ⟨a2, c2, rfl, hb8, hq8⟩
           have hK8 := HKB.out _ hb8)
        | (go_at_call 12
           refine (HTO.out _ (by first | exact B1 | exact B1.drew | exact B0.drew.alloc (Nat.le_refl _) _)).mono ?_
           rintro er w8 ⟨a2, c2, rfl, hb8, hq8⟩
           have G8 := (hq8.block w4.heap.size (Array.getElem?_eq_some_iff.1 G1).1).trans G1
           have hK8 := HKB.out _ hb8)
        | (go_at_call 15
           refine (HSG.out _ (by first | exact hb8 | exact hb8.drew)).mono ?_
           rintro er w9 ⟨a3, c3, rfl, s9, hb9, hq9⟩
           have G9 := (hq9.block w4.heap.size (Array.getElem?_eq_some_iff.1 G8).1).trans G8
           have hG9 : w4.heap.size ≤ w4.heap.size := Nat.le_refl _
           have hK9 := HKB.out _ hb9)
        | (go_at_call 15
           refine (HSG.out _ (by first | exact hb8 | exact hb8.drew)).mono ?_
           rintro er w9 ⟨a3, c3, rfl, s9, hb9, hq9⟩
           have hK9 := HKB.out _ hb9)
        | (go_at_call 15
           refine (HSG.out _ (by first | exact hb8.alloc hb8.size _ | exact (hb8.alloc hb8.size _).drew | exact hb8.drew.alloc hb8.size _)).mono ?_
           rintro er w9 ⟨a3, c3, rfl, s9, hb9, hq9⟩
           have G9 := (hq9.block w8.heap.size (Array.getElem?_eq_some_iff.1 (heap_alloc_new w8 (.cells #[.int .i64 0, .slice none 0 0] 41))).1).trans (heap_alloc_new w8 (.cells #[.int .i64 0, .slice none 0 0] 41))
           have hG9 := hb8.size
           have hK9 := HKB.out _ hb9)
        | (go_at_call 14
           refine (HNY.out _ _ _ _ _ (by first | exact hb9 | exact hb9.drew) (by first | exact s9 | exact s9.later (Below.drew (Below.refl _ _)) (Nat.le_refl _)) _ (by exact G9) hG9).mono ?_
           rintro er w5 ⟨⟨a', cap', rfl, s5⟩, hB5, t5, hf5, g5⟩
           obtain ⟨v0, v1, vf, _⟩ := set2_block g5 (.int .i64 M'.ver) (.slice a' M'.segs.length cap')
           have hg5 := hG9)
        | (go_at_call 14
           refine (HNX.out _ _ _ _ _ (by first | exact hb9 | exact hb9.drew) (by first | exact s9 | exact s9.later (Below.drew (Below.refl _ _)) (Nat.le_refl _))).mono ?_
           rintro er w5 ⟨⟨a', cap', rfl, s5⟩, hB5, t5, hf5⟩)
        | (go_at_call 14
           refine (HNY.out _ _ _ _ _ (by first | exact hb9.alloc hb9.size _ | exact (hb9.alloc hb9.size _).drew | exact hb9.drew.alloc hb9.size _) (by exact s9.later ((Below.refl w9.heap.size w9).alloc (Nat.le_refl _) _) (Nat.le_refl _)) _ (by exact heap_alloc_new w9 (.cells #[.int .i64 0, .slice none 0 0] 41)) hb9.size).mono ?_
           rintro er w5 ⟨⟨a', cap', rfl, s5⟩, hB5, t5, hf5, g5⟩
           obtain ⟨v0, v1, vf, _⟩ := set2_block g5 (.int .i64 M'.ver) (.slice a' M'.segs.length cap')
           have hg5 := hb9.size))
    all_goals
      first
        | have hT := (two_of2 (g := w4.heap.size) (X := fun k => Xs mb ma m.segs ob k ∨ k = w1.heap.size) (c' := cap') HX.out.1 HX.out.2.1 HX.out.2.2.1 HX.out.2.2.2 hB5 t5 hf5 s5 g5 (Nat.le_refl _)).sub (fun k hk => Or.inl hk) HFX.out
          generalize w4.heap.size = yb at *
          generalize (w5.setCell _ _).setCell _ _ = w6 at *
        | have hT := (two_of2 (g := w8.heap.size) (X := fun k => Xs mb ma m.segs ob k ∨ k = w1.heap.size) (c' := cap') HX.out.1 HX.out.2.1 HX.out.2.2.1 HX.out.2.2.2 hB5 t5 hf5 s5 g5 hb8.size).sub (fun k hk => Or.inl hk) HFX.out
          generalize w8.heap.size = yb at *
          generalize (w5.setCell _ _).setCell _ _ = w6 at *
        | have hT := (two_of2 (g := w9.heap.size) (X := fun k => Xs mb ma m.segs ob k ∨ k = w1.heap.size) (c' := cap') HX.out.1 HX.out.2.1 HX.out.2.2.1 HX.out.2.2.2 hB5 t5 hf5 s5 g5 hb9.size).sub (fun k hk => Or.inl hk) HFX.out
          generalize w9.heap.size = yb at *
          generalize (w5.setCell _ _).setCell _ _ = w6 at *
        | have hT := (two_of (X := fun k => Xs mb ma m.segs ob k ∨ k = w1.heap.size) (c' := cap') HX.out.1 HX.out.2.1 HX.out.2.2.1 HX.out.2.2.2 hB5 t5 hf5 s5).sub (fun k hk => Or.inl hk) HFX.out
          generalize w5.heap.size = yb at *
          generalize w5.alloc _ = w6 at *
      clear HX hB5 t5 hf5 s5 hb8 hb9 s9 hK8 hK9 m0 m1 m4 K0 B0 B1 G1
      clear HNX HNY HSG HTO HCR HKB hKX hKB
      go_wp2_with fail
      have HTW := Lib.hid hT
      have x0 := fun W (hW : Below w6.heap.size w6 W) => two_cells (hT.below hW).blk
      have x1 := fun W (hW : Below w6.heap.size w6 W) => two_cells (hT.below hW).rblk
      have m0 : ∀ W, Below w6.heap.size w6 W → W.cell? ⟨ab, 0, none⟩ = _ := fun W hW => (x0 W hW).1
      have m1 : ∀ W, Below w6.heap.size w6 W → W.cell? ⟨ab, 1, none⟩ = _ := fun W hW => (x0 W hW).2
      have m2 : ∀ W, Below w6.heap.size w6 W → W.cell? ⟨yb, 0, none⟩ = _ := fun W hW => (x1 W hW).1
      have m3 : ∀ W, Below w6.heap.size w6 W → W.cell? ⟨yb, 1, none⟩ = _ := fun W hW => (x1 W hW).2
      obtain ⟨ht, hs⟩ := two_same hT hmf.2
      have HTO := Lib.hid ht; have HSA := Lib.hid hs
      have K0 : Below w6.heap.size w6 w6 := Below.refl _ _
      clear ht hs x0 x1 hT
      go_region_held3 (fun W => Below w6.heap.size w6 W) (first | assumption | exact K0 | exact K0.drew | exact Below.drew ‹_›)
        (first
          | (go_at_call 12
             refine (HTO.out _ (by first | assumption | exact K0 | exact K0.drew | exact Below.drew ‹_›)).mono ?_
             rintro e w8 ⟨a2, c2, rfl, s8, hK8⟩)
          | (go_at_call 11
             refine (HSA.out _ _ _ (by first | exact s8 | exact s8.later (Below.drew (Below.refl _ _)) (Nat.le_refl _)) (by first | assumption | exact Below.drew ‹_›)).mono ?_
             rintro e w9 ⟨rfl, hK9⟩))
      all_goals
        have TW := Lib.hid (HTW.out.below hK9)
        have q0 := m0 _ hK9
        have q1 := m1 _ hK9
        obtain ⟨z0, z1, zf, _⟩ := set2_block ((TW.out.fr.2 mb (Or.inl (Or.inl rfl))).trans HST.out.pl.blk) (.int .i64 M'.ver) (.slice a M'.segs.length cap)
        clear m0 m1 m2 m3 K0 hK8 hK9 s8
        by_cases he : ev = 0
        · subst he
          go_wp2_with fail
          exact HQ.out _ _ _ _ _ _ _ _ _ _ _ _ _ _ _ _ _ _ _ _ _ _ _ _ _ _ _ _ _ _ _ _ _ _ _ _ _ _ _ _ _ _ _ _ _ _ _ _ _ _ _ _ _ _ _ _ _ _ _ _ _ _ _ _ _ _ _ _ _ _ _ _ _ _ _ _ _ _ _ _ _ _ _ _ _ _ _ _ _ _ _ _ _ _ _ _ _ _ _ _ _ _ _ _ _ _ _ _ _ _ _ _ _ _ _ _ _ _ _ _ _ _ _ _ _ _ _ _ _ _ _ _ _ _ _ _ _ _ _ _ _ _ _ _ _ _ _ _ _ _ _ _ _ _ _ _ _ _ _ _ _ _ _ _ _ _ _ _ _ _ _ _ _ _ _ _ _ _ _ _ _ _ _ _ _ _ _ _ _ _ _ _ _ _ _ _ _ _ _ _ _ (done_two_store HST.out TW.out hsm.1 hsm.2 hmf.1 hmf.2)
        · have he1 : (ev == 0) = false := by simpa using he
          go_wp2_with fail
          exact HQ.out _ _ _ _ _ _ _ _ _ _ _ _ _ _ _ _ _ _ _ _ _ _ _ _ _ _ _ _ _ _ _ _ _ _ _ _ _ _ _ _ _ _ _ _ _ _ _ _ _ _ _ _ _ _ _ _ _ _ _ _ _ _ _ _ _ _ _ _ _ _ _ _ _ _ _ _ _ _ _ _ _ _ _ _ _ _ _ _ _ _ _ _ _ _ _ _ _ _ _ _ _ _ _ _ _ _ _ _ _ _ _ _ _ _ _ _ _ _ _ _ _ _ _ _ _ _ _ _ _ _ _ _ _ _ _ _ _ _ _ _ _ _ _ _ _ _ _ _ _ _ _ _ _ _ _ _ _ _ _ _ _ _ _ _ _ _ _ _ _ _ _ _ _ _ _ _ _ _ _ _ _ _ _ _ _ _ _ _ _ _ _ _ _ _ _ _ _ _ _ _ _ (done_two_same HST.out TW.out hsm.1 hsm.2)

end Go.Proofs.YtkdidinekoaobaaGreatDoor.P
