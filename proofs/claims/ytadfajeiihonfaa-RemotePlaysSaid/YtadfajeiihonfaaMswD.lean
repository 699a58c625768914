/- RemotePlays: the switch, some of its ways. -/
import Derived.Test.YtadfajeiihonfaaMstep
namespace Go.Proofs.Ytadfajeiihonfaa
open Go.RowKit
set_option linter.unusedVariables false

set_option maxHeartbeats 4000000 in
set_option maxRecDepth 1000000 in
theorem sw_list {W : World} {B pb qb ob : Nat} {W0 W1 : World} {o : Opn} {S : Rs} {c0 c1 c2 c3 c6 c9 c10 c11 c12 c13 c14 c15 c16 c17 c18 c19 c20 c21 c22 c23 c24 c25 c26 c27 c28 c29 c30 c31 c32 c33 c34 c35 c36 c37 c38 c39 c40 c41 c42 c43 c44 c45 c46 c47 c48 c49 c51 c52 c53 c54 c55 c56 c57 c58 c59 c60 c61 c62 c63 c64 c65 c66 c67 c68 c69 c70 c71 c72 c73 c74 c75 c76 c77 c78 c79 c80 c81 c82 c83 c84 c85 c86 c87 c88 c89 c90 c91 c92 c93 c94 c95 c96 c97 c98 c99 c100 c101 c102 c103 c104 c105 c106 c107 c108 c109 c110 c111 c112 c113 c114 c115 c116 c117 c118 c119 c120 c121 c122 c123 c124 c125 c126 c127 c128 c129 c130 c131 c132 c133 c134 c135 c136 c137 c138 c139 c140 c141 c142 c143 c144 c145 c146 c147 c148 c149 c150 c151 c152 c153 c154 c155 c156 c157 c158 c159 c160 : Value} (h : Step W B pb qb ob W0 W1 o S) (hd : o.d = 5) {Q : Exit → Act → World → Prop}
    (hQ : ∀ (u9 u10 u11 u12 u13 u14 u15 u16 u17 u51 u52 u53 u54 u55 u56 u57 u58 u59 u60 u61 u62 u63 u64 u65 u66 u67 u68 u69 u70 u71 u72 u73 u74 u75 u76 u77 u78 u79 u80 u81 u82 u83 u84 u85 u86 u87 u88 u89 u90 u91 u92 u93 u94 u95 u96 u97 u98 u99 u100 u101 u102 u103 u104 u105 u106 u107 u108 u109 u110 u111 u112 u113 u114 u115 u116 u117 u118 u119 u120 u121 u122 u123 u124 u125 u126 u127 u128 u129 u130 u131 u132 u133 u134 u135 u136 u137 u138 u139 u140 u141 u142 u143 u144 u145 u146 u147 u148 : Value) (wc : World), Done B pb qb ob W0 o S wc → Q .normal ⟨#[c0, c1, c2, c3, .pointer (some ⟨pb, 0, none⟩), .pointer (some ⟨qb, 0, none⟩), c6, .pointer (some ⟨ob, 0, none⟩), .bool true, u9, u10, u11, u12, u13, u14, u15, u16, u17, c18, c19, c20, c21, c22, c23, c24, c25, c26, c27, c28, c29, c30, c31, c32, c33, c34, c35, c36, c37, c38, c39, c40, c41, c42, c43, c44, c45, c46, c47, c48, c49, .int .i64 o.d, u51, u52, u53, u54, u55, u56, u57, u58, u59, u60, u61, u62, u63, u64, u65, u66, u67, u68, u69, u70, u71, u72, u73, u74, u75, u76, u77, u78, u79, u80, u81, u82, u83, u84, u85, u86, u87, u88, u89, u90, u91, u92, u93, u94, u95, u96, u97, u98, u99, u100, u101, u102, u103, u104, u105, u106, u107, u108, u109, u110, u111, u112, u113, u114, u115, u116, u117, u118, u119, u120, u121, u122, u123, u124, u125, u126, u127, u128, u129, u130, u131, u132, u133, u134, u135, u136, u137, u138, u139, u140, u141, u142, u143, u144, u145, u146, u147, u148, c149, c150, c151, c152, c153, c154, c155, c156, c157, c158, c159, c160], []⟩ wc) : Code.wp Try.prog theSwitch Q ⟨#[c0, c1, c2, c3, .pointer (some ⟨pb, 0, none⟩), .pointer (some ⟨qb, 0, none⟩), c6, .pointer (some ⟨ob, 0, none⟩), .bool true, c9, c10, c11, c12, c13, c14, c15, c16, c17, c18, c19, c20, c21, c22, c23, c24, c25, c26, c27, c28, c29, c30, c31, c32, c33, c34, c35, c36, c37, c38, c39, c40, c41, c42, c43, c44, c45, c46, c47, c48, c49, .int .i64 o.d, c51, c52, c53, c54, c55, c56, c57, c58, c59, c60, c61, c62, c63, c64, c65, c66, c67, c68, c69, c70, c71, c72, c73, c74, c75, c76, c77, c78, c79, c80, c81, c82, c83, c84, c85, c86, c87, c88, c89, c90, c91, c92, c93, c94, c95, c96, c97, c98, c99, c100, c101, c102, c103, c104, c105, c106, c107, c108, c109, c110, c111, c112, c113, c114, c115, c116, c117, c118, c119, c120, c121, c122, c123, c124, c125, c126, c127, c128, c129, c130, c131, c132, c133, c134, c135, c136, c137, c138, c139, c140, c141, c142, c143, c144, c145, c146, c147, c148, c149, c150, c151, c152, c153, c154, c155, c156, c157, c158, c159, c160], []⟩ W1 := by
  have t0 : (o.d == 0) = false := by simp; omega
  have t1 : (o.d == 1) = false := by simp; omega
  have t2 : (o.d == 2) = false := by simp; omega
  have t3 : (o.d == 3) = false := by simp; omega
  have t4 : (o.d == 4) = false := by simp; omega
  have t5 : (o.d == 5) = true := by simp [hd]
  clear hd
  obtain ⟨hB1, hbk, hb0, hz01, hSL, hSN, hof, hvals, hold⟩ := h
  obtain ⟨f0, f1, f2, f3, f4⟩ := hof
  have hSN' : S.n < 1000000000000 := by omega
  have hS1 : Watch W0 W1 ob W1 := ⟨rfl, hb0⟩
  have hA : ∀ W, Watch W0 W1 ob W → W.heap[ob]? = some (.cells #[.int .i64 o.d, .string (bs o.nm), .string (bs o.b), .slice o.ka o.ks.length o.kc] 32 (0, 0)) := fun W hW => hW.1.trans hbk
  have hA1 : ∀ W, Watch W0 W1 ob W → W.cell? ⟨ob, 1, none⟩ = some (.string (bs o.nm)) := fun W hW => by rw [cell_of_row W _ 1 _ _ (0, 0) (hA W hW)]; rfl
  have hA2 : ∀ W, Watch W0 W1 ob W → W.cell? ⟨ob, 2, none⟩ = some (.string (bs o.b)) := fun W hW => by rw [cell_of_row W _ 2 _ _ (0, 0) (hA W hW)]; rfl
  have hA3 : ∀ W, Watch W0 W1 ob W → W.cell? ⟨ob, 3, none⟩ = some (.slice o.ka o.ks.length o.kc) := fun W hW => by rw [cell_of_row W _ 3 _ _ (0, 0) (hA W hW)]; rfl
  have y1 := hA1 W1 hS1
  have y3 := hA3 W1 hS1
  have BW := Lib.hid hbk
  have HB1 := hB1
  have HQ := Lib.hid hQ
  clear hA hbk hQ
  have hSl' : (used S).obs.length ≤ S.obs.length + 1 ∧ (used S).n ≤ S.n + 1 := ⟨Nat.le_succ _, Int.le_refl _⟩
  have hnl : (namesIf S).length < 1000000000 := by
    unfold namesIf
    split
    · simp
    · rw [List.length_map]; exact hSL
  have hcd := bo_list hB1 hSN'
  obtain ⟨ns, hns⟩ : ∃ ns, ns = namesIf S := ⟨_, rfl⟩
  have hcr : ∀ W, Bo B W pb qb (fun k => k = ob) (used S) S → _ := fun W h => bo_reflist h hSN' hSL
  obtain ⟨M, hM⟩ : ∃ M, M = ns.length := ⟨_, rfl⟩
  rw [← hns, ← hM] at hcd
  rw [← hns] at hnl
  have HNS := Lib.hid hns; have HM := Lib.hid hM
  clear hns hM
  conv => arg 2; whnf
  go_wp2_with fail
  refine hcd.mono ?_
  rintro e w3 ⟨⟨va, vc, rfl, hv1⟩, hB3, hf3⟩
  clear hcd
  have hS3 : Watch W0 W1 ob w3 := Watch.fr hS1 hf3 hz01
  have hcr' := hcr w3 hB3
  rw [← HNS.out, ← HM.out] at hcr'
  go_wp2_with fail
  refine hcr'.mono ?_
  rintro e w4 ⟨⟨vb, vd, rfl, hv2⟩, ⟨hB4, t4⟩, hf4⟩
  clear hcr hcr'
  have hS4 : Watch W0 W1 ob w4 := Watch.fr hS3 hf4 hz01
  have hq1 := hB1.qlt.2
  unfold Names at hv1 hv2
  rw [HM.out] at hv1 hv2
  have hv3 : w4.ownsRow W1.heap.size 9 1 (.slice va ns.length vc) ns.length (strs ns) := owns_kept hv1 (fun g hg => t4.block g (hv1.lt g hg).2 (fun e => by have := (hv1.lt g hg).1; omega))
  have hss := strings_same hv3 hv2 hnl
  clear hv1 hv3 hv2
  rw [← HM.out] at hss
  go_wp2_with fail
  refine hss.mono ?_
  rintro e w5 ⟨rfl, hb5⟩
  clear hss
  have hB5 := hB4.below hb5
  have hS5 : Watch W0 W1 ob w5 := Watch.fr hS4 (Fr.below hB4 hb5) hz01
  go_wp2_with fail
  exact HQ.out _ _ _ _ _ _ _ _ _ _ _ _ _ _ _ _ _ _ _ _ _ _ _ _ _ _ _ _ _ _ _ _ _ _ _ _ _ _ _ _ _ _ _ _ _ _ _ _ _ _ _ _ _ _ _ _ _ _ _ _ _ _ _ _ _ _ _ _ _ _ _ _ _ _ _ _ _ _ _ _ _ _ _ _ _ _ _ _ _ _ _ _ _ _ _ _ _ _ _ _ _ _ _ _ _ _ _ _ ⟨_, hB5, hSl', hS5.1.trans BW.out, hS5.2⟩

end Go.Proofs.Ytadfajeiihonfaa
