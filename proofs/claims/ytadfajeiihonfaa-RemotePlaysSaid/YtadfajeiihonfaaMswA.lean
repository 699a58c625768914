/- RemotePlays: the switch, some of its ways. -/
import Derived.Test.YtadfajeiihonfaaMstep
namespace Go.Proofs.Ytadfajeiihonfaa
open Go.RowKit
set_option linter.unusedVariables false

set_option maxHeartbeats 4000000 in
set_option maxRecDepth 1000000 in
theorem sw_put0 {W : World} {B pb qb ob : Nat} {W0 W1 : World} {o : Opn} {S : Rs} {c0 c1 c2 c3 c6 c9 c10 c11 c12 c13 c14 c15 c16 c17 c18 c19 c20 c21 c22 c23 c24 c25 c26 c27 c28 c29 c30 c31 c32 c33 c34 c35 c36 c37 c38 c39 c40 c41 c42 c43 c44 c45 c46 c47 c48 c49 c51 c52 c53 c54 c55 c56 c57 c58 c59 c60 c61 c62 c63 c64 c65 c66 c67 c68 c69 c70 c71 c72 c73 c74 c75 c76 c77 c78 c79 c80 c81 c82 c83 c84 c85 c86 c87 c88 c89 c90 c91 c92 c93 c94 c95 c96 c97 c98 c99 c100 c101 c102 c103 c104 c105 c106 c107 c108 c109 c110 c111 c112 c113 c114 c115 c116 c117 c118 c119 c120 c121 c122 c123 c124 c125 c126 c127 c128 c129 c130 c131 c132 c133 c134 c135 c136 c137 c138 c139 c140 c141 c142 c143 c144 c145 c146 c147 c148 c149 c150 c151 c152 c153 c154 c155 c156 c157 c158 c159 c160 : Value} (h : Step W B pb qb ob W0 W1 o S) (hd : o.d = 0) {Q : Exit → Act → World → Prop}
    (hQ : ∀ (u9 u10 u11 u12 u13 u14 u15 u16 u17 u51 u52 u53 u54 u55 u56 u57 u58 u59 u60 u61 u62 u63 u64 u65 u66 u67 u68 u69 u70 u71 u72 u73 u74 u75 u76 u77 u78 u79 u80 u81 u82 u83 u84 u85 u86 u87 u88 u89 u90 u91 u92 u93 u94 u95 u96 u97 u98 u99 u100 u101 u102 u103 u104 u105 u106 u107 u108 u109 u110 u111 u112 u113 u114 u115 u116 u117 u118 u119 u120 u121 u122 u123 u124 u125 u126 u127 u128 u129 u130 u131 u132 u133 u134 u135 u136 u137 u138 u139 u140 u141 u142 u143 u144 u145 u146 u147 u148 : Value) (wc : World), Done B pb qb ob W0 o S wc → Q .normal ⟨#[c0, c1, c2, c3, .pointer (some ⟨pb, 0, none⟩), .pointer (some ⟨qb, 0, none⟩), c6, .pointer (some ⟨ob, 0, none⟩), .bool true, u9, u10, u11, u12, u13, u14, u15, u16, u17, c18, c19, c20, c21, c22, c23, c24, c25, c26, c27, c28, c29, c30, c31, c32, c33, c34, c35, c36, c37, c38, c39, c40, c41, c42, c43, c44, c45, c46, c47, c48, c49, .int .i64 o.d, u51, u52, u53, u54, u55, u56, u57, u58, u59, u60, u61, u62, u63, u64, u65, u66, u67, u68, u69, u70, u71, u72, u73, u74, u75, u76, u77, u78, u79, u80, u81, u82, u83, u84, u85, u86, u87, u88, u89, u90, u91, u92, u93, u94, u95, u96, u97, u98, u99, u100, u101, u102, u103, u104, u105, u106, u107, u108, u109, u110, u111, u112, u113, u114, u115, u116, u117, u118, u119, u120, u121, u122, u123, u124, u125, u126, u127, u128, u129, u130, u131, u132, u133, u134, u135, u136, u137, u138, u139, u140, u141, u142, u143, u144, u145, u146, u147, u148, c149, c150, c151, c152, c153, c154, c155, c156, c157, c158, c159, c160], []⟩ wc) : Code.wp Try.prog theSwitch Q ⟨#[c0, c1, c2, c3, .pointer (some ⟨pb, 0, none⟩), .pointer (some ⟨qb, 0, none⟩), c6, .pointer (some ⟨ob, 0, none⟩), .bool true, c9, c10, c11, c12, c13, c14, c15, c16, c17, c18, c19, c20, c21, c22, c23, c24, c25, c26, c27, c28, c29, c30, c31, c32, c33, c34, c35, c36, c37, c38, c39, c40, c41, c42, c43, c44, c45, c46, c47, c48, c49, .int .i64 o.d, c51, c52, c53, c54, c55, c56, c57, c58, c59, c60, c61, c62, c63, c64, c65, c66, c67, c68, c69, c70, c71, c72, c73, c74, c75, c76, c77, c78, c79, c80, c81, c82, c83, c84, c85, c86, c87, c88, c89, c90, c91, c92, c93, c94, c95, c96, c97, c98, c99, c100, c101, c102, c103, c104, c105, c106, c107, c108, c109, c110, c111, c112, c113, c114, c115, c116, c117, c118, c119, c120, c121, c122, c123, c124, c125, c126, c127, c128, c129, c130, c131, c132, c133, c134, c135, c136, c137, c138, c139, c140, c141, c142, c143, c144, c145, c146, c147, c148, c149, c150, c151, c152, c153, c154, c155, c156, c157, c158, c159, c160], []⟩ W1 := by
  have t0 : (o.d == 0) = true := by simp [hd]
  clear hd
  obtain ⟨hB1, hbk, hb0, hz01, hSL, hSN, hof, hvals, hold⟩ := h
  obtain ⟨f0, f1, f2, f3, f4⟩ := hof
  have hSN' : S.n < 1000000000000 := by omega
  have hS1 : Watch W0 W1 ob W1 := ⟨rfl, hb0⟩
  have hA : ∀ W, Watch W0 W1 ob W → W.heap[ob]? = some (.cells #[.int .i64 o.d, .string (bs o.nm), .string (bs o.b), .slice o.ka o.ks.length o.kc] 32 (0, 0)) := fun W hW => hW.1.trans hbk
  have hA1 : ∀ W, Watch W0 W1 ob W → W.cell? ⟨ob, 1, none⟩ = some (.string (bs o.nm)) := fun W hW => by rw [cell_of_row W _ 1 _ _ (0, 0) (hA W hW)]; rfl
  have hA2 : ∀ W, Watch W0 W1 ob W → W.cell? ⟨ob, 2, none⟩ = some (.string (bs o.b)) := fun W hW => by rw [cell_of_row W _ 2 _ _ (0, 0) (hA W hW)]; rfl
  have hA3 : ∀ W, Watch W0 W1 ob W → W.cell? ⟨ob, 3, none⟩ = some (.slice o.ka o.ks.length o.kc) := fun W hW => by rw [cell_of_row W _ 3 _ _ (0, 0) (hA W hW)]; rfl
  have y1 := hA1 W1 hS1
  have y3 := hA3 W1 hS1
  have BW := Lib.hid hbk
  have HB1 := hB1
  have HQ := Lib.hid hQ
  clear hA hbk hQ
  have hSl' := And.intro (len_takes S _ (len_lays S.obs o.nm o.b)) (Int.le_of_eq (n_takes S (lays S.obs o.nm o.b)))
  have HD : Hid (∀ Sr W, Bo B W pb qb (fun k => k = ob) S Sr → _) := Lib.hid (fun Sr W (h : Bo B W pb qb (fun k => k = ob) S Sr) => bo_put (n := o.nm) (b := o.b) h f1 hSN' hSL)
  have HR : Hid (∀ Sd W, Bo B W pb qb (fun k => k = ob) Sd S → _) := Lib.hid (fun Sd W (h : Bo B W pb qb (fun k => k = ob) Sd S) => bo_refput (n := o.nm) (b := o.b) h f1 hSN' hSL)
  clear y1 y3 hA3
  conv => arg 2; whnf
  go_wp2_with fail
  go_region_held3 (fun W => Watch W0 W1 ob W) (first | assumption | exact hS1 | exact hS1.drew | exact Watch.drew ‹_›)
    (first
      | (go_at_call 8
         refine (HD.out _ _ (by first | exact hB4 | exact hB4.drew | exact hB1 | exact hB1.drew)).mono ?_
         rintro e w3 ⟨rfl, hB3, hf3⟩
         have hS3 : Watch W0 W1 ob w3 := Watch.fr (by assumption) hf3 hz01)
      | (go_at_call 9
         refine (HR.out _ _ (by first | exact hB3 | exact hB3.drew | exact hB1 | exact hB1.drew)).mono ?_
         rintro e w4 ⟨rfl, ⟨hB4, _⟩, hf4⟩
         have hS4 : Watch W0 W1 ob w4 := Watch.fr (by assumption) hf4 hz01))
  all_goals
    go_wp2_with fail
    first
      | exact HQ.out _ _ _ _ _ _ _ _ _ _ _ _ _ _ _ _ _ _ _ _ _ _ _ _ _ _ _ _ _ _ _ _ _ _ _ _ _ _ _ _ _ _ _ _ _ _ _ _ _ _ _ _ _ _ _ _ _ _ _ _ _ _ _ _ _ _ _ _ _ _ _ _ _ _ _ _ _ _ _ _ _ _ _ _ _ _ _ _ _ _ _ _ _ _ _ _ _ _ _ _ _ _ _ _ _ _ _ _ ⟨_, hB4, hSl', hS4.1.trans BW.out, hS4.2⟩
      | exact HQ.out _ _ _ _ _ _ _ _ _ _ _ _ _ _ _ _ _ _ _ _ _ _ _ _ _ _ _ _ _ _ _ _ _ _ _ _ _ _ _ _ _ _ _ _ _ _ _ _ _ _ _ _ _ _ _ _ _ _ _ _ _ _ _ _ _ _ _ _ _ _ _ _ _ _ _ _ _ _ _ _ _ _ _ _ _ _ _ _ _ _ _ _ _ _ _ _ _ _ _ _ _ _ _ _ _ _ _ _ ⟨_, hB3, hSl', hS3.1.trans BW.out, hS3.2⟩

set_option maxHeartbeats 4000000 in
set_option maxRecDepth 1000000 in
theorem sw_put1 {W : World} {B pb qb ob : Nat} {W0 W1 : World} {o : Opn} {S : Rs} {c0 c1 c2 c3 c6 c9 c10 c11 c12 c13 c14 c15 c16 c17 c18 c19 c20 c21 c22 c23 c24 c25 c26 c27 c28 c29 c30 c31 c32 c33 c34 c35 c36 c37 c38 c39 c40 c41 c42 c43 c44 c45 c46 c47 c48 c49 c51 c52 c53 c54 c55 c56 c57 c58 c59 c60 c61 c62 c63 c64 c65 c66 c67 c68 c69 c70 c71 c72 c73 c74 c75 c76 c77 c78 c79 c80 c81 c82 c83 c84 c85 c86 c87 c88 c89 c90 c91 c92 c93 c94 c95 c96 c97 c98 c99 c100 c101 c102 c103 c104 c105 c106 c107 c108 c109 c110 c111 c112 c113 c114 c115 c116 c117 c118 c119 c120 c121 c122 c123 c124 c125 c126 c127 c128 c129 c130 c131 c132 c133 c134 c135 c136 c137 c138 c139 c140 c141 c142 c143 c144 c145 c146 c147 c148 c149 c150 c151 c152 c153 c154 c155 c156 c157 c158 c159 c160 : Value} (h : Step W B pb qb ob W0 W1 o S) (hd : o.d = 1) {Q : Exit → Act → World → Prop}
    (hQ : ∀ (u9 u10 u11 u12 u13 u14 u15 u16 u17 u51 u52 u53 u54 u55 u56 u57 u58 u59 u60 u61 u62 u63 u64 u65 u66 u67 u68 u69 u70 u71 u72 u73 u74 u75 u76 u77 u78 u79 u80 u81 u82 u83 u84 u85 u86 u87 u88 u89 u90 u91 u92 u93 u94 u95 u96 u97 u98 u99 u100 u101 u102 u103 u104 u105 u106 u107 u108 u109 u110 u111 u112 u113 u114 u115 u116 u117 u118 u119 u120 u121 u122 u123 u124 u125 u126 u127 u128 u129 u130 u131 u132 u133 u134 u135 u136 u137 u138 u139 u140 u141 u142 u143 u144 u145 u146 u147 u148 : Value) (wc : World), Done B pb qb ob W0 o S wc → Q .normal ⟨#[c0, c1, c2, c3, .pointer (some ⟨pb, 0, none⟩), .pointer (some ⟨qb, 0, none⟩), c6, .pointer (some ⟨ob, 0, none⟩), .bool true, u9, u10, u11, u12, u13, u14, u15, u16, u17, c18, c19, c20, c21, c22, c23, c24, c25, c26, c27, c28, c29, c30, c31, c32, c33, c34, c35, c36, c37, c38, c39, c40, c41, c42, c43, c44, c45, c46, c47, c48, c49, .int .i64 o.d, u51, u52, u53, u54, u55, u56, u57, u58, u59, u60, u61, u62, u63, u64, u65, u66, u67, u68, u69, u70, u71, u72, u73, u74, u75, u76, u77, u78, u79, u80, u81, u82, u83, u84, u85, u86, u87, u88, u89, u90, u91, u92, u93, u94, u95, u96, u97, u98, u99, u100, u101, u102, u103, u104, u105, u106, u107, u108, u109, u110, u111, u112, u113, u114, u115, u116, u117, u118, u119, u120, u121, u122, u123, u124, u125, u126, u127, u128, u129, u130, u131, u132, u133, u134, u135, u136, u137, u138, u139, u140, u141, u142, u143, u144, u145, u146, u147, u148, c149, c150, c151, c152, c153, c154, c155, c156, c157, c158, c159, c160], []⟩ wc) : Code.wp Try.prog theSwitch Q ⟨#[c0, c1, c2, c3, .pointer (some ⟨pb, 0, none⟩), .pointer (some ⟨qb, 0, none⟩), c6, .pointer (some ⟨ob, 0, none⟩), .bool true, c9, c10, c11, c12, c13, c14, c15, c16, c17, c18, c19, c20, c21, c22, c23, c24, c25, c26, c27, c28, c29, c30, c31, c32, c33, c34, c35, c36, c37, c38, c39, c40, c41, c42, c43, c44, c45, c46, c47, c48, c49, .int .i64 o.d, c51, c52, c53, c54, c55, c56, c57, c58, c59, c60, c61, c62, c63, c64, c65, c66, c67, c68, c69, c70, c71, c72, c73, c74, c75, c76, c77, c78, c79, c80, c81, c82, c83, c84, c85, c86, c87, c88, c89, c90, c91, c92, c93, c94, c95, c96, c97, c98, c99, c100, c101, c102, c103, c104, c105, c106, c107, c108, c109, c110, c111, c112, c113, c114, c115, c116, c117, c118, c119, c120, c121, c122, c123, c124, c125, c126, c127, c128, c129, c130, c131, c132, c133, c134, c135, c136, c137, c138, c139, c140, c141, c142, c143, c144, c145, c146, c147, c148, c149, c150, c151, c152, c153, c154, c155, c156, c157, c158, c159, c160], []⟩ W1 := by
  have t0 : (o.d == 0) = false := by simp; omega
  have t1 : (o.d == 1) = true := by simp [hd]
  clear hd
  obtain ⟨hB1, hbk, hb0, hz01, hSL, hSN, hof, hvals, hold⟩ := h
  obtain ⟨f0, f1, f2, f3, f4⟩ := hof
  have hSN' : S.n < 1000000000000 := by omega
  have hS1 : Watch W0 W1 ob W1 := ⟨rfl, hb0⟩
  have hA : ∀ W, Watch W0 W1 ob W → W.heap[ob]? = some (.cells #[.int .i64 o.d, .string (bs o.nm), .string (bs o.b), .slice o.ka o.ks.length o.kc] 32 (0, 0)) := fun W hW => hW.1.trans hbk
  have hA1 : ∀ W, Watch W0 W1 ob W → W.cell? ⟨ob, 1, none⟩ = some (.string (bs o.nm)) := fun W hW => by rw [cell_of_row W _ 1 _ _ (0, 0) (hA W hW)]; rfl
  have hA2 : ∀ W, Watch W0 W1 ob W → W.cell? ⟨ob, 2, none⟩ = some (.string (bs o.b)) := fun W hW => by rw [cell_of_row W _ 2 _ _ (0, 0) (hA W hW)]; rfl
  have hA3 : ∀ W, Watch W0 W1 ob W → W.cell? ⟨ob, 3, none⟩ = some (.slice o.ka o.ks.length o.kc) := fun W hW => by rw [cell_of_row W _ 3 _ _ (0, 0) (hA W hW)]; rfl
  have y1 := hA1 W1 hS1
  have y3 := hA3 W1 hS1
  have BW := Lib.hid hbk
  have HB1 := hB1
  have HQ := Lib.hid hQ
  clear hA hbk hQ
  have hSl' := And.intro (len_takes S _ (len_lays S.obs o.nm o.b)) (Int.le_of_eq (n_takes S (lays S.obs o.nm o.b)))
  have HD : Hid (∀ Sr W, Bo B W pb qb (fun k => k = ob) S Sr → _) := Lib.hid (fun Sr W (h : Bo B W pb qb (fun k => k = ob) S Sr) => bo_put (n := o.nm) (b := o.b) h f1 hSN' hSL)
  have HR : Hid (∀ Sd W, Bo B W pb qb (fun k => k = ob) Sd S → _) := Lib.hid (fun Sd W (h : Bo B W pb qb (fun k => k = ob) Sd S) => bo_refput (n := o.nm) (b := o.b) h f1 hSN' hSL)
  clear y1 y3 hA3
  conv => arg 2; whnf
  go_wp2_with fail
  go_region_held3 (fun W => Watch W0 W1 ob W) (first | assumption | exact hS1 | exact hS1.drew | exact Watch.drew ‹_›)
    (first
      | (go_at_call 8
         refine (HD.out _ _ (by first | exact hB4 | exact hB4.drew | exact hB1 | exact hB1.drew)).mono ?_
         rintro e w3 ⟨rfl, hB3, hf3⟩
         have hS3 : Watch W0 W1 ob w3 := Watch.fr (by assumption) hf3 hz01)
      | (go_at_call 9
         refine (HR.out _ _ (by first | exact hB3 | exact hB3.drew | exact hB1 | exact hB1.drew)).mono ?_
         rintro e w4 ⟨rfl, ⟨hB4, _⟩, hf4⟩
         have hS4 : Watch W0 W1 ob w4 := Watch.fr (by assumption) hf4 hz01))
  all_goals
    go_wp2_with fail
    first
      | exact HQ.out _ _ _ _ _ _ _ _ _ _ _ _ _ _ _ _ _ _ _ _ _ _ _ _ _ _ _ _ _ _ _ _ _ _ _ _ _ _ _ _ _ _ _ _ _ _ _ _ _ _ _ _ _ _ _ _ _ _ _ _ _ _ _ _ _ _ _ _ _ _ _ _ _ _ _ _ _ _ _ _ _ _ _ _ _ _ _ _ _ _ _ _ _ _ _ _ _ _ _ _ _ _ _ _ _ _ _ _ ⟨_, hB4, hSl', hS4.1.trans BW.out, hS4.2⟩
      | exact HQ.out _ _ _ _ _ _ _ _ _ _ _ _ _ _ _ _ _ _ _ _ _ _ _ _ _ _ _ _ _ _ _ _ _ _ _ _ _ _ _ _ _ _ _ _ _ _ _ _ _ _ _ _ _ _ _ _ _ _ _ _ _ _ _ _ _ _ _ _ _ _ _ _ _ _ _ _ _ _ _ _ _ _ _ _ _ _ _ _ _ _ _ _ _ _ _ _ _ _ _ _ _ _ _ _ _ _ _ _ ⟨_, hB3, hSl', hS3.1.trans BW.out, hS3.2⟩

end Go.Proofs.Ytadfajeiihonfaa
