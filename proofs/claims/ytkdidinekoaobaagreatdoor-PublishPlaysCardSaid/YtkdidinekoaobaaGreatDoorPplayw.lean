/- The law PublishPlays, walked. -/
import Derived.Test.YtkdidinekoaobaaGreatDoorPsw
import Derived.Deep.CutBlock
namespace Go.Proofs.YtkdidinekoaobaaGreatDoor.P
open Go.RowKit M J
set_option linter.unusedVariables false

/-- Both remotes tell the same, and the last manifest lies in its block. -/
def Same (B pb qb mb i : Nat) (w : World) : Prop := ∃ S m ma mc, Pl B pb qb mb i w S m ma mc

/-- Two new ones. -/
theorem same_new {B pb : Nat} {F : Nat → Prop} {w : World} (h : RkS B w pb F newS) : Same B pb w.heap.size (w.heap.size + 1) 0 ((w.alloc (.cells #[.slice none 0 0, .slice none 0 0, .int .i64 0] 30)).alloc (.cells #[.int .i64 0, .slice none 0 0] 33)) := by
  have hB := h.size
  have hb : Below w.heap.size w (w.alloc (.cells #[.slice none 0 0, .slice none 0 0, .int .i64 0] 30)) := (Below.refl _ w).alloc (Nat.le_refl _) _
  have h0 : Bo B (w.alloc (.cells #[.slice none 0 0, .slice none 0 0, .int .i64 0] 30)) pb w.heap.size (fun _ => False) newS newS := by
    refine ⟨F, .slice none 0 0, .slice none 0 0, h.below hb, ⟨heap_alloc_new w _, World.ownsRow_nil _ _ _ _, ⟨none, 0, rfl, Nat.le_refl _, by unfold maxLen; omega, fun _ => rfl, fun A hA => (by cases hA)⟩, ⟨hB, (by simp [Value.ownBlock]), by simp; omega⟩, ok_new⟩, fun k hk hf => ?_, fun k hk => hk.elim⟩
    rcases hf with rfl | e | ⟨_, _, _, e⟩
    · have := (h.lt hk).2; omega
    · simp [Value.ownBlock] at e
    · cases e
  have h1 := bo_new h0 (.cells #[.int .i64 0, .slice none 0 0] 33)
  have hz : (w.alloc (.cells #[.slice none 0 0, .slice none 0 0, .int .i64 0] 30)).heap.size = w.heap.size + 1 := by simp
  rw [hz] at h1
  refine ⟨newS, noMf, none, 0, bo_sub h1 (fun k hk => ?_), ⟨fun o ho => by simp [newS] at ho, by simp [newS]⟩, by simp [newS], heap_alloc2_new w _ _, SgsIn.nil _ _, fit_no, by simp [noMf]⟩
  rcases hk with e | ⟨hne, _⟩
  · exact Or.inr e
  · exact absurd rfl hne

set_option maxHeartbeats 8000000 in
set_option maxRecDepth 100000 in
theorem plays_of (l : List Opq) (a : Option Addr) (cap : Nat) (w : World) (hV : Vt w) (hlm : l.length ≤ 9223372036854775807) (hops : OpqsIn w a l) (hfit : ∀ o ∈ l, o.fit) :
    Calls Tryz.prog 3 #[.slice a l.length cap] w fun e w' => e = .returned (.bool true) ∧ Below w.heap.size w w' := by
  obtain ⟨n, hn⟩ : ∃ n, n = l.length := ⟨_, rfl⟩
  rw [← hn]
  rw [← hn] at hlm
  have HAW := Lib.hid (awake_any pubC w hV); have HV := Lib.hid hV
  have HN := Lib.hid hn; have HO := Lib.hid hops; have HF := Lib.hid hfit
  clear hn hops hfit hV
  go_enter Tryz.func3, Tryz.ntmps3
  go_wp2_with fail
  refine HAW.out.mono ?_
  rintro e w1 ⟨rfl, b1⟩
  go_wp2_with fail
  refine (new_any w1).mono ?_
  rintro e w2 ⟨pb, F, rfl, h2, hF, b2⟩
  have D3 := Lib.hid (same_new h2)
  have hz01 := b1.size
  have hz12 := b2.size
  have b3 : Below w2.heap.size w2 ((w2.alloc (.cells #[.slice none 0 0, .slice none 0 0, .int .i64 0] 30)).alloc (.cells #[.int .i64 0, .slice none 0 0] 33)) := ((Below.refl _ w2).alloc (Nat.le_refl _) _).alloc (by simp) _
  have B3 := Lib.hid (b1.trans ((b2.mono hz01).trans (b3.mono (Nat.le_trans hz01 hz12))))
  have B1 := Lib.hid b1
  have hqB : w1.heap.size ≤ w2.heap.size := hz12
  clear h2 hF b1 b2 b3 hz12
  obtain ⟨m, hm⟩ : ∃ m, m = min n 60 := ⟨_, rfl⟩
  have hm60 : m ≤ 60 := by omega
  have hmn : m ≤ n := by omega
  have hmm : m = n ∨ m = 60 := by omega
  have HMM := Lib.hid hmm; clear hm hmm
  go_wp2_with fail
  obtain ⟨qb, hqb⟩ : ∃ qb, qb = w2.heap.size := ⟨_, rfl⟩
  have D4 := D3.out
  rw [← hqb] at D4 ⊢ hqB
  obtain ⟨mb, hmb⟩ : ∃ mb, mb = qb + 1 := ⟨_, rfl⟩
  have hmB : w.heap.size ≤ mb := by omega
  rw [← hmb] at D4 ⊢
  have D5 := Lib.hid D4
  clear D3 D4 hqb hmb hqB
  go_loopg [7] m (fun g it wr => ∃ i : Nat, i + g = m ∧ it = .int .i64 i ∧ Same w1.heap.size pb qb mb i wr ∧ Below w.heap.size w wr)
  case atStart => exact ⟨0, by omega, rfl, D5.out, B3.out⟩
  case round =>
    obtain ⟨i, hi, rfl, hd, hbw⟩ := hrel
    by_cases hlt : i < m
    · have hin : i < n := by omega
      have hi60 : i < 60 := by omega
      have hil : i < l.length := by rw [← HN.out]; exact hin
      obtain ⟨o, ho⟩ : ∃ o, l[i]? = some o := ⟨_, List.getElem?_eq_getElem hil⟩
      obtain ⟨⟨g0, o0, hg0, hgl, c0, c1, c2, c3, c4, c5⟩, hsgs, hv⟩ := HO.out.at hbw (Nat.le_refl _) i o ho
      subst hg0
      have HSG := Lib.hid hsgs
      have HVL := Lib.hid hv
      have hof : o.fit := HF.out o (List.mem_of_getElem? ho)
      have HFIT := Lib.hid hof
      have f1 := hof.nm
      have f2 := hof.b
      have f3 := hof.sl
      clear ho hv hsgs hof
      have hb1 : (bs o.nm).size ≤ 9223372036854775807 := by rw [bs_size]; exact f1
      have hb2 : (bs o.b).size ≤ 9223372036854775807 := by rw [bs_size]; exact f2
      have hws := hbw.size
      by_cases q0 : 30 < o.sl.length
      · go_wp2_with fail
        go_ret
        exact ⟨rfl, hbw.alloc hws _⟩
      by_cases q1 : 300 < (bs o.b).size
      · go_wp2_with fail
        go_ret
        exact ⟨rfl, hbw.alloc hws _⟩
      by_cases q2 : 100 < (bs o.nm).size
      · go_wp2_with fail
        go_ret
        exact ⟨rfl, hbw.alloc hws _⟩
      have q0' : o.sl.length ≤ 30 := by omega
      have q1' : o.b.length ≤ 300 := by rw [bs_size] at q1; omega
      have q2' : o.nm.length ≤ 100 := by rw [bs_size] at q2; omega
      obtain ⟨S, mf, ma, mc, hd⟩ := hd
      have HST : Hid (Stp w w1.heap.size pb qb mb wr.heap.size i (wr.alloc (.cells (opC o) 35)) o S mf ma mc) := Lib.hid
        ⟨hd.below ((Below.refl _ wr).alloc (Nat.le_refl _) _), bo_new hd.bo _, heap_alloc_new wr _, HV.out, hbw.alloc hws _, hz01, hmB, hi60, HFIT.out, HSG.out, HVL.out, q0', q1', q2'⟩
      clear hd
      go_upto_block 2 with fail
      clear c0 c1 c2 c3 c4 c5
      refine sw_any HST.out ?_
      intro u10 u11 u12 u13 u14 u15 u16 u17 u18 u19 u20 u21 u22 u23 u24 u25 u26 u27 u28 u69 u70 u71 u72 u73 u74 u75 u76 u77 u78 u79 u80 u81 u82 u83 u84 u85 u86 u87 u88 u89 u90 u91 u92 u93 u94 u95 u96 u97 u98 u99 u100 u101 u102 u103 u104 u105 u106 u107 u108 u109 u110 u111 u112 u113 u114 u115 u116 u117 u118 u119 u120 u121 u122 u123 u124 u125 u126 u127 u128 u129 u130 u131 u132 u133 u134 u135 u136 u137 u138 u139 u140 u141 u142 u143 u144 u145 u146 u147 u148 u149 u150 u151 u152 u153 u154 u155 u156 u157 u158 u159 u160 u161 u162 u163 u164 u165 u166 u167 u168 u169 u170 u171 u172 u173 u174 u175 u176 u177 u178 u179 u180 u181 u182 u183 u184 u185 u186 u187 u188 u189 u190 u191 u192 u193 u194 u195 u196 u197 u198 u199 u200 u201 u202 u203 u204 u205 u206 u207 u208 u209 u210 u211 u212 u213 u214 u215 u216 u217 u218 u219 u220 u221 u222 u223 u224 u225 u226 u227 u228 u229 u230 u231 u232 u233 u234 u235 u236 u237 u238 u239 u240 u241 u242 u243 u244 u245 u246 u247 u248 u249 wc hdone
      obtain ⟨T, m', ma', mc', hP, hbc⟩ := hdone
      clear hbw
      have hB := hP.bo
      have hqz := hB.qlt.2
      have K0 : Elder wc wc := Elder.refl _
      have hN : ∀ W, Elder wc W → W.cell? ⟨qb, 2, none⟩ = some (.int .i64 T.n) := fun W hW => by rw [Below.cell (p := ⟨qb, 2, none⟩) hW hqz]; exact bo_n hB
      have HC : Hid (∀ W, Elder wc W → _) := Lib.hid (fun W (hW : Elder wc W) => bo_calls (hB.below hW))
      have HB := Lib.hid hP; have HBC := Lib.hid hbc
      clear hB hbc hP q0 q1 q2 q0' q1' q2' hb1 hb2 f1 f2 f3
      go_wp2_with fail
      go_region_held3 (fun W => Elder wc W) (first | assumption | exact K0 | exact K0.drew | exact Elder.drew ‹_›)
        (first
          | (go_at_call 25
             refine (HC.out _ (by first | assumption | exact K0.drew | exact Elder.drew ‹_›)).mono ?_
             rintro e w3 ⟨rfl, rfl⟩))
      all_goals
        clear hN
        go_wp2_with fail
        go_roundg (gk - 1)
        case measure => omega
        case rel => exact ⟨i + 1, by omega, by go_num, ⟨T, m', ma', mc', HB.out.below (Below.drew (Below.refl _ _))⟩, HBC.out.trans (Below.mono (Below.drew (Below.refl _ _)) HBC.out.size)⟩
    · obtain rfl : i = m := by omega
      by_cases hmn' : i < n
      · have h60 : i = 60 := by rcases HMM.out with e | e <;> omega
        have h60' : ¬ i < 60 := by omega
        clear hi hlt h60 hmn hm60
        go_wp2_with fail
        go_ret
        exact ⟨rfl, hbw⟩
      · clear hi hlt hm60
        go_wp2_with fail
        go_ret
        exact ⟨rfl, hbw⟩
end Go.Proofs.YtkdidinekoaobaaGreatDoor.P
