/- The law RemotePlays, walked. -/
import Derived.Test.YtadfajeiihonfaaMsw
import Derived.Deep.CutBlock
namespace Go.Proofs.Ytadfajeiihonfaa
open Go.RowKit
set_option linter.unusedVariables false

/-- Both remotes tell the same, with at most so many objects and calls. -/
def Same (B pb qb i : Nat) (w : World) : Prop := ∃ S, Bo B w pb qb (fun _ => False) S S ∧ S.obs.length ≤ i ∧ S.n ≤ i

/-- Two new ones. -/
theorem same_new {B pb : Nat} {F : Nat → Prop} {w : World} (h : RkS B w pb F newS) : Same B pb w.heap.size 0 (w.alloc (.cells #[.slice none 0 0, .slice none 0 0, .int .i64 0] 30)) := by
  have hB := h.size
  have hb : Below w.heap.size w (w.alloc (.cells #[.slice none 0 0, .slice none 0 0, .int .i64 0] 30)) := (Below.refl _ w).alloc (Nat.le_refl _) _
  refine ⟨newS, ⟨F, .slice none 0 0, .slice none 0 0, h.below hb, ⟨heap_alloc_new w _, World.ownsRow_nil _ _ _ _, ⟨none, 0, rfl, Nat.le_refl _, by unfold maxLen; omega, fun _ => rfl, fun A hA => (by cases hA)⟩, ⟨hB, (by simp [Value.ownBlock]), by simp; omega⟩, ok_new⟩, fun k hk hf => ?_, fun k hk => hk.elim⟩, Nat.le_refl _, Int.le_refl _⟩
  rcases hf with rfl | e | ⟨_, _, _, e⟩
  · have := (h.lt hk).2; omega
  · simp [Value.ownBlock] at e
  · cases e

set_option maxHeartbeats 8000000 in
set_option maxRecDepth 100000 in
theorem plays_walk (l : List Opn) (a : Option Addr) (cap : Nat) (w : World) (hlm : l.length ≤ 9223372036854775807) (hops : OpsIn w a l) (hfit : ∀ o ∈ l, o.fit) :
    Calls Try.prog 3 #[.slice a l.length cap] w fun e w' => e = .returned (.bool true) ∧ Below w.heap.size w w' := by
  obtain ⟨n, hn⟩ : ∃ n, n = l.length := ⟨_, rfl⟩
  rw [← hn]
  rw [← hn] at hlm
  have HN := Lib.hid hn; have HO := Lib.hid hops; have HF := Lib.hid hfit
  clear hn hops hfit
  go_enter Try.func3, Try.ntmps3
  go_wp2_with fail
  refine (awake_any w).mono ?_
  rintro e w1 ⟨rfl, b1⟩
  go_wp2_with fail
  refine (new_any w1).mono ?_
  rintro e w2 ⟨pb, F, rfl, h2, hF, b2⟩
  have D3 := Lib.hid (same_new h2)
  have hz01 := b1.size
  have hz12 := b2.size
  have b3 : Below w2.heap.size w2 (w2.alloc (.cells #[.slice none 0 0, .slice none 0 0, .int .i64 0] 30)) := (Below.refl _ w2).alloc (Nat.le_refl _) _
  have B3 := Lib.hid (b1.trans ((b2.mono hz01).trans (b3.mono (Nat.le_trans hz01 hz12))))
  have B1 := Lib.hid b1
  clear h2 hF b1 b2 b3 hz12
  obtain ⟨m, hm⟩ : ∃ m, m = min n 120 := ⟨_, rfl⟩
  have hm80 : m ≤ 120 := by omega
  have hmn : m ≤ n := by omega
  have hmm : m = n ∨ m = 120 := by omega
  have HMM := Lib.hid hmm; clear hm hmm
  go_wp2_with fail
  obtain ⟨qb, hqb⟩ : ∃ qb, qb = w2.heap.size := ⟨_, rfl⟩
  have D4 := D3.out
  rw [← hqb] at D4 ⊢
  have D5 := Lib.hid D4
  clear D3 D4 hqb
  go_loopg [6] m (fun g it wr => ∃ i : Nat, i + g = m ∧ it = .int .i64 i ∧ Same w1.heap.size pb qb i wr ∧ Below w.heap.size w wr)
  case atStart => exact ⟨0, by omega, rfl, D5.out, B3.out⟩
  case round =>
    obtain ⟨i, hi, rfl, hd, hbw⟩ := hrel
    by_cases hlt : i < m
    · have hin : i < n := by omega
      have hi80 : i < 120 := by omega
      have hil : i < l.length := by rw [← HN.out]; exact hin
      obtain ⟨o, ho⟩ : ∃ o, l[i]? = some o := ⟨_, List.getElem?_eq_getElem hil⟩
      obtain ⟨⟨g0, o0, hg0, hgl, c0, c1, c2, c3⟩, hv⟩ := HO.out.at hbw (Nat.le_refl _) i o ho
      subst hg0
      obtain ⟨f0, f1, f2, f3, f4⟩ := HF.out o (List.mem_of_getElem? ho)
      have HV := Lib.hid hv
      have HFIT : o.fit := HF.out o (List.mem_of_getElem? ho)
      clear ho hv
      have hb1 : (bs o.nm).size ≤ 9223372036854775807 := by rw [bs_size]; exact f1
      have hb2 : (bs o.b).size ≤ 9223372036854775807 := by rw [bs_size]; exact f2
      have hzr : w1.heap.size ≤ wr.heap.size := by obtain ⟨S, hd, _⟩ := hd; exact hd.size
      by_cases q1 : 100 < (bs o.nm).size
      · go_wp2_with fail
        go_ret
        exact ⟨rfl, hbw.alloc hbw.size _⟩
      · have q1' : (bs o.nm).size ≤ 100 := by omega
        by_cases q2 : 500 < (bs o.b).size
        · clear q1
          go_wp2_with fail
          go_ret
          exact ⟨rfl, hbw.alloc hbw.size _⟩
        · have q2' : (bs o.b).size ≤ 500 := by omega
          clear q1 q2
          obtain ⟨S, hd, hSl, hSn⟩ := hd
          have hSL : S.obs.length < 1000000000 := by omega
          have hSN : S.n < 1000000000 := by omega
          have HV' : Vals w o.ka (o.ks.map (Value.int .i64)) := HV.out
          have hhd := hd
          have hws := hbw.size
          clear hd
          go_upto_block 2 with fail
          clear c0 c1 c2 c3
          refine sw_any (W := w) (W0 := w) (S := S) ⟨hhd.watch _, heap_alloc_new wr _, hbw.alloc hws _, hz01, hSL, hSN, HFIT, HV', Below.refl _ _⟩ ?_
          clear hhd HV' hzr
          intro u9 u10 u11 u12 u13 u14 u15 u16 u17 u51 u52 u53 u54 u55 u56 u57 u58 u59 u60 u61 u62 u63 u64 u65 u66 u67 u68 u69 u70 u71 u72 u73 u74 u75 u76 u77 u78 u79 u80 u81 u82 u83 u84 u85 u86 u87 u88 u89 u90 u91 u92 u93 u94 u95 u96 u97 u98 u99 u100 u101 u102 u103 u104 u105 u106 u107 u108 u109 u110 u111 u112 u113 u114 u115 u116 u117 u118 u119 u120 u121 u122 u123 u124 u125 u126 u127 u128 u129 u130 u131 u132 u133 u134 u135 u136 u137 u138 u139 u140 u141 u142 u143 u144 u145 u146 u147 u148 wc hdone
          obtain ⟨T, hB, ⟨hTl, hTn⟩, hblk, hbc⟩ := hdone
          have hT : T.obs.length ≤ i + 1 ∧ T.n ≤ ((i + 1 : Nat) : Int) := by omega
          clear hSl hSn hSL hSN hTl hTn hbw S
          have hqz := hB.qlt.2
          have K0 : Elder wc wc := Elder.refl _
          have hN : ∀ W, Elder wc W → W.cell? ⟨qb, 2, none⟩ = some (.int .i64 T.n) := fun W hW => by rw [Below.cell (p := ⟨qb, 2, none⟩) hW hqz]; exact bo_n hB
          have HC : Hid (∀ W, Elder wc W → _) := Lib.hid (fun W (hW : Elder wc W) => bo_calls (hB.below hW))
          have HB := Lib.hid hB; have HBC := Lib.hid hbc
          clear hB hbc hblk
          go_wp2_with fail
          go_region_held3 (fun W => Elder wc W) (first | assumption | exact K0 | exact K0.drew | exact Elder.drew ‹_›)
            (first
              | (go_at_call 20
                 refine (HC.out _ (by first | assumption | exact K0.drew | exact Elder.drew ‹_›)).mono ?_
                 rintro e w3 ⟨rfl, rfl⟩))
          all_goals
            clear hN
            go_wp2_with fail
            go_roundg (gk - 1)
            case measure => omega
            case rel => exact ⟨i + 1, by omega, by go_num, ⟨T, (HB.out.drop).below (Below.drew (Below.refl _ _)), hT⟩, HBC.out.trans (Below.mono (Below.drew (Below.refl _ _)) HBC.out.size)⟩
    · obtain rfl : i = m := by omega
      by_cases hmn' : i < n
      · have h80 : i = 120 := by rcases HMM.out with e | e <;> omega
        have h80' : ¬ i < 120 := by omega
        clear hi hlt h80 hmn hm80
        go_wp2_with fail
        go_ret
        exact ⟨rfl, hbw⟩
      · clear hi hlt hm80
        go_wp2_with fail
        go_ret
        exact ⟨rfl, hbw⟩
end Go.Proofs.Ytadfajeiihonfaa
