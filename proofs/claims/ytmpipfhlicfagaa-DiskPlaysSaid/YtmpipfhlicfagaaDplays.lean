/- The law DiskPlays, walked. -/
import Derived.Test.YtmpipfhlicfagaaDsw
import Derived.Test.YtmpipfhlicfagaaDsides
import Derived.Deep.CutBlock
namespace Go.Proofs.Ytmpipfhlicfagaa
open Go.RowKit
set_option linter.unusedVariables false

/-- Both disks tell the same, with at most so many files. -/
def Same (B pb qb i : Nat) (w : World) : Prop := ∃ S, Bo B w pb qb (fun _ => False) S S ∧ S.fs.length ≤ i

set_option maxHeartbeats 8000000 in
set_option maxRecDepth 100000 in
theorem plays_walk (room : Int) (l : List Opn) (a : Option Addr) (cap : Nat) (x0 x1 : Int) (w : World) (hr1 : -9223372036854775808 ≤ room) (hr2 : room ≤ 9223372036854775807) (hlm : l.length ≤ 9223372036854775807) (hops : OpsIn w a l) (hfit : ∀ o ∈ l, o.fit)
    (hx0 : -9223372036854775808 ≤ x0 ∧ x0 ≤ 9223372036854775807) (hx1 : -9223372036854775808 ≤ x1 ∧ x1 ≤ 9223372036854775807) :
    Calls Try.prog 3 #[.int .i64 room, .slice a l.length cap, .agg #[.int .i64 x0, .int .i64 x1]] w fun e w' => e = .returned (.bool true) ∧ Below w.heap.size w w' := by
  obtain ⟨n, hn⟩ : ∃ n, n = l.length := ⟨_, rfl⟩
  rw [← hn]
  rw [← hn] at hlm
  have HN := Lib.hid hn; have HO := Lib.hid hops; have HF := Lib.hid hfit
  clear hn hops hfit
  by_cases hno : room < 0 ∨ 1048576 < room
  · have hnew := fun W => new_no room W hno hr1 hr2
    have hrnew := fun W => refnew_no room W hno hr1 hr2
    clear hno
    go_enter Try.func3, Try.ntmps3
    go_wp2_with fail
    refine (awake_any _).mono ?_
    rintro e w1 ⟨rfl, b1⟩
    go_wp2_with fail
    refine (hnew w1).mono ?_
    rintro e w2 ⟨rfl, rfl⟩
    clear hnew
    go_wp2_with fail
    refine (hrnew w1).mono ?_
    rintro e w2 ⟨rfl, rfl⟩
    clear hrnew
    go_wp2_with fail
    have B1 : Hid (Below w.heap.size w w1) := Lib.hid (((Below.refl _ _).alloc (Nat.le_refl _) _).trans (b1.mono (by simp)))
    clear b1
    go_loopg [12] 0 (fun g it wr => it = .int .i64 0 ∧ w1 = wr)
    case atStart => exact ⟨rfl, rfl⟩
    case round =>
      obtain ⟨rfl, rfl⟩ := hrel
      by_cases hn0 : 0 < n
      all_goals
        go_wp2_with fail
        go_ret
        exact ⟨rfl, B1.out⟩
  · have h0 : 0 ≤ room := by omega
    have h1 : room ≤ 1048576 := by omega
    clear hno
    go_enter Try.func3, Try.ntmps3
    go_wp2_with fail
    have hw0 : Below w.heap.size w (w.alloc (.cells #[.int .i64 x0, .int .i64 x1] 23)) := (Below.refl _ _).alloc (Nat.le_refl _) _
    have hbk : (w.alloc (.cells #[.int .i64 x0, .int .i64 x1] 23)).heap[w.heap.size]? = some (.cells #[.int .i64 x0, .int .i64 x1] 23 (0, 0)) := heap_alloc_new w _
    generalize w.alloc _ = W0 at hw0 hbk ⊢
    refine (awake_any W0).mono ?_
    rintro e w1 ⟨rfl, b1⟩
    go_wp2_with fail
    refine (new_yes room w1 h0 h1).mono ?_
    rintro e w2 ⟨pb, F, rfl, h2, hF, b2⟩
    go_wp2_with fail
    refine (refnew_yes room w2 h0 h1).mono ?_
    rintro e w3 ⟨rfl, h3, b3⟩
    have hz01 := b1.size
    have hz12 := b2.size
    have D3 : Hid (Same w1.heap.size pb w2.heap.size 0 w3) := by
      refine Lib.hid ⟨_, ⟨F, _, h2.kept (Turn.of_below (fun _ => False) b3 (Nat.le_refl _)) (fun _ _ _ f => f), ⟨h3.blk, files_base h3.row hz12, ⟨hz12, h3.base.2.1, Nat.le_trans hz12 b3.size⟩, h3.good⟩, fun k hk => ⟨fun e => by have := (h2.lt hk).2; omega, fun e => by simp [Value.ownBlock] at e⟩, fun k hk => hk.elim⟩, Nat.le_refl _⟩
    have hz0 : w.heap.size < W0.heap.size := (Array.getElem?_eq_some_iff.1 hbk).1
    have B3 : Hid (Below W0.heap.size W0 w3) := Lib.hid (b1.trans ((b2.mono hz01).trans (b3.mono (Nat.le_trans hz01 hz12))))
    have HW0 := Lib.hid hw0; have HBK := Lib.hid hbk
    obtain ⟨qb, hqb⟩ : ∃ qb, qb = w2.heap.size := ⟨_, rfl⟩
    rw [← hqb] at D3 ⊢
    clear h2 h3 b2 b3 b1 hF hw0 hbk hqb hz12
    obtain ⟨m, hm⟩ : ∃ m, m = min n 80 := ⟨_, rfl⟩
    have hm80 : m ≤ 80 := by omega
    have hmn : m ≤ n := by omega
    have hmm : m = n ∨ m = 80 := by omega
    have HMM := Lib.hid hmm; clear hm hmm
    go_wp2_with fail
    go_loopg [12] m (fun g it wr => ∃ i : Nat, i + g = m ∧ it = .int .i64 i ∧ Same w1.heap.size pb qb i wr ∧ Below W0.heap.size W0 wr)
    case atStart => exact ⟨0, by omega, rfl, D3.out, B3.out⟩
    case round =>
      obtain ⟨i, hi, rfl, hd, hbw⟩ := hrel
      have hbw' : Below w.heap.size w wr := HW0.out.trans (hbw.mono (by omega))
      by_cases hlt : i < m
      · have hin : i < n := by omega
        have hi80 : i < 80 := by omega
        have hil : i < l.length := by rw [← HN.out]; exact hin
        obtain ⟨o, ho⟩ : ∃ o, l[i]? = some o := ⟨_, List.getElem?_eq_getElem hil⟩
        obtain ⟨⟨g0, o0, hg0, hgl, c0, c1, c2, c3, c4, c5⟩, hv⟩ := HO.out.at hbw' (Nat.le_refl _) i o ho
        subst hg0
        obtain ⟨f0, f1, f2, f3, f4, f5, f6⟩ := HF.out o (List.mem_of_getElem? ho)
        have HV := Lib.hid hv
        have HFIT : o.fit := HF.out o (List.mem_of_getElem? ho)
        clear ho hv
        have hb2 : (bs o.nm).size ≤ 9223372036854775807 := by rw [bs_size]; exact f2
        have hb3 : (bs o.to).size ≤ 9223372036854775807 := by rw [bs_size]; exact f3
        have hb4 : (bs o.b).size ≤ 9223372036854775807 := by rw [bs_size]; exact f4
        have hzr : w1.heap.size ≤ wr.heap.size := by obtain ⟨S, hd, _⟩ := hd; exact hd.size
        by_cases hbig : 60 < (bs o.nm).size ∨ 60 < (bs o.to).size ∨ 300 < (bs o.b).size
        · by_cases q1 : 60 < (bs o.nm).size
          · clear hbig
            go_wp2_with fail
            go_ret
            exact ⟨rfl, hbw'.alloc (by omega) _⟩
          · have q1' : (bs o.nm).size ≤ 60 := by omega
            by_cases q2 : 60 < (bs o.to).size
            · clear hbig q1
              go_wp2_with fail
              go_ret
              exact ⟨rfl, hbw'.alloc (by omega) _⟩
            · have q2' : (bs o.to).size ≤ 60 := by omega
              have q3 : 300 < (bs o.b).size := by omega
              clear hbig q1 q2
              go_wp2_with fail
              go_ret
              exact ⟨rfl, hbw'.alloc (by omega) _⟩
        · have q1 : (bs o.nm).size ≤ 60 := by omega
          have q2 : (bs o.to).size ≤ 60 := by omega
          have q3 : (bs o.b).size ≤ 300 := by omega
          clear hbig
          obtain ⟨S, hd, hSl⟩ := hd
          have hSL : S.fs.length < 1000000000 := by omega
          have hof : o.fit := HFIT
          have HV' : Vals w o.ka (o.ks.map (Value.int .i64)) := HV.out
          have hhd := hd
          clear hd
          go_upto_block 2 with fail
          clear c0 c1 c2 c3 c4 c5
          refine sw_any (W := w) (W0 := W0) (S := S) ⟨hhd.watch _, heap_alloc_new wr _, hbw.alloc (Nat.le_trans hz01 hzr) _, hz01, hSL, hof, HV', HW0.out⟩ ?_
          clear hhd HV' hof hbw' hzr
          intro u84 u85 u86 u87 u88 u89 u90 u91 u92 u93 u94 u95 u96 u97 u98 u99 u100 u101 u102 u103 u104 u105 u106 u107 u108 u109 u110 u111 u112 u113 u114 u115 u116 u117 u118 u119 u120 u121 u122 u123 u124 u125 u126 u127 u128 u129 u130 u131 u132 u133 u134 u135 u136 u137 u138 u139 u140 u141 u142 u143 u144 u145 u146 u147 u148 u149 u150 u151 u152 u153 u154 u155 u156 u157 u158 u159 u160 u161 u162 u163 u164 u165 u166 u167 u168 u169 u170 wc hdone
          obtain ⟨T, hB, hTl, hblk, hbc⟩ := hdone
          have hT : T.fs.length ≤ i + 1 := by omega
          have hTL : T.fs.length < 1000000000 := by omega
          clear hSl hSL hTl hbw S
          have HB := Lib.hid hB; have HBLK := Lib.hid hblk; have HBC := Lib.hid hbc
          have hls := bo_list hB hTL
          clear hB hblk hbc
          go_wp2_with fail
          refine hls.mono ?_
          rintro e wa ⟨v, rfl, hv, hba⟩
          clear hls
          obtain ⟨na, nc, hvf⟩ := owns_form hv
          obtain ⟨M, hM⟩ : ∃ M, M = (T.fs.map Fl.nm).length := ⟨_, rfl⟩
          rw [← hM] at hv hvf
          subst hvf
          have hrl := bo_reflist (HB.out.below hba) hTL
          rw [← hM] at hrl
          have HM := Lib.hid hM; clear hM
          go_wp2_with fail
          refine hrl.mono ?_
          rintro e wb ⟨v, rfl, hv2, hbb⟩
          clear hrl
          obtain ⟨nb, mc, hvf⟩ := owns_form hv2
          subst hvf
          have hv1 : wb.ownsRow wc.heap.size 9 1 (.slice na M nc) M (strs (T.fs.map Fl.nm)) := owns_kept hv (fun g hg => hbb.block g (hv.lt g hg).2)
          have hTM : M < 1000000000 := by rw [HM.out, List.length_map]; exact hTL
          have hss : Calls Try.prog 24 #[.slice na M nc, .slice nb M mc] wb fun e w' => e = .returned (.bool true) ∧ Below wb.heap.size wb w' := by
            have h1 := hv1
            have h2 := hv2
            have h3 := hTM
            rw [HM.out] at h1 h2 h3 ⊢
            exact strings_same h1 h2 h3
          go_wp2_with fail
          refine hss.mono ?_
          rintro e wd ⟨rfl, hbd⟩
          clear hss hv2 hv
          have hcd : Below wc.heap.size wc wd := (hba.trans (hbb.mono hba.size)).trans (hbd.mono (Nat.le_trans hba.size hbb.size))
          have HV1 : Hid (wd.ownsRow wc.heap.size 9 1 (.slice na M nc) M (strs (T.fs.map Fl.nm))) := Lib.hid (owns_kept hv1 (fun g hg => hbd.block g (hv1.lt g hg).2))
          clear hba hbb hbd hv1
          have obl : wr.heap.size < wc.heap.size := (Array.getElem?_eq_some_iff.1 HBLK.out).1
          have hA : ∀ W, Below wc.heap.size wc W → W.cell? ⟨wr.heap.size, 2, none⟩ = some (.string (bs o.nm)) ∧ W.cell? ⟨w.heap.size, 0, none⟩ = some (.int .i64 x0) ∧ W.cell? ⟨w.heap.size, 1, none⟩ = some (.int .i64 x1) := fun W hW => by
            have hw0 : W.heap[w.heap.size]? = some (.cells #[.int .i64 x0, .int .i64 x1] 23 (0, 0)) := by
              have := HBC.out.size
              rw [hW.block _ (by omega), HBC.out.block _ hz0, HBK.out]
            refine ⟨?_, ?_, ?_⟩
            · rw [cell_of_row W _ 2 _ _ (0, 0) ((hW.block _ obl).trans HBLK.out)]; rfl
            · rw [cell_of_row W _ 0 _ _ (0, 0) hw0]; rfl
            · rw [cell_of_row W _ 1 _ _ (0, 0) hw0]; rfl
          have hml : o.nm.length ≤ maxLen := by unfold maxLen; omega
          obtain ⟨y2, y3, y4⟩ := hA wd hcd
          have hrd := bo_read (n := o.nm) (HB.out.below hcd) hml hx0.1 hx0.2 hx1.1 hx1.2
          go_wp2_with fail
          refine hrd.mono ?_
          rintro e we ⟨rfl, hbe⟩
          clear hrd y2 y3 y4
          have hce : Below wc.heap.size wc we := hcd.trans (hbe.mono hcd.size)
          obtain ⟨y2, y3, y4⟩ := hA we hce
          have hrr := bo_refread (n := o.nm) (HB.out.below hce) hx0.1 hx0.2 hx1.1 hx1.2 hTL
          go_wp2_with fail
          refine hrr.mono ?_
          rintro e w' ⟨rfl, rfl⟩
          clear hrr y2 y3 y4 hA
          have hl1 := bo_left (HB.out.below hce)
          have hl2 := bo_refleft (HB.out.below hce) hTL
          go_wp2_with fail
          refine hl1.mono ?_
          rintro e w' ⟨rfl, rfl⟩
          clear hl1
          go_wp2_with fail
          refine hl2.mono ?_
          rintro e w' ⟨rfl, rfl⟩
          clear hl2
          have HV2 : Hid (we.ownsRow wc.heap.size 9 1 (.slice na M nc) M (strs (T.fs.map Fl.nm))) := Lib.hid (owns_kept HV1.out (fun g hg => hbe.block g (HV1.out.lt g hg).2))
          clear HV1 hcd hbe
          go_wp2_with fail
          have hsame : Same w1.heap.size pb qb (i + 1) wc := ⟨T, HB.out.drop, hT⟩
          have HSAME := Lib.hid hsame
          have HBE : Hid (Below W0.heap.size W0 we) := Lib.hid (HBC.out.trans (hce.mono HBC.out.size))
          have HCE := Lib.hid hce
          clear hsame hce hml
          go_loopg [21] M (fun g it wk => ∃ k : Nat, k + g = M ∧ it = .int .i64 k ∧ Below we.heap.size we wk)
          case atStart => exact ⟨0, by omega, rfl, Below.refl _ _⟩
          case round =>
            obtain ⟨k, hk, rfl, hck⟩ := hrel
            have HCK := Lib.hid hck
            clear hck
            by_cases hkM : k < M
            · have hkl : k < T.fs.length := by have := HM.out; rw [List.length_map] at this; omega
              obtain ⟨f, hf⟩ : ∃ f, T.fs[k]? = some f := ⟨_, List.getElem?_eq_getElem hkl⟩
              obtain ⟨ga, hga, hgl, da⟩ := name_at HV2.out hkM hf
              subst hga
              have hfn : f.nm.length ≤ maxLen := by have := (HB.out.good.1.names f (List.mem_of_getElem? hf)).2; unfold maxLen; omega
              have hall : allB T f.nm = f.bt := by unfold allB; rw [bo_finds HB.out hf]
              have HCK1 : Hid (Below wc.heap.size wc wr) := Lib.hid (HCE.out.trans (HCK.out.mono HCE.out.size))
              obtain ⟨qa, qc, qn, e1, e2, e3, e4, e5, e6⟩ := bo_file (HB.out.below HCK1.out) hf
              have y0 : wr.cell? ⟨ga, k, none⟩ = some (.string (bs f.nm)) := by rw [HCK.out.cell (p := ⟨ga, k, none⟩) hgl]; exact da
              have hgl' : ga < wr.heap.size := Nat.lt_of_lt_of_le hgl HCK.out.size
              have hsz := bo_sizeOf (n := f.nm) (HB.out.below HCK1.out) hfn
              have HALL := Lib.hid hall; have HE1 := Lib.hid e1; have HE6 := Lib.hid e6; have HY0 := Lib.hid y0
              clear hall da hf e1 e3 e6 hgl
              go_wp2_with fail
              refine hsz.mono ?_
              rintro e wl ⟨rfl, hbl⟩
              clear hsz y0
              have HBL := Lib.hid hbl
              have HCL : Hid (Below wc.heap.size wc wl) := Lib.hid (HCK1.out.trans (hbl.mono HCK1.out.size))
              have y0 : wl.cell? ⟨ga, k, none⟩ = some (.string (bs f.nm)) := by rw [hbl.cell (p := ⟨ga, k, none⟩) hgl']; exact HY0.out
              have hrs := bo_refsize (n := f.nm) (HB.out.below HCL.out) hTL
              clear hbl
              go_wp2_with fail
              refine hrs.mono ?_
              rintro e w' ⟨rfl, rfl⟩
              clear hrs y0
              have hF : ∀ W, Old wl W → W.cell? ⟨ga, k, none⟩ = some (.string (bs f.nm)) := fun W hW => by
                have hz := HBL.out.size
                rw [Below.cell (p := ⟨ga, k, none⟩) hW (by show ga < _; omega), HBL.out.cell (p := ⟨ga, k, none⟩) hgl']; exact HY0.out
              have hG : ∀ W, Old wl W → W.cell? ⟨qb, 1, none⟩ = some (.slice (some ⟨qa, 0, none⟩) qn qc) := fun W hW => by
                have hz := HBL.out.size
                rw [Below.cell (p := ⟨qb, 1, none⟩) hW (by show qb < _; omega), HBL.out.cell (p := ⟨qb, 1, none⟩) e4]; exact HE1.out
              have hH : ∀ W, Old wl W → W.cell? ⟨qa, k * 3 + 1, none⟩ = some (.string (bs f.bt)) := fun W hW => by
                have hz := HBL.out.size
                rw [Below.cell (p := ⟨qa, k * 3 + 1, none⟩) hW (by show qa < _; omega), HBL.out.cell (p := ⟨qa, k * 3 + 1, none⟩) e5]; exact HE6.out
              have HA : Hid (∀ W, Old wl W → Calls Try.prog 32 #[.pointer (some ⟨pb, 0, none⟩), .string (bs f.nm)] W fun e w' => e = .returned (.string (bs f.bt)) ∧ Old wl w') := Lib.hid (fun W hW => (bo_all (HB.out.below (HCL.out.trans (Below.mono hW HCL.out.size))) hfn).mono (fun e w' h => by
                obtain ⟨h1, h2⟩ := h
                rw [HALL.out] at h1
                exact ⟨h1, Old.below hW (h2.mono hW.size)⟩))
              have K0 : Old wl wl := Old.refl wl
              clear hgl' e4 e5
              go_wp2_with fail
              go_region_held3 (fun W => Old wl W) (first | assumption | exact K0 | exact K0.drew | exact Old.drew ‹_›)
                (first
                  | (go_at_call 32
                     refine (HA.out _ (by first | assumption | exact K0.drew | exact Old.drew ‹_›)).mono ?_
                     rintro e w3 ⟨rfl, hO3⟩))
              all_goals
                clear hF hG hH
                go_wp2_with fail
                go_roundg (gk - 1)
                case measure => omega
                case rel => exact ⟨k + 1, by omega, by go_num, HCK.out.trans ((HBL.out.trans (Below.mono hO3 HBL.out.size)).mono HCK.out.size)⟩
            · obtain rfl : k = M := by omega
              go_wp2_with fail
              go_roundg (m - (i + 1))
              case measure => omega
              case rel =>
                obtain ⟨T', hb', ht'⟩ := HSAME.out
                have hcw : Below wc.heap.size wc wr := HCE.out.trans (HCK.out.mono HCE.out.size)
                exact ⟨i + 1, by omega, by go_num, ⟨T', hb'.below hcw, ht'⟩, HBE.out.trans (HCK.out.mono HBE.out.size)⟩
      · obtain rfl : i = m := by omega
        by_cases hmn' : i < n
        · have h80 : i = 80 := by rcases HMM.out with e | e <;> omega
          have h80' : ¬ i < 80 := by omega
          clear hi hlt h80 hmn hm80
          go_wp2_with fail
          go_ret
          exact ⟨rfl, hbw'⟩
        · clear hi hlt hm80
          go_wp2_with fail
          go_ret
          exact ⟨rfl, hbw'⟩
theorem plays_of (room : Int) (l : List Opn) (a : Option Addr) (cap : Nat) (x0 x1 : Int) (w : World) (h0 : (Lit.int .i64 room).wf = true) (h1 : l.length ≤ 9223372036854775807) (h2 : OpsIn w a l) (h3 : ∀ o ∈ l, o.fit) (h4 : (Lit.int .i64 x0).wf = true) (h5 : (Lit.int .i64 x1).wf = true) :
    Calls Try.prog 3 #[.int .i64 room, .slice a l.length cap, .agg #[.int .i64 x0, .int .i64 x1]] w fun e w' => e = .returned (.bool true) ∧ Below w.heap.size w w' :=
  plays_walk room l a cap x0 x1 w (wf_i64 h0).1 (wf_i64 h0).2 h1 h2 h3 (wf_i64 h4) (wf_i64 h5)
end Go.Proofs.Ytmpipfhlicfagaa
