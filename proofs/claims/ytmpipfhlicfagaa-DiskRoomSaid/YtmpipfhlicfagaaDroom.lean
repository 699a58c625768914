/- The law DiskRoom, walked. -/
import Derived.Test.YtmpipfhlicfagaaDops
import Derived.Deep.DeepCutAuto
namespace Go.Proofs.Ytmpipfhlicfagaa
open Go.RowKit Go.Maps
set_option linter.unusedVariables false

/-- A disk of this room, with at most so many files. -/
def Roomy (B : Nat) (pb : Nat) (room : Int) (i : Nat) (w : World) : Prop := ∃ S, DkB B w pb S ∧ S.room = room ∧ S.fs.length ≤ i

set_option maxHeartbeats 4000000 in
set_option maxRecDepth 100000 in
theorem room_walk (room : Int) (l : List Opn) (a : Option Addr) (cap : Nat) (w : World) (hr1 : -9223372036854775808 ≤ room) (hr2 : room ≤ 9223372036854775807) (hlm : l.length ≤ 9223372036854775807) (hops : OpsIn w a l) (hfit : ∀ o ∈ l, o.fit) :
    Calls Try.prog 5 #[.int .i64 room, .slice a l.length cap] w fun e w' => e = .returned (.bool true) ∧ Below w.heap.size w w' := by
  obtain ⟨n, hn⟩ : ∃ n, n = l.length := ⟨_, rfl⟩
  rw [← hn]
  rw [← hn] at hlm
  have HN := Lib.hid hn; have HO := Lib.hid hops; have HF := Lib.hid hfit
  clear hn hops hfit
  by_cases hno : room < 0 ∨ 1048576 < room
  · have hnew := fun W => new_no room W hno hr1 hr2
    clear hno
    go_enter Try.func5, Try.ntmps5
    go_wp2_with fail
    refine (awake_any w).mono ?_
    rintro e w1 ⟨rfl, b1⟩
    go_wp2_with fail
    refine (hnew w1).mono ?_
    rintro e w2 ⟨rfl, rfl⟩
    clear hnew
    go_wp2_with fail
    go_ret
    exact ⟨rfl, b1⟩
  · have h0 : 0 ≤ room := by omega
    have h1 : room ≤ 1048576 := by omega
    clear hno
    by_cases hbig : 60 < n
    · go_enter Try.func5, Try.ntmps5
      go_wp2_with fail
      refine (awake_any w).mono ?_
      rintro e w1 ⟨rfl, b1⟩
      go_wp2_with fail
      refine (new_yes room w1 h0 h1).mono ?_
      rintro e w2 ⟨pb, F, rfl, h2, hF, b2⟩
      go_wp2_with fail
      go_ret
      exact ⟨rfl, b1.trans (b2.mono b1.size)⟩
    · have h60 : n ≤ 60 := by omega
      have dT1 : decide ((60 : Int) < (n : Int)) = false := by simp; omega
      clear hbig
      go_enter Try.func5, Try.ntmps5
      go_wp2_with fail
      refine (awake_any w).mono ?_
      rintro e w1 ⟨rfl, b1⟩
      go_wp2_with fail
      refine (new_yes room w1 h0 h1).mono ?_
      rintro e w2 ⟨pb, F, rfl, h2, hF, b2⟩
      have B2 := Lib.hid (b1.trans (b2.mono b1.size))
      have D2 : Hid (Roomy w1.heap.size pb room 0 w2) := Lib.hid ⟨_, ⟨F, h2⟩, rfl, Nat.le_refl _⟩
      have hz1 := b1.size
      clear b2 h2 hF
      go_wp2_with fail
      go_loopg [8] n (fun g it wr => ∃ i : Nat, i + g = n ∧ it = .int .i64 i ∧ Roomy w1.heap.size pb room i wr ∧ Below w.heap.size w wr)
      case atStart => exact ⟨0, by omega, rfl, D2.out, B2.out⟩
      case round =>
        obtain ⟨i, hi, rfl, hd, hbw⟩ := hrel
        by_cases hlt : i < n
        · have hil : i < l.length := by rw [← HN.out]; exact hlt
          obtain ⟨o, ho⟩ : ∃ o, l[i]? = some o := ⟨_, List.getElem?_eq_getElem hil⟩
          obtain ⟨⟨g0, o0, hg0, hgl, c0, c1, c2, c3, c4, c5⟩, hv⟩ := HO.out.at hbw (Nat.le_refl _) i o ho
          subst hg0
          obtain ⟨f0, f1, f2, f3, f4, f5, f6⟩ := HF.out o (List.mem_of_getElem? ho)
          clear hv ho
          have hb4 : (bs o.b).size ≤ 9223372036854775807 := by rw [bs_size]; exact f4
          by_cases h300 : 300 < (bs o.b).size
          · go_wp2_with fail
            go_ret
            exact ⟨rfl, hbw.alloc (Nat.le_trans hz1 (by obtain ⟨S, hd, _⟩ := hd; exact hd.size)) _⟩
          · have h300' : (bs o.b).size ≤ 300 := by omega
            clear h300
            obtain ⟨S, ⟨F1, hd1⟩, hSr, hSl⟩ := hd
            have hSL : S.fs.length < 1000000000 := by omega
            go_wp2_with fail
            have hL := left_any (hd1.kept ((Turn.refl (fun _ => False) wr).alloc (.cells #[.int .i64 o.d, .int .i64 o.n, .string (bs o.nm), .string (bs o.to), .string (bs o.b), .slice o.ka o.ks.length o.kc] 34)) (fun _ _ _ f => f))
            refine hL.mono ?_
            rintro e w3 ⟨rfl, rfl⟩
            go_upto_if 56 with fail
            have hd2 := hd1.kept ((Turn.refl (fun _ => False) wr).alloc (.cells #[.int .i64 o.d, .int .i64 o.n, .string (bs o.nm), .string (bs o.to), .string (bs o.b), .slice o.ka o.ks.length o.kc] 34)) (fun _ _ _ f => f)
            have hzr : w1.heap.size ≤ wr.heap.size := DkB.size ⟨F1, hd1⟩
            have hbw2 := hbw.alloc (Nat.le_trans hz1 hzr) (.cells #[.int .i64 o.d, .int .i64 o.n, .string (bs o.nm), .string (bs o.to), .string (bs o.b), .slice o.ka o.ks.length o.kc] 34)
            generalize hW : wr.alloc _ = W1 at hd2 hbw2 ⊢
            have bw : W1.heap[wr.heap.size]? = some (.cells #[.int .i64 o.d, .int .i64 o.n, .string (bs o.nm), .string (bs o.to), .string (bs o.b), .slice o.ka o.ks.length o.kc] 34 (0, 0)) := by
              rw [← hW]; exact heap_alloc_new wr _
            have x0 : W1.cell? ⟨wr.heap.size, 0, none⟩ = some (.int .i64 o.d) := by rw [cell_of_row W1 _ 0 _ _ (0, 0) bw]; rfl
            have x1 : W1.cell? ⟨wr.heap.size, 1, none⟩ = some (.int .i64 o.n) := by rw [cell_of_row W1 _ 1 _ _ (0, 0) bw]; rfl
            have x2 : W1.cell? ⟨wr.heap.size, 2, none⟩ = some (.string (bs o.nm)) := by rw [cell_of_row W1 _ 2 _ _ (0, 0) bw]; rfl
            have x3 : W1.cell? ⟨wr.heap.size, 3, none⟩ = some (.string (bs o.to)) := by rw [cell_of_row W1 _ 3 _ _ (0, 0) bw]; rfl
            have x4 : W1.cell? ⟨wr.heap.size, 4, none⟩ = some (.string (bs o.b)) := by rw [cell_of_row W1 _ 4 _ _ (0, 0) bw]; rfl
            have hnF : ¬ F1 wr.heap.size := fun hf => by have := (hd1.lt hf).2; omega
            have hW1s : wr.heap.size < W1.heap.size := (Array.getElem?_eq_some_iff.1 bw).1
            clear hW hbw c0 c1 c2 c3 c4 c5 hd1
            have BW := Lib.hid bw; clear bw
            go_cut [10] (fun s wc => s = .int .i64 (left S) ∧ Roomy w1.heap.size pb room (i + 1) wc ∧ Below w.heap.size w wc)
            case first =>
              have hml : ∀ x : List UInt8, x.length ≤ 9223372036854775807 → x.length ≤ maxLen := fun x hx => by unfold maxLen; omega
              have hSR := Lib.hid hSr; clear hSr
              by_cases e4 : o.d = 4
              · have t4 : (o.d == 4) = true := by simp [e4]
                have hca := (rename_any (n := o.nm) (m := o.to) hd2 (hml _ f2) (hml _ f3) hSL).mono (fun e w' h => DkPost.b hd2 h)
                clear e4
                go_wp2_with fail
                refine hca.mono ?_
                rintro e w4 ⟨rfl, hd4, b4⟩
                go_wp2_with fail
                go_meet
                obtain ⟨q1, q2⟩ := rn_room S o.nm o.to
                exact ⟨rfl, ⟨_, hd4, q1.trans hSR.out, by omega⟩, hbw2.trans (b4.mono hz1)⟩
              · have t4 : (o.d == 4) = false := by simp [e4]
                by_cases e5 : o.d = 5
                · have t5 : (o.d == 5) = true := by simp [e5]
                  have hca := (remove_any (n := o.nm) hd2 (hml _ f2) hSL).mono (fun e w' h => DkPost.b hd2 h)
                  clear e4 e5
                  go_wp2_with fail
                  refine hca.mono ?_
                  rintro e w4 ⟨rfl, hd4, b4⟩
                  go_wp2_with fail
                  go_meet
                  obtain ⟨q1, q2⟩ := rm_room S o.nm
                  exact ⟨rfl, ⟨_, hd4, q1.trans hSR.out, by omega⟩, hbw2.trans (b4.mono hz1)⟩
                · have t5 : (o.d == 5) = false := by simp [e5]
                  by_cases e6 : o.d = 6
                  · have t6 : (o.d == 6) = true := by simp [e6]
                    have hca := (cut_any (n := o.nm) (m := o.n) hd2 (hml _ f2) f1.1 f1.2 hSL).mono (fun e w' h => DkPost.b hd2 h)
                    clear e4 e5 e6
                    go_wp2_with fail
                    refine hca.mono ?_
                    rintro e w4 ⟨rfl, hd4, b4⟩
                    go_wp2_with fail
                    go_meet
                    obtain ⟨q1, q2⟩ := ct_room S o.nm o.n
                    exact ⟨rfl, ⟨_, hd4, q1.trans hSR.out, by omega⟩, hbw2.trans (b4.mono hz1)⟩
                  · have t6 : (o.d == 6) = false := by simp [e6]
                    have hca := append_any (n := o.nm) (b := o.b) hd2 (hml _ f2) (hml _ f4) hSL
                    clear e4 e5 e6
                    obtain ⟨E, hE⟩ : ∃ E, E = apE S o.nm o.b := ⟨_, rfl⟩
                    rw [← hE] at hca
                    obtain ⟨q1, q2⟩ := ap_room S o.nm o.b
                    have Q1 := Lib.hid q1; clear q1
                    have hLi := (DkB.good ⟨F1, hd2⟩).fits
                    by_cases h6 : E = 6
                    · have hful := ap_full S o.nm o.b (by rw [← hE]; exact h6)
                      have hful' : left S < ((bs o.b).size : Int) := by rw [bs_size]; exact hful
                      have HE := Lib.hid hE; clear hE hful
                      have t7 : (E == 6) = true := by simp [h6]
                      clear h6
                      go_wp2_with fail
                      refine hca.mono ?_
                      intro e w4 hp
                      have x4' : w4.cell? ⟨wr.heap.size, 4, none⟩ = some (.string (bs o.b)) := by
                        obtain ⟨_, F4, _, _, t4'⟩ := hp
                        rw [World.cell?_of_block (w := W1) (t4'.block wr.heap.size hW1s hnF)]; exact x4
                      obtain ⟨rfl, hd4, b4⟩ := DkPost.b hd2 hp
                      go_wp2_with fail
                      go_meet
                      exact ⟨rfl, ⟨_, hd4, Q1.out.trans hSR.out, by omega⟩, hbw2.trans (b4.mono hz1)⟩
                    · have t7 : (E == 6) = false := by simp [h6]
                      have HE := Lib.hid hE; clear hE h6
                      go_wp2_with fail
                      refine hca.mono ?_
                      intro e w4 hp
                      obtain ⟨rfl, hd4, b4⟩ := DkPost.b hd2 hp
                      go_wp2_with fail
                      go_meet
                      exact ⟨rfl, ⟨_, hd4, Q1.out.trans hSR.out, by omega⟩, hbw2.trans (b4.mono hz1)⟩
            case rest =>
              clear x0 x1 x2 x3 x4 BW hnF hW1s hd2 hbw2 hSr hSl hSL hzr hb4 h300' f0 f1 f2 f3 f4 f5 f6
              obtain ⟨rfl, ⟨S2, ⟨F2, hd3⟩, hS2r, hS2l⟩, hbc⟩ := hcut
              obtain ⟨g', rfl⟩ : ∃ g', gk = g' + 1 := ⟨gk - 1, by omega⟩
              have hgood := hd3.good
              have hsum := hgood.fits
              have hup := hgood.up
              have hroom := hgood.room
              have hlS : left S2 = room - total S2.fs := by unfold left; rw [hS2r]
              rw [hS2r] at hsum
              have hzc : w1.heap.size ≤ wc.heap.size := DkB.size ⟨F2, hd3⟩
              have HS2 := Lib.hid hS2r; have HLS := Lib.hid hlS; have HUP := Lib.hid hup; clear hS2r hlS hup hgood
              have hli := left_any hd3
              have hls := list_any hd3 (by omega)
              go_wp2_with fail
              refine hli.mono ?_
              rintro e w4 ⟨rfl, rfl⟩
              clear hli
              go_wp2_with fail
              refine hls.mono ?_
              rintro e w5 ⟨v, rfl, hown, b5⟩
              clear hls
              obtain ⟨la, lc, hv⟩ := owns_form hown
              obtain ⟨L, hL⟩ : ∃ L, L = (S2.fs.map Fl.nm).length := ⟨_, rfl⟩
              rw [← hL] at hv hown
              subst hv
              have hL2 : L = S2.fs.length := by rw [hL, List.length_map]
              have hL60 : L ≤ 60 := by omega
              have HL := Lib.hid hL2; clear hL hL2
              have hbw5 : Below w.heap.size w w5 := hbc.trans (b5.mono (Nat.le_trans hz1 hzc))
              have hd5 : DkS w1.heap.size w5 pb F2 S2 := hd3.kept (Turn.of_below (fun _ => False) b5 (Nat.le_refl _)) (fun _ _ _ f => f)
              have HOWN := Lib.hid hown; have HLSt : Hid (left S2 + (total (S2.fs.take 0) : Nat) = left S2) := Lib.hid (by simp [total])
              clear hown hbc b5 hd3 hzc
              have hz5 : w1.heap.size ≤ w5.heap.size := DkB.size ⟨F2, hd5⟩
              go_wp2_with fail
              go_loopg [11, 13] L (fun g s it wq => ∃ k : Nat, k + g = L ∧ it = .int .i64 k ∧ s = .int .i64 (left S2 + (total (S2.fs.take k) : Nat)) ∧ Below w5.heap.size w5 wq)
              case atStart => exact ⟨0, by omega, rfl, by rw [HLSt.out], Below.refl _ _⟩
              case round =>
                obtain ⟨k, hk, rfl, rfl, hbq⟩ := hrel
                have hlr := HLS.out
                by_cases hkl : k < L
                · obtain ⟨f, hf⟩ : ∃ f, S2.fs[k]? = some f := ⟨S2.fs[k]'(by have := HL.out; omega), List.getElem?_eq_getElem _⟩
                  obtain ⟨gn, hla, hgl, hcell⟩ : ∃ gn, la = some ⟨gn, 0, none⟩ ∧ gn < w5.heap.size ∧ w5.cell? ⟨gn, k, none⟩ = some (.string (bs f.nm)) := by
                    rcases owns_cases HOWN.out with ⟨_, h0, _⟩ | ⟨gn, cap', cur, hv, _, hgl, _, _, _, _, _, _, hce, _⟩
                    · omega
                    · injection hv with e1 e2 e3
                      exact ⟨gn, e1, hgl, by rw [hce k hkl, strs_at, List.getElem?_map, hf]; rfl⟩
                  subst hla
                  rw [← hbq.cell (p := ⟨gn, k, none⟩) hgl] at hcell
                  have hdq : DkS w1.heap.size wr pb F2 S2 := hd5.kept (Turn.of_below (fun _ => False) hbq (Nat.le_refl _)) (fun _ _ _ f => f)
                  have hfm := List.mem_of_getElem? hf
                  have hfn := hdq.good.names f hfm
                  have hfind := find_of HUP.out hfm
                  have hsz := size_any (n := f.nm) hdq (by unfold maxLen; omega)
                  have e1 : szN S2 f.nm = f.bt.length := by unfold szN; rw [hfind]
                  have e2 : szE S2 f.nm = 0 := by unfold szE; rw [hfind]
                  unfold szPost at hsz
                  rw [e1, e2] at hsz
                  have htk : total (S2.fs.take (k + 1)) = total (S2.fs.take k) + f.bt.length := by
                    rw [List.take_add_one, hf, total_append]; simp [total]
                  have hfl := len_le_total hfm
                  have htl : total (S2.fs.take k) ≤ total S2.fs := by
                    have := total_append (S2.fs.take k) (S2.fs.drop k)
                    rw [List.take_append_drop] at this
                    omega
                  have HTK := Lib.hid htk
                  have hlr2 : 0 ≤ left S2 + (total (S2.fs.take k) : Nat) ∧ left S2 + (total (S2.fs.take k) : Nat) ≤ 1048576 := by omega
                  obtain ⟨hr3, hr4⟩ := hlr2
                  have hfb : f.bt.length ≤ 1048576 := by omega
                  clear e1 e2 htk hfind hf hlr hfl htl
                  go_wp2_with fail
                  refine hsz.mono ?_
                  rintro e w6 ⟨rfl, b6⟩
                  clear hsz
                  go_wp2_with fail
                  go_roundg (gk - 1)
                  case measure => omega
                  case rel => exact ⟨k + 1, by omega, by go_num, by rw [HTK.out]; congr 1; omega, hbq.trans (b6.mono hbq.size)⟩
                · obtain rfl : k = L := by omega
                  have hall : left S2 + (total (S2.fs.take k) : Nat) = room := by
                    rw [List.take_of_length_le (by rw [HL.out]; exact Nat.le_refl _), hlr]; omega
                  rw [hall]
                  have hdq : DkS w1.heap.size wr pb F2 S2 := hd5.kept (Turn.of_below (fun _ => False) hbq (Nat.le_refl _)) (fun _ _ _ f => f)
                  have hli := left_any hdq
                  have hge : 0 ≤ left S2 := by omega
                  clear hall hlr
                  go_wp2_with fail
                  refine hli.mono ?_
                  rintro e w7 ⟨rfl, rfl⟩
                  clear hli
                  go_wp2_with fail
                  go_roundg g'
                  case measure => omega
                  case rel => exact ⟨i + 1, by omega, by go_num, ⟨S2, ⟨F2, hdq⟩, HS2.out, hS2l⟩, hbw5.trans (hbq.mono (Nat.le_trans hz1 hz5))⟩
        · obtain rfl : i = n := by omega
          go_wp2_with fail
          go_ret
          exact ⟨rfl, hbw⟩

theorem room_of (room : Int) (l : List Opn) (a : Option Addr) (cap : Nat) (w : World) (h0 : (Lit.int .i64 room).wf = true) (h1 : l.length ≤ 9223372036854775807) (h2 : OpsIn w a l) (h3 : ∀ o ∈ l, o.fit) :
    Calls Try.prog 5 #[.int .i64 room, .slice a l.length cap] w fun e w' => e = .returned (.bool true) ∧ Below w.heap.size w w' :=
  room_walk room l a cap w (wf_i64 h0).1 (wf_i64 h0).2 h1 h2 h3
end Go.Proofs.Ytmpipfhlicfagaa
