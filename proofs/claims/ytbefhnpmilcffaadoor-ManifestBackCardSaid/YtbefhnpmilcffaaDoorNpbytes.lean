/- Bytes of the landed code. -/
import Derived.Test.YtbefhnpmilcffaaDoorNpcalls
import Derived.Test.YtbefhnpmilcffaaDoorNpbuild
import Derived.Test.YtbefhnpmilcffaaDoorVputs
namespace Go.Proofs.YtbefhnpmilcffaaDoor.J
open Go.RowKit
set_option linter.unusedVariables false
set_option linter.unusedSimpArgs false

theorem pput_nat (n : Nat) (w : World) (h : n < 4294967296) :
    Calls Tryd.prog 25 #[.int .u64 (n : Int)] w fun e w' => e = .returned (.string (bs (put n))) ∧ Below w.heap.size w w' := by
  have := put_any (n : Int) w (by omega) (by omega)
  rwa [Int.toNat_natCast] at this

set_option maxRecDepth 100000 in
set_option maxHeartbeats 1000000 in
theorem pbytes_no (m : Mf) (a : Option Addr) (cap : Nat) (w : World) (hin : SgsIn w a m.segs) (hl : m.segs.length ≤ 1000) (hr : ¬ Right m) :
    Calls Tryd.prog 8 #[mfV m.ver a m.segs.length cap] w fun e w' => e = .returned (.tuple #[.string (bs []), .int .i64 1]) ∧ Below w.heap.size w w' := by
  have hb0 : Below w.heap.size w (w.alloc (.cells #[.int .i64 m.ver, .slice a m.segs.length cap] 24)) := (Below.refl _ _).alloc (Nat.le_refl _) _
  have HR := Lib.hid (pright_any m a cap _ (hin.later hb0 (Nat.le_refl _)) hl)
  rw [right_no hr] at HR
  have HB := Lib.hid hb0
  clear hb0 hr hin
  generalize m.segs.length = L at *
  unfold mfV at HR ⊢
  go_enter Tryd.func8, Tryd.ntmps8
  go_wp2_with fail
  refine HR.out.mono ?_
  rintro e w' ⟨rfl, hb⟩
  go_wp2_with fail
  go_ret2
  exact ⟨rfl, HB.out.trans (hb.mono HB.out.size)⟩

set_option maxRecDepth 100000 in
set_option maxHeartbeats 4000000 in
theorem pbytes_yes (m : Mf) (a : Option Addr) (cap : Nat) (w : World) (hin : SgsIn w a m.segs) (hr : Right m) (hw : m.wf) :
    Calls Tryd.prog 8 #[mfV m.ver a m.segs.length cap] w fun e w' => e = .returned (.tuple #[.string (bs (seal4 (enc m))), .int .i64 0]) ∧ Below w.heap.size w w' := by
  have hb0 : Below w.heap.size w (w.alloc (.cells #[.int .i64 m.ver, .slice a m.segs.length cap] 24)) := (Below.refl _ _).alloc (Nat.le_refl _) _
  have HR := Lib.hid (pright_any m a cap _ (hin.later hb0 (Nat.le_refl _)) (by have := hr.2.1; omega))
  rw [right_iff.2 hr] at HR
  have hn0 := heap_alloc_new w (.cells #[.int .i64 m.ver, .slice a m.segs.length cap] 24)
  have h200 := hr.2.1
  obtain ⟨V, hV⟩ : ∃ V : Nat, m.ver = (V : Int) := ⟨m.ver.toNat, by have := hr.1; omega⟩
  have hV9 : V ≤ 999999 := by have := hr.1; omega
  have HP0 := Lib.hid (pre_zero m)
  have HPA := Lib.hid (pre_all m)
  have HPL := Lib.hid (pre_len hr hw)
  have HRT := Lib.hid hr; have HWF := Lib.hid hw
  obtain ⟨L, hL⟩ : ∃ L, L = m.segs.length := ⟨_, rfl⟩
  rw [← hL] at hb0 hn0 h200 HR HPA HPL HP0 ⊢
  rw [hV] at hb0 hn0 HR HP0 ⊢
  rw [Int.toNat_natCast] at HP0
  have HL := Lib.hid hL; have HI := Lib.hid hin; have HB := Lib.hid hb0; have HN := Lib.hid hn0
  have hwl : w.heap.size < (w.alloc (.cells #[.int .i64 (V : Int), .slice a L cap] 24)).heap.size := by simp
  clear hL hin hb0 hn0 hr hw hV
  unfold mfV at HR ⊢
  have lp1 : (put V).length ≤ 5 := put_small (by omega)
  have lp2 : (put L).length ≤ 5 := put_small (by omega)
  have HP1 := Lib.hid (fun W => pput_nat V W (by omega)); have HP2 := Lib.hid (fun W => pput_nat L W (by omega))
  have q1 : IntKind.u64.wrap (V : Int) = (V : Int) := IntWalk.u64_in _ ⟨by omega, by omega⟩
  have q2 : IntKind.u64.wrap (L : Int) = (L : Int) := IntWalk.u64_in _ ⟨by omega, by omega⟩
  go_enter Tryd.func8, Tryd.ntmps8
  go_wp2_with fail
  generalize hW : w.alloc _ = w1 at *
  clear hW
  refine HR.out.mono ?_
  rintro e w2 ⟨rfl, b2⟩
  have hn2 : w2.heap[w.heap.size]? = _ := (b2.block _ hwl).trans HN.out
  have HN2 := Lib.hid hn2
  have HBW := Lib.hid (HB.out.trans (b2.mono HB.out.size) : Below w.heap.size w w2)
  have hwl2 : w.heap.size < w2.heap.size := (Array.getElem?_eq_some_iff.1 hn2).1
  have c0 : ∀ o, (w2.alloc o).cell? ⟨w.heap.size, 0, none⟩ = some (.int .i64 (V : Int)) := fun o => ((((Below.refl w2.heap.size w2).alloc (Nat.le_refl _) o).cell (p := ⟨w.heap.size, 0, none⟩) hwl2)).trans (by rw [cell_of_row w2 w.heap.size 0 _ _ (0, 0) hn2]; rfl)
  have B3 : Below w2.heap.size w2 (w2.alloc (.cells #[.pointer none, .slice none 0 0] 56)) := (Below.refl _ _).alloc (Nat.le_refl _) _
  have F3 := Lib.hid (Bld.fresh w2)
  have HB3 := Lib.hid B3
  clear hn2 b2 HR HN B3
  go_wp2_with fail
  refine (HP1.out _).mono ?_
  rintro e w4 ⟨rfl, b4⟩
  have F4 := Lib.hid (F3.out.later b4)
  have B4 := Lib.hid (HB3.out.trans (b4.mono HB3.out.size))
  clear b4 c0
  go_wp2_with fail
  refine (write_any w2.heap.size w2.heap.size [] (put V) _ F4.out (by simp; omega) B4.out.size).mono ?_
  rintro e w5 ⟨rfl, f5, b5, _⟩
  have F5 := Lib.hid f5
  have B5 := Lib.hid (B4.out.trans b5)
  have c1 : w5.cell? ⟨w.heap.size, 1, none⟩ = some (.slice a L cap) := (Below.cell (p := ⟨w.heap.size, 1, none⟩) B5.out hwl2).trans (by rw [cell_of_row w2 w.heap.size 1 _ _ (0, 0) HN2.out]; rfl)
  clear f5 b5 F4 B4
  go_wp2_with fail
  refine (HP2.out _).mono ?_
  rintro e w6 ⟨rfl, b6⟩
  have F6 := Lib.hid (F5.out.later b6)
  have B6 := Lib.hid (B5.out.trans (b6.mono B5.out.size))
  clear b6 c1 F5 B5
  go_wp2_with fail
  refine (write_any w2.heap.size w2.heap.size ([] ++ put V) (put L) _ F6.out (by simp; omega) B6.out.size).mono ?_
  rintro e w7 ⟨rfl, f7, b7, _⟩
  have F7 := Lib.hid (show Bld w2.heap.size w2.heap.size (pre m 0) w7 by rw [HP0.out]; exact f7)
  have B7 := Lib.hid (B6.out.trans b7)
  have c1 : w7.cell? ⟨w.heap.size, 1, none⟩ = some (.slice a L cap) := (Below.cell (p := ⟨w.heap.size, 1, none⟩) B7.out hwl2).trans (by rw [cell_of_row w2 w.heap.size 1 _ _ (0, 0) HN2.out]; rfl)
  clear f7 b7 F6 B6
  go_wp2_with fail
  clear c1 q1 q2
  go_loopg [24] L (fun g it wr => ∃ i : Nat, i + g = L ∧ it = .int .i64 i ∧ Bld w2.heap.size w2.heap.size (pre m i) wr ∧ Below w2.heap.size w2 wr)
  case atStart => exact ⟨0, by omega, rfl, F7.out, B7.out⟩
  case round =>
    obtain ⟨i, hi, rfl, hf, hb⟩ := hrel
    have hpl := HPL.out i (by have := HL.out; omega)
    have HF := Lib.hid hf; have HBR := Lib.hid hb
    have hbz := hb.size
    clear hf hb F7 B7
    by_cases hlt : i < L
    · obtain ⟨s, hs⟩ : ∃ s, m.segs[i]? = some s := ⟨m.segs[i]'(by have := HL.out; omega), List.getElem?_eq_getElem _⟩
      have hm : s ∈ m.segs := List.mem_of_getElem? hs
      have hbd := sok_mem HRT.out.2.2 hm
      have hsm := HWF.out s hm
      obtain ⟨b, off, rfl, hbl, d0, d1, d2⟩ := HI.out.at (HBW.out.trans (HBR.out.mono HBW.out.size)) (Nat.le_refl _) i s hs
      have HPS := Lib.hid (pre_succ hs)
      clear hs hm
      obtain ⟨⟨n1, n2⟩, z1, z2⟩ := hbd
      obtain ⟨sn, ss, sc⟩ := s
      simp only at n1 n2 z1 z2 hsm d0 d1 d2 HPS
      obtain ⟨N, rfl⟩ : ∃ N : Nat, sn = (N : Int) := ⟨sn.toNat, by omega⟩
      obtain ⟨Z, rfl⟩ : ∃ Z : Nat, ss = (Z : Int) := ⟨ss.toNat, by omega⟩
      rw [Int.toNat_natCast, Int.toNat_natCast] at HPS
      have l1 : (put N).length ≤ 5 := put_small (by omega)
      have l2 : (put Z).length ≤ 5 := put_small (by omega)
      have l3 : (put sc).length ≤ 5 := put_small (by omega)
      have H1 := Lib.hid (fun W => pput_nat N W (by omega)); have H2 := Lib.hid (fun W => pput_nat Z W (by omega)); have H3 := Lib.hid (fun W => pput_nat sc W (by omega))
      have q1 : IntKind.u64.wrap (N : Int) = (N : Int) := IntWalk.u64_in _ ⟨by omega, by omega⟩
      have q2 : IntKind.u64.wrap (Z : Int) = (Z : Int) := IntWalk.u64_in _ ⟨by omega, by omega⟩
      have q3 : IntKind.u64.wrap (sc : Int) = (sc : Int) := IntWalk.u64_in _ ⟨by omega, by omega⟩
      have HNA := Lib.hid (heap_alloc_new wr (.cells #[.int .i64 (N : Int), .int .i64 (Z : Int), .int .u32 (sc : Int)] 46))
      have hba : Below wr.heap.size wr (wr.alloc (.cells #[.int .i64 (N : Int), .int .i64 (Z : Int), .int .u32 (sc : Int)] 46)) := (Below.refl _ _).alloc (Nat.le_refl _) _
      have F1 := Lib.hid (HF.out.later hba)
      have B1 := Lib.hid (HBR.out.trans (hba.mono hbz))
      clear hba
      go_wp2_with fail
      refine (H1.out _).mono ?_
      generalize wr.alloc _ = w8 at *
      have hl8 : wr.heap.size < w8.heap.size := (Array.getElem?_eq_some_iff.1 HNA.out).1
      have hgb : wr.heap.size ≠ w2.heap.size := by
        have : w2.heap.size < wr.heap.size := by
          rcases HF.out with h | h <;> exact h.lt
        omega
      rintro e w9 ⟨rfl, b9⟩
      have F9 := Lib.hid (F1.out.later b9)
      have B9 := Lib.hid (B1.out.trans (b9.mono B1.out.size))
      have HN9 := Lib.hid ((b9.block _ hl8).trans HNA.out)
      clear b9
      go_wp2_with fail
      refine (write_any w2.heap.size w2.heap.size (pre m i) (put N) _ F9.out (by omega) B9.out.size).mono ?_
      rintro e w10 ⟨rfl, f10, b10, s10⟩
      have hn10 := s10 _ _ _ _ hgb (by decide) HN9.out
      have F10 := Lib.hid f10
      have B10 := Lib.hid (B9.out.trans b10)
      obtain ⟨e0, e1, e2⟩ := three_cells hn10
      have HN10 := Lib.hid hn10
      clear f10 b10 s10 hn10 F9 B9 HN9
      go_wp2_with fail
      refine (H2.out _).mono ?_
      rintro e w11 ⟨rfl, b11⟩
      have hl10 : wr.heap.size < w10.heap.size := (Array.getElem?_eq_some_iff.1 HN10.out).1
      have F11 := Lib.hid (F10.out.later b11)
      have B11 := Lib.hid (B10.out.trans (b11.mono B10.out.size))
      have HN11 := Lib.hid ((b11.block _ hl10).trans HN10.out)
      clear b11 e0 e1 e2 F10 B10 HN10
      go_wp2_with fail
      refine (write_any w2.heap.size w2.heap.size (pre m i ++ put N) (put Z) _ F11.out (by rw [List.length_append]; omega) B11.out.size).mono ?_
      rintro e w12 ⟨rfl, f12, b12, s12⟩
      have hn12 := s12 _ _ _ _ hgb (by decide) HN11.out
      have F12 := Lib.hid f12
      have B12 := Lib.hid (B11.out.trans b12)
      obtain ⟨e0, e1, e2⟩ := three_cells hn12
      clear f12 b12 s12 hn12 F11 B11 HN11
      go_wp2_with fail
      refine (H3.out _).mono ?_
      rintro e w13 ⟨rfl, b13⟩
      have F13 := Lib.hid (F12.out.later b13)
      have B13 := Lib.hid (B12.out.trans (b13.mono B12.out.size))
      clear b13 e0 e1 e2 F12 B12
      go_wp2_with fail
      refine (write_any w2.heap.size w2.heap.size (pre m i ++ put N ++ put Z) (put sc) _ F13.out (by rw [List.length_append, List.length_append]; omega) B13.out.size).mono ?_
      rintro e w14 ⟨rfl, f14, b14, _⟩
      have F14 := Lib.hid f14
      have B14 := Lib.hid (B13.out.trans b14)
      clear f14 b14 F13 B13
      go_wp2_with fail
      go_roundg (gk - 1)
      case measure => omega
      case rel => exact ⟨i + 1, by omega, by go_num, by rw [HPS.out]; exact F14.out, B14.out⟩
    · obtain rfl : i = L := by omega
      have HS := Lib.hid (fun W => seal_any (bs (enc m)) W (by rw [bs_size, ← HPA.out]; omega))
      rw [bs_list] at HS
      have HST := Lib.hid (fun W hW hB => bstring_any w2.heap.size w2.heap.size (pre m i) W hW hB)
      rw [HPA.out] at HST
      have F0 : Hid (Bld w2.heap.size w2.heap.size (enc m) wr) := Lib.hid (by rw [← HPA.out]; exact HF.out)
      clear HF hpl
      go_wp2_with fail
      refine (HST.out _ F0.out hbz).mono ?_
      rintro e w8 ⟨rfl, b8⟩
      have B8 := Lib.hid (HBR.out.trans b8)
      clear b8
      go_wp2_with fail
      refine (HS.out _).mono ?_
      rintro e w9 ⟨rfl, b9⟩
      have B9 := Lib.hid (HBW.out.trans ((B8.out.trans (b9.mono B8.out.size)).mono HBW.out.size))
      clear b9
      go_wp2_with fail
      go_ret2
      exact ⟨rfl, B9.out⟩
theorem pbytes_any (m : Mf) (a : Option Addr) (cap : Nat) (w : World) (hin : SgsIn w a m.segs) (hl : m.segs.length ≤ 1000) (hw : m.wf) :
    Calls Tryd.prog 8 #[mfV m.ver a m.segs.length cap] w fun e w' => e = .returned (.tuple #[.string (bs (mbs m).1), .int .i64 ((mbs m).2 : Nat)]) ∧ Below w.heap.size w w' := by
  by_cases hr : Right m
  · rw [mbs_yes hr]; exact pbytes_yes m a cap w hin hr hw
  · rw [mbs_no hr]; exact pbytes_no m a cap w hin hl hr
end Go.Proofs.YtbefhnpmilcffaaDoor.J
