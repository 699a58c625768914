/- The bytes of a manifest, as the document tells them. -/
import Derived.Test.YtbefhnpmilcffaaDoorNsegs
import Derived.Test.YtbefhnpmilcffaaDoorCrefs
namespace Go.Proofs.YtbefhnpmilcffaaDoor.J
open Go.RowKit
set_option linter.unusedVariables false

/-- What was there is as it was. -/
def Old (w1 W : World) : Prop := Below w1.heap.size w1 W
theorem Old.refl (w1 : World) : Old w1 w1 := Below.refl _ _
theorem Old.alloc {w1 W : World} (h : Old w1 W) (o : Obj) : Old w1 (W.alloc o) := Below.alloc h h.size o
theorem Old.drew {w1 W : World} (h : Old w1 W) : Old w1 W.drew := Below.drew h
theorem Old.drewN {w1 W : World} (h : Old w1 W) (q : Nat) : Old w1 (W.drewN q) := ⟨h.os, h.tape, h.output, h.size, h.block⟩
theorem Old.below {w1 W W' : World} (h : Old w1 W) (k : Below W.heap.size W W') : Old w1 W' := Below.trans h (k.mono h.size)
theorem refput_nat (n : Nat) (w : World) (h : n < 18446744073709551616) :
    Calls Tryd.prog 28 #[.int .u64 (n : Int)] w fun e w' => e = .returned (.string (bs (put n))) ∧ Below w.heap.size w w' :=
  refput_any n w (by unfold M64; omega)

/-- The bytes of the first i segments, with what stands ahead of them. -/
def pre (m : Mf) (i : Nat) : List UInt8 := puts (m.ver.toNat :: m.segs.length :: (m.segs.take i).flatMap snums)
theorem pre_zero (m : Mf) : pre m 0 = put m.ver.toNat ++ put m.segs.length := by simp [pre, puts]
theorem pre_succ {m : Mf} {i : Nat} {s : Sg} (h : m.segs[i]? = some s) : pre m (i + 1) = pre m i ++ put s.n.toNat ++ put s.size.toNat ++ put s.sum := by
  unfold pre
  rw [List.take_add_one, h]
  simp [puts, snums, List.flatMap_append]
theorem pre_all (m : Mf) : pre m m.segs.length = enc m := by unfold pre enc mnums; rw [List.take_length]
theorem put_small {n : Nat} (h : n < 4294967296) : (put n).length ≤ 5 := put_len 4 n (by omega)
theorem pre_len {m : Mf} (h : Right m) (hw : m.wf) : ∀ i, i ≤ m.segs.length → (pre m i).length ≤ 20 + 15 * i
  | 0, _ => by
    rw [pre_zero, List.length_append]
    have := put_small (n := m.ver.toNat) (by have := h.1; omega)
    have := put_small (n := m.segs.length) (by have := h.2.1; omega)
    omega
  | i + 1, hi => by
    have hs := List.getElem?_eq_getElem (l := m.segs) (i := i) (by omega)
    rw [pre_succ hs]
    have ih := pre_len h hw i (by omega)
    have hm : m.segs[i] ∈ m.segs := List.getElem_mem _
    have := sok_mem h.2.2 hm
    have := hw _ hm
    have := put_small (n := m.segs[i].n.toNat) (by omega)
    have := put_small (n := m.segs[i].size.toNat) (by omega)
    have := put_small (n := m.segs[i].sum) (by omega)
    simp only [List.length_append]
    omega

set_option maxRecDepth 100000 in
set_option maxHeartbeats 1000000 in
theorem refbytes_no (m : Mf) (a : Option Addr) (cap : Nat) (w : World) (hin : SgsIn w a m.segs) (hl : m.segs.length ≤ 2000) (hr : ¬ Right m) :
    Calls Tryd.prog 9 #[mfV m.ver a m.segs.length cap] w fun e w' => e = .returned (.tuple #[.string (bs []), .int .i64 1]) ∧ Below w.heap.size w w' := by
  have hb0 : Below w.heap.size w (w.alloc (.cells #[.int .i64 m.ver, .slice a m.segs.length cap] 32)) := (Below.refl _ _).alloc (Nat.le_refl _) _
  have HR := Lib.hid (refright_any m a cap _ (hin.later hb0 (Nat.le_refl _)) hl)
  rw [right_no hr] at HR
  have HB := Lib.hid hb0
  clear hb0 hr hin
  generalize m.segs.length = L at *
  unfold mfV at HR ⊢
  go_enter Tryd.func9, Tryd.ntmps9
  go_wp2_with (go_at_call 15; refine HR.out.mono ?_; rintro e w' ⟨rfl, hb⟩)
  go_ret2
  exact ⟨rfl, HB.out.trans (hb.mono HB.out.size)⟩

set_option maxRecDepth 100000 in
set_option maxHeartbeats 2000000 in
theorem refbytes_yes (m : Mf) (a : Option Addr) (cap : Nat) (w : World) (hin : SgsIn w a m.segs) (hr : Right m) (hw : m.wf) :
    Calls Tryd.prog 9 #[mfV m.ver a m.segs.length cap] w fun e w' => e = .returned (.tuple #[.string (bs (seal4 (enc m))), .int .i64 0]) ∧ Below w.heap.size w w' := by
  have hb0 : Below w.heap.size w (w.alloc (.cells #[.int .i64 m.ver, .slice a m.segs.length cap] 32)) := (Below.refl _ _).alloc (Nat.le_refl _) _
  have HR := Lib.hid (refright_any m a cap _ (hin.later hb0 (Nat.le_refl _)) (by have := hr.2.1; omega))
  rw [right_iff.2 hr] at HR
  have hn0 := heap_alloc_new w (.cells #[.int .i64 m.ver, .slice a m.segs.length cap] 32)
  have h200 := hr.2.1
  obtain ⟨V, hV⟩ : ∃ V : Nat, m.ver = (V : Int) := ⟨m.ver.toNat, by have := hr.1; omega⟩
  have hV9 : V ≤ 999999 := by have := hr.1; omega
  have HP0 := Lib.hid (pre_zero m)
  have HPA := Lib.hid (pre_all m)
  have HPL := Lib.hid (pre_len hr hw)
  have HRT := Lib.hid hr; have HWF := Lib.hid hw
  obtain ⟨L, hL⟩ : ∃ L, L = m.segs.length := ⟨_, rfl⟩
  rw [← hL] at hb0 hn0 h200 HR HPA HPL HP0 ⊢
  rw [hV] at hb0 hn0 HR HP0 ⊢
  rw [Int.toNat_natCast] at HP0
  have HL := Lib.hid hL; have HI := Lib.hid hin; have HB := Lib.hid hb0; have HN := Lib.hid hn0
  clear hL hin hb0 hn0 hr hw hV
  unfold mfV at HR ⊢
  have z1 : (bs (put V)).size ≤ 5 := by rw [bs_size]; exact put_small (by omega)
  have z2 : (bs (put L)).size ≤ 5 := by rw [bs_size]; exact put_small (by omega)
  have HAD : Hid (bs (pre m 0) = bs (put V) ++ bs (put L)) := Lib.hid (by rw [HP0.out, bs_join])
  have HP1 := Lib.hid (fun W => refput_nat V W (by omega)); have HP2 := Lib.hid (fun W => refput_nat L W (by omega))
  go_enter Tryd.func9, Tryd.ntmps9
  go_wp2_with fail
  refine HR.out.mono ?_
  rintro e w2 ⟨rfl, b2⟩
  generalize hW : w.alloc _ = w1 at *
  have hwl : w.heap.size < w1.heap.size := (Array.getElem?_eq_some_iff.1 HN.out).1
  have hn2 : w2.heap[w.heap.size]? = _ := (b2.block _ hwl).trans HN.out
  have hm : ∀ W, Old w2 W → ∀ t, W.cell? ⟨w.heap.size, t, none⟩ = (#[Value.int .i64 (V : Int), Value.slice a L cap] : Array Value)[t]? := fun W hW t => by
    rw [Below.cell (p := ⟨w.heap.size, t, none⟩) hW (by show w.heap.size < w2.heap.size; have := b2.size; omega)]
    exact cell_of_row w2 w.heap.size t _ _ (0, 0) hn2
  have m0 := fun W hW => hm W hW 0
  have m1 := fun W hW => hm W hW 1
  simp only [List.getElem?_toArray, List.getElem?_cons_succ, List.getElem?_cons_zero] at m0 m1
  have HBW := Lib.hid (HB.out.trans (b2.mono HB.out.size) : Below w.heap.size w w2)
  have HN2 := Lib.hid hn2
  clear hm hW hn2 b2 HR HN
  go_wp2_with fail
  have K0 := Old.refl w2
  have q1 : IntKind.u64.wrap (V : Int) = (V : Int) := IntWalk.u64_in _ ⟨by omega, by omega⟩
  have q2 : IntKind.u64.wrap (L : Int) = (L : Int) := IntWalk.u64_in _ ⟨by omega, by omega⟩
  have hsum : ¬ 9223372036854775807 < (bs (put V)).size + (bs (put L)).size := by omega
  generalize bs (put V) = X1 at *
  generalize bs (put L) = X2 at *
  go_region_held3 (fun W => Old w2 W) (first | assumption | exact K0 | exact K0.drew | exact Old.drew ‹_›)
    (first
      | (go_at_call 28
         (with_reducible refine (HP1.out _).mono ?_)
         rintro e8 w8 ⟨rfl, hb8⟩
         have hO8 : Old w2 w8 := Old.below (by first | assumption | exact K0 | exact K0.drew | exact Old.drew ‹_›) hb8)
      | (go_at_call 28
         (with_reducible refine (HP2.out _).mono ?_)
         rintro e9 w9 ⟨rfl, hb9⟩
         have hO9 : Old w2 w9 := Old.below (by first | assumption | exact K0 | exact K0.drew | exact Old.drew ‹_›) hb9))
  rw [← HAD.out]
  clear z1 z2 hsum q1 q2 m0 m1 K0
  have HM : Hid (∀ W, Old w2 W → ∀ t, W.cell? ⟨w.heap.size, t, none⟩ = (#[Value.int .i64 (V : Int), Value.slice a L cap] : Array Value)[t]?) := Lib.hid (fun W hW t => by
    rw [Below.cell (p := ⟨w.heap.size, t, none⟩) hW (by have := (Array.getElem?_eq_some_iff.1 HN2.out).1; exact this)]
    exact cell_of_row w2 w.heap.size t _ _ (0, 0) HN2.out)
  have hwl2 : w.heap.size < w2.heap.size := (Array.getElem?_eq_some_iff.1 HN2.out).1
  go_wp2_with fail
  go_loopg [4, 5] L (fun g x it wr => ∃ i : Nat, i + g = L ∧ it = .int .i64 i ∧ x = .string (bs (pre m i)) ∧ Old w2 wr)
  case atStart => exact ⟨0, by omega, rfl, rfl, hO9⟩
  case round =>
    obtain ⟨i, hi, rfl, rfl, hO⟩ := hrel
    have c0 := HM.out _ hO 0; have c1 := HM.out _ hO 1
    simp only [List.getElem?_toArray, List.getElem?_cons_succ, List.getElem?_cons_zero] at c0 c1
    have HO := Lib.hid hO
    have hz : w2.heap.size ≤ wr.heap.size := hO.size
    clear hO hO9
    by_cases hlt : i < L
    · obtain ⟨s, hs⟩ : ∃ s, m.segs[i]? = some s := ⟨m.segs[i]'(by have := HL.out; omega), List.getElem?_eq_getElem _⟩
      have hm : s ∈ m.segs := List.mem_of_getElem? hs
      obtain ⟨⟨o1, o2⟩, o3, o4⟩ := sok_mem HRT.out.2.2 hm
      have o5 := HWF.out s hm
      obtain ⟨n, hn⟩ : ∃ n : Nat, s.n = (n : Int) := ⟨s.n.toNat, by omega⟩
      obtain ⟨z, hz2⟩ : ∃ z : Nat, s.size = (z : Int) := ⟨s.size.toNat, by omega⟩
      obtain ⟨b, off, rfl, hbl, d0, d1, d2⟩ := HI.out.at (HBW.out.trans (HO.out.mono HBW.out.size)) (Nat.le_refl _) i s hs
      have hps := pre_succ hs
      rw [hn, hz2, Int.toNat_natCast, Int.toNat_natCast] at hps
      rw [hn] at d0 o1 o2
      rw [hz2] at d1 o3 o4
      have hpl := HPL.out i (by omega)
      obtain ⟨c, hc⟩ : ∃ c, c = s.sum := ⟨_, rfl⟩
      rw [← hc] at d2 o5 hps
      have y1 : (bs (put n)).size ≤ 5 := by rw [bs_size]; exact put_small (by omega)
      have y2 : (bs (put z)).size ≤ 5 := by rw [bs_size]; exact put_small (by omega)
      have y3 : (bs (put c)).size ≤ 5 := by rw [bs_size]; exact put_small (by omega)
      have y0 : (bs (pre m i)).size ≤ 20 + 15 * i := by rw [bs_size]; exact hpl
      have HPS : Hid (bs (pre m (i + 1)) = bs (pre m i) ++ bs (put n) ++ bs (put z) ++ bs (put c)) := Lib.hid (by rw [hps, bs_join, bs_join, bs_join])
      have HP3 := Lib.hid (fun W => refput_nat n W (by omega)); have HP4 := Lib.hid (fun W => refput_nat z W (by omega)); have HP5 := Lib.hid (fun W => refput_nat c W (by omega))
      have hba : Below wr.heap.size wr (wr.alloc (.cells #[.int .i64 n, .int .i64 z, .int .u32 c] 48)) := (Below.refl _ _).alloc (Nat.le_refl _) _
      have hna := heap_alloc_new wr (.cells #[.int .i64 n, .int .i64 z, .int .u32 c] 48)
      clear hps hpl hc hn hz2 hs hm
      go_wp2_with fail
      generalize hW2 : wr.alloc _ = w3 at *
      have hwr : wr.heap.size < w3.heap.size := (Array.getElem?_eq_some_iff.1 hna).1
      have hmm : ∀ W, Old w3 W → ∀ t, W.cell? ⟨wr.heap.size, t, none⟩ = (#[Value.int .i64 (n : Int), Value.int .i64 (z : Int), Value.int .u32 (c : Int)] : Array Value)[t]? := fun W hW t => by
        rw [Below.cell (p := ⟨wr.heap.size, t, none⟩) hW hwr]
        exact cell_of_row w3 wr.heap.size t _ _ (0, 0) hna
      have e0 := fun W hW => hmm W hW 0
      have e1 := fun W hW => hmm W hW 1
      have e2 := fun W hW => hmm W hW 2
      simp only [List.getElem?_toArray, List.getElem?_cons_succ, List.getElem?_cons_zero] at e0 e1 e2
      have HO3 : Hid (Old w2 w3) := Lib.hid (Old.below HO.out hba)
      have K0 := Old.refl w3
      have q3 : IntKind.u64.wrap (n : Int) = (n : Int) := IntWalk.u64_in _ ⟨by omega, by omega⟩
      have q4 : IntKind.u64.wrap (z : Int) = (z : Int) := IntWalk.u64_in _ ⟨by omega, by omega⟩
      have q5 : IntKind.u64.wrap (c : Int) = (c : Int) := IntWalk.u64_in _ ⟨by omega, by omega⟩
      have hs1 : ¬ 9223372036854775807 < (bs (pre m i)).size + (bs (put n)).size := by omega
      have hs2 : ¬ 9223372036854775807 < (bs (pre m i)).size + (bs (put n)).size + (bs (put z)).size := by omega
      have hs3 : ¬ 9223372036854775807 < (bs (pre m i)).size + (bs (put n)).size + (bs (put z)).size + (bs (put c)).size := by omega
      clear hmm hna hW2 hba d0 d1 d2
      generalize bs (pre m i) = Y0 at *
      generalize bs (put n) = Y1 at *
      generalize bs (put z) = Y2 at *
      generalize bs (put c) = Y3 at *
      go_region_held3 (fun W => Old w3 W) (first | assumption | exact K0 | exact K0.drew | exact Old.drew ‹_›)
        (first
          | (go_at_call 28
             (with_reducible refine (HP3.out _).mono ?_)
             rintro e4 w4 ⟨rfl, hb4⟩
             have hO4 : Old w3 w4 := Old.below (by first | assumption | exact K0 | exact K0.drew | exact Old.drew ‹_›) hb4)
          | (go_at_call 28
             (with_reducible refine (HP4.out _).mono ?_)
             rintro e5 w5 ⟨rfl, hb5⟩
             have hO5 : Old w3 w5 := Old.below (by first | assumption | exact K0 | exact K0.drew | exact Old.drew ‹_›) hb5)
          | (go_at_call 28
             (with_reducible refine (HP5.out _).mono ?_)
             rintro e6 w6 ⟨rfl, hb6⟩
             have hO6 : Old w3 w6 := Old.below (by first | assumption | exact K0 | exact K0.drew | exact Old.drew ‹_›) hb6))
      have HF : Hid (Old w2 w6) := Lib.hid (HO3.out.trans (hO6.mono HO3.out.size))
      clear hs1 hs2 hs3 q3 q4 q5 e0 e1 e2 K0 hO4 hO5 hO6
      go_wp2_with fail
      go_roundg (gk - 1)
      case measure => omega
      case rel => exact ⟨i + 1, by omega, by go_num, by rw [HPS.out], HF.out⟩
    · obtain rfl : i = L := by omega
      have HSL := Lib.hid (refseal_any (bs (pre m i)) wr (by rw [bs_size]; have := HPL.out i (Nat.le_refl _); omega))
      rw [bs_list, HPA.out] at HSL
      rw [HPA.out]
      go_wp2_with (go_at_call 29; refine HSL.out.mono ?_; rintro e w5 ⟨rfl, hb5⟩)
      go_ret2
      exact ⟨rfl, HBW.out.trans ((HO.out.below hb5).mono HBW.out.size)⟩
theorem refbytes_any (m : Mf) (a : Option Addr) (cap : Nat) (w : World) (hin : SgsIn w a m.segs) (hl : m.segs.length ≤ 2000) (hw : m.wf) :
    Calls Tryd.prog 9 #[mfV m.ver a m.segs.length cap] w fun e w' => e = .returned (.tuple #[.string (bs (mbs m).1), .int .i64 ((mbs m).2 : Nat)]) ∧ Below w.heap.size w w' := by
  by_cases h : Right m
  · rw [mbs_yes h]; exact refbytes_yes m a cap w hin h hw
  · rw [mbs_no h]; exact refbytes_no m a cap w hin hl h
end Go.Proofs.YtbefhnpmilcffaaDoor.J
