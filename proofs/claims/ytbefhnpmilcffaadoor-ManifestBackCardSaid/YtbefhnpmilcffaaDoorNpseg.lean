/- seg: what is told of a segment, decoded. -/
import Derived.Test.YtbefhnpmilcffaaDoorNpnums
namespace Go.Proofs.YtbefhnpmilcffaaDoor.J
open Go.RowKit
set_option linter.unusedVariables false
set_option linter.unusedSimpArgs false

theorem tk_len {s r : List UInt8} {n : Nat} (h : tk s = (n, r, 0)) : s = put n ++ r ∧ n < M64 ∧ r.length ≤ s.length := by
  rcases tk_cases s with ⟨e, _⟩ | e | ⟨n', r', e, h1, h2⟩
  · rw [e] at h; simp at h
  · rw [e] at h; simp at h
  · rw [e] at h
    simp only [Prod.mk.injEq, and_true] at h
    obtain ⟨rfl, rfl⟩ := h
    exact ⟨h2, h1, by rw [h2, List.length_append]; omega⟩
theorem nok_tk {s : List UInt8} {most : Nat} (h : nok s most) : tk s = ((tk s).1, (tk s).2.1, 0) := by
  have := h.1
  exact Prod.ext rfl (Prod.ext rfl this)
/-- The three numbers. -/
def S3 (s : List UInt8) (x : Sg) (r : List UInt8) : Prop := ∃ n1 n2 n3 r1 r2, tk s = (n1, r1, 0) ∧ n1 ≤ 999999 ∧ tk r1 = (n2, r2, 0) ∧ n2 ≤ 1048576 ∧ tk r2 = (n3, r, 0) ∧ n3 ≤ 4294967295 ∧ x = ⟨n1, n2, n3⟩
theorem S3.bytes {s r : List UInt8} {x : Sg} (h : S3 s x r) : s = puts (snums x) ++ r ∧ r.length ≤ s.length ∧ (0 ≤ x.n ∧ x.n ≤ 999999) ∧ (0 ≤ x.size ∧ x.size ≤ 1048576) ∧ x.sum < 4294967296 := by
  obtain ⟨n1, n2, n3, r1, r2, h1, b1, h2, b2, h3, b3, rfl⟩ := h
  obtain ⟨e1, _, l1⟩ := tk_len h1
  obtain ⟨e2, _, l2⟩ := tk_len h2
  obtain ⟨e3, _, l3⟩ := tk_len h3
  refine ⟨?_, by omega, by simp only; omega, by simp only; omega, by simp only; omega⟩
  rw [e1, e2, e3]
  simp [puts, snums]

set_option maxRecDepth 100000 in
set_option maxHeartbeats 1000000 in
theorem seg_yes (s : List UInt8) (x : Sg) (q : Nat) (r : List UInt8) (w : World) (hq : Nb w q s) (hs : s.length ≤ 5000) (h : S3 s x r) :
    Calls Tryd.prog 47 #[.pointer (some ⟨q, 0, none⟩)] w fun e w' => e = .returned (.agg #[.int .i64 x.n, .int .i64 x.size, .int .u32 (x.sum : Nat)]) ∧ Nb w' q r ∧ Tq q w w' := by
  obtain ⟨n1, n2, n3, r1, r2, h1, b1, h2, b2, h3, b3, rfl⟩ := h
  obtain ⟨_, _, l1⟩ := tk_len h1
  obtain ⟨_, _, l2⟩ := tk_len h2
  have H1 := Lib.hid (fun W hW => next_yes s 999999 n1 q r1 W hW hs h1 b1)
  have H2 := Lib.hid (fun W hW => next_yes r1 1048576 n2 q r2 W hW (by omega) h2 b2)
  have H3 := Lib.hid (fun W hW => next_yes r2 4294967295 n3 q r W hW (by omega) h3 b3)
  have HB := Lib.hid ((Below.refl w.heap.size w).alloc (Nat.le_refl _) (.cells #[.int .i64 0, .int .i64 0, .int .u32 0] 46))
  have HQ := Lib.hid (hq.later HB.out)
  have HN := Lib.hid (heap_alloc_new w (.cells #[.int .i64 0, .int .i64 0, .int .u32 0] 46))
  have hql := hq.lt
  have q1 : IntKind.i64.wrap (n1 : Int) = (n1 : Int) := IntWalk.i64_in _ ⟨by omega, by omega⟩
  have q2 : IntKind.i64.wrap (n2 : Int) = (n2 : Int) := IntWalk.i64_in _ ⟨by omega, by omega⟩
  have q3 : IntKind.u32.wrap (n3 : Int) = (n3 : Int) := IntWalk.u32_in _ ⟨by omega, by omega⟩
  clear hq h1 h2 h3 l1 l2
  go_enter Tryd.func47, Tryd.ntmps47
  go_wp2_with fail
  generalize hW : w.alloc _ = w1 at *
  refine (H1.out _ HQ.out).mono ?_
  rintro e w2 ⟨rfl, hq2, t2⟩
  have HQ2 := Lib.hid hq2; have HT2 := Lib.hid t2; clear hq2 t2
  go_wp2_with fail
  refine (H2.out _ HQ2.out).mono ?_
  rintro e w3 ⟨rfl, hq3, t3⟩
  have HQ3 := Lib.hid hq3; have HT3 := Lib.hid (HT2.out.trans t3); clear hq3 t3
  go_wp2_with fail
  refine (H3.out _ HQ3.out).mono ?_
  rintro e w4 ⟨rfl, hq4, t4⟩
  have HQ4 := Lib.hid hq4
  have t5 := HT3.out.trans t4
  have hlt : w.heap.size < w1.heap.size := (Array.getElem?_eq_some_iff.1 HN.out).1
  have hn4 : w4.heap[w.heap.size]? = some (.cells #[.int .i64 0, .int .i64 0, .int .u32 0] 46 (0, 0)) := (t5.block _ hlt (by show ¬ w.heap.size = q; omega)).trans HN.out
  obtain ⟨k0, k1, k2, kf, k3⟩ := three_set hn4 (.int .i64 n1) (.int .i64 n2) (.int .u32 n3)
  obtain ⟨j0, j1, j2⟩ := three_cells k3
  have T0 : Turn (fun k => k = q) w w4 := (Turn.of_below _ HB.out (Nat.le_refl _)).trans t5
  have HTF := Lib.hid (((T0.setNew (p := ⟨w.heap.size, 0, none⟩) (Nat.le_refl _) (.int .i64 n1)).setNew (p := ⟨w.heap.size, 1, none⟩) (Nat.le_refl _) (.int .i64 n2)).setNew (p := ⟨w.heap.size, 2, none⟩) (Nat.le_refl _) (.int .u32 n3))
  have HNF : Hid (Nb (((w4.setCell ⟨w.heap.size, 0, none⟩ (.int .i64 n1)).setCell ⟨w.heap.size, 1, none⟩ (.int .i64 n2)).setCell ⟨w.heap.size, 2, none⟩ (.int .u32 n3)) q r) := Lib.hid (by
    unfold Nb
    rw [Below.heap_setCell _ _ _ _ (by show q ≠ w.heap.size; omega), Below.heap_setCell _ _ _ _ (by show q ≠ w.heap.size; omega), Below.heap_setCell _ _ _ _ (by show q ≠ w.heap.size; omega)]
    exact hq4)
  clear hn4 k3 T0 t5 t4 hq4 hW
  go_wp2_with fail
  generalize ((w4.setCell _ _).setCell _ _).setCell _ _ = w5 at *
  exact bodyPost_ret (v := .agg #[.int .i64 n1, .int .i64 n2, .int .u32 n3]) (by simp [results, Tryd.results47, go_sem, j0, j1, j2]) rfl ⟨rfl, HNF.out, HTF.out⟩

set_option maxRecDepth 100000 in
set_option maxHeartbeats 1000000 in
theorem seg_no (s : List UInt8) (q : Nat) (w : World) (hq : Nb w q s) (hs : s.length ≤ 5000) (h : ∀ x r, ¬ S3 s x r) :
    Calls Tryd.prog 47 #[.pointer (some ⟨q, 0, none⟩)] w fun e w' => e = mal ∧ Tq q w w' := by
  have HB := Lib.hid ((Below.refl w.heap.size w).alloc (Nat.le_refl _) (.cells #[.int .i64 0, .int .i64 0, .int .u32 0] 46))
  have HQ := Lib.hid (hq.later HB.out)
  have HT1 : Hid (Tq q w (w.alloc (.cells #[.int .i64 0, .int .i64 0, .int .u32 0] 46))) := Lib.hid (Turn.of_below _ HB.out (Nat.le_refl _))
  clear hq
  by_cases g1 : nok s 999999
  · have h1 := nok_tk g1
    have b1 := g1.2
    generalize (tk s).1 = n1 at *
    generalize (tk s).2.1 = r1 at *
    obtain ⟨_, _, l1⟩ := tk_len h1
    have H1 := Lib.hid (fun W hW => next_yes s 999999 n1 q r1 W hW hs h1 b1)
    by_cases g2 : nok r1 1048576
    · have h2 := nok_tk g2
      have b2 := g2.2
      generalize (tk r1).1 = n2 at *
      generalize (tk r1).2.1 = r2 at *
      obtain ⟨_, _, l2⟩ := tk_len h2
      have H2 := Lib.hid (fun W hW => next_yes r1 1048576 n2 q r2 W hW (by omega) h2 b2)
      have g3 : ¬ nok r2 4294967295 := fun g3 => h _ _ ⟨n1, n2, _, r1, r2, h1, b1, h2, b2, nok_tk g3, g3.2, rfl⟩
      have H3 := Lib.hid (fun W hW => next_no r2 4294967295 q W hW (by omega) g3)
      clear h g1 g2 g3 h1 h2 l1 l2
      go_enter Tryd.func47, Tryd.ntmps47
      go_wp2_with fail
      generalize w.alloc _ = w1 at *
      refine (H1.out _ HQ.out).mono ?_
      rintro e w2 ⟨rfl, hq2, t2⟩
      have HQ2 := Lib.hid hq2; have HT2 := Lib.hid (HT1.out.trans t2); clear hq2 t2
      go_wp2_with fail
      refine (H2.out _ HQ2.out).mono ?_
      rintro e w3 ⟨rfl, hq3, t3⟩
      have HQ3 := Lib.hid hq3; have HT3 := Lib.hid (HT2.out.trans t3); clear hq3 t3
      go_wp2_with fail
      refine (H3.out _ HQ3.out).mono ?_
      rintro e w4 ⟨rfl, t4⟩
      have HT4 := Lib.hid (HT3.out.trans t4); clear t4
      unfold mal
      go_wp2_with fail
      exact ⟨rfl, rfl, HT4.out⟩
    · have H2 := Lib.hid (fun W hW => next_no r1 1048576 q W hW (by omega) g2)
      clear h g1 g2 h1 l1
      go_enter Tryd.func47, Tryd.ntmps47
      go_wp2_with fail
      generalize w.alloc _ = w1 at *
      refine (H1.out _ HQ.out).mono ?_
      rintro e w2 ⟨rfl, hq2, t2⟩
      have HQ2 := Lib.hid hq2; have HT2 := Lib.hid (HT1.out.trans t2); clear hq2 t2
      go_wp2_with fail
      refine (H2.out _ HQ2.out).mono ?_
      rintro e w3 ⟨rfl, t3⟩
      have HT3 := Lib.hid (HT2.out.trans t3); clear t3
      unfold mal
      go_wp2_with fail
      exact ⟨rfl, rfl, HT3.out⟩
  · have H1 := Lib.hid (fun W hW => next_no s 999999 q W hW hs g1)
    clear h g1
    go_enter Tryd.func47, Tryd.ntmps47
    go_wp2_with fail
    generalize w.alloc _ = w1 at *
    refine (H1.out _ HQ.out).mono ?_
    rintro e w2 ⟨rfl, t2⟩
    have HT2 := Lib.hid (HT1.out.trans t2); clear t2
    unfold mal
    go_wp2_with fail
    exact ⟨rfl, rfl, HT2.out⟩
end Go.Proofs.YtbefhnpmilcffaaDoor.J
