/- call, with get. -/
import Derived.Test.YtadfajeiihonfaaMcall
namespace Go.Proofs.Ytadfajeiihonfaa
open Go.RowKit Go.Maps
set_option linter.unusedVariables false

set_option maxHeartbeats 1000000 in
theorem call_get_lost {B pb mb : Nat} {sv : Value} {S : Rs} {w : World} {n b : List UInt8} (h : Rk B w pb mb sv S) (hn : n.length ≤ maxLen)  (hc : S.n < 1000000000000) (hk : fateOf S = 1) :
    Calls Try.prog 21 #[.pointer (some ⟨pb, 0, none⟩), .func (.func 27) #[.pointer (some ⟨pb, 0, none⟩)] #[], .string (bs n), .string (bs b)] w (effPost B pb mb sv w (used S) [] 9) := by
  have hcl := h.ok.calls
  have h0 : Rk B (w.alloc (.cells #[.string ⟨#[]⟩, .slice none 0 0, .int .i64 0] 50)) pb mb sv S := h.below ((Below.refl _ w).alloc (Nat.le_refl _) _)
  obtain ⟨c0, c1, c2, fz⟩ := h0.cells
  have f2 := fz 2
  clear fz
  have hlt := h.lt.1
  have hs1 := h0.count hc
  rw [World.setCell_alloc_past _ pb 2 _ hlt] at hs1
  have hb0 : Below w.heap.size w (w.alloc (.cells #[.string ⟨#[]⟩, .slice none 0 0, .int .i64 0] 50)) := (Below.refl _ w).alloc (Nat.le_refl _) _
  have hbox : (w.alloc (.cells #[.string ⟨#[]⟩, .slice none 0 0, .int .i64 0] 50)).heap[w.heap.size]? = some (.cells #[.string ⟨#[]⟩, .slice none 0 0, .int .i64 0] 50 (0, 0)) := heap_alloc_new w _
  have HH := Lib.hid h; have HK := Lib.hid hk; have H1 := Lib.hid hs1; have HB0 := Lib.hid hb0; have HBX := Lib.hid hbox
  clear h hk hs1 hb0 hbox h0
  go_enter Try.func21, Try.ntmps21
  go_wp2_with fail
  obtain ⟨sv1, r1, f1, t1⟩ := H1.out
  refine (fate_any r1).mono ?_
  rintro e w2 ⟨rfl, hs2⟩
  rw [fate_counted]
  have hs : RkStep B pb mb sv (w.alloc (.cells #[.string ⟨#[]⟩, .slice none 0 0, .int .i64 0] 50)) (used S) w2 := by
    obtain ⟨sv2, r2, f2', t2⟩ := hs2
    exact ⟨sv2, r2, fun k hk => by
      rcases f2' k hk with hk | hk
      · exact f1 k hk
      · exact Or.inr (Nat.le_trans t1.size hk), t1.then t2 f1⟩
  clear hs2 f1 t1 r1
  obtain ⟨k0, k1⟩ := RkStep.boxed HH.out HB0.out hs (Nat.le_refl _) HBX.out
  have K0 := Lib.hid k0
  obtain ⟨⟨b0, b1, b2⟩, z0, z1, z2⟩ := box3 k0
  have K1 := Lib.hid (k1 (.string ⟨#[]⟩) (.slice none 0 0) (.int .i64 9))
  clear k0 k1 hs
  rw [HK.out]
  go_wp2_with fail
  have k0 := box3_set (u0 := .string ⟨#[]⟩) (u1 := .slice none 0 0) (u2 := .int .i64 9) K0.out
  have k1 := K1.out
  clear K1 K0
  generalize ((w2.setCell ⟨w.heap.size, 0, none⟩ (.string ⟨#[]⟩)).setCell ⟨w.heap.size, 1, none⟩ (.slice none 0 0)).setCell ⟨w.heap.size, 2, none⟩ (.int .i64 9) = W at k0 k1 ⊢
  obtain ⟨⟨d0, d1, d2⟩, _⟩ := box3 k0
  exact bodyPost_ret (v := answ [] (.slice none 0 0) 9) (by simp [results, Try.results21, go_sem, answ, d0, d1, d2]; rfl) rfl ⟨rfl, k1⟩

set_option maxHeartbeats 1000000 in
theorem call_get_late {B pb mb : Nat} {sv : Value} {S : Rs} {w : World} {n b : List UInt8} (h : Rk B w pb mb sv S) (hn : n.length ≤ maxLen)  (hc : S.n < 1000000000000) (hk : fateOf S = 2) :
    Calls Try.prog 21 #[.pointer (some ⟨pb, 0, none⟩), .func (.func 27) #[.pointer (some ⟨pb, 0, none⟩)] #[], .string (bs n), .string (bs b)] w (effPost B pb mb sv w (used S) [] 9) := by
  have hcl := h.ok.calls
  have h0 : Rk B (w.alloc (.cells #[.string ⟨#[]⟩, .slice none 0 0, .int .i64 0] 50)) pb mb sv S := h.below ((Below.refl _ w).alloc (Nat.le_refl _) _)
  obtain ⟨c0, c1, c2, fz⟩ := h0.cells
  have f2 := fz 2
  clear fz
  have hlt := h.lt.1
  have hs1 := h0.count hc
  rw [World.setCell_alloc_past _ pb 2 _ hlt] at hs1
  have hb0 : Below w.heap.size w (w.alloc (.cells #[.string ⟨#[]⟩, .slice none 0 0, .int .i64 0] 50)) := (Below.refl _ w).alloc (Nat.le_refl _) _
  have hbox : (w.alloc (.cells #[.string ⟨#[]⟩, .slice none 0 0, .int .i64 0] 50)).heap[w.heap.size]? = some (.cells #[.string ⟨#[]⟩, .slice none 0 0, .int .i64 0] 50 (0, 0)) := heap_alloc_new w _
  have HH := Lib.hid h; have HK := Lib.hid hk; have H1 := Lib.hid hs1; have HB0 := Lib.hid hb0; have HBX := Lib.hid hbox
  clear h hk hs1 hb0 hbox h0
  go_enter Try.func21, Try.ntmps21
  go_wp2_with fail
  obtain ⟨sv1, r1, f1, t1⟩ := H1.out
  refine (fate_any r1).mono ?_
  rintro e w2 ⟨rfl, hs2⟩
  rw [fate_counted]
  have hs : RkStep B pb mb sv (w.alloc (.cells #[.string ⟨#[]⟩, .slice none 0 0, .int .i64 0] 50)) (used S) w2 := by
    obtain ⟨sv2, r2, f2', t2⟩ := hs2
    exact ⟨sv2, r2, fun k hk => by
      rcases f2' k hk with hk | hk
      · exact f1 k hk
      · exact Or.inr (Nat.le_trans t1.size hk), t1.then t2 f1⟩
  clear hs2 f1 t1 r1
  rw [HK.out]
  obtain ⟨sv2, r2, f2, t2⟩ := hs
  go_wp2_with fail
  refine (show Calls Try.prog 27 _ w2 (effPost B pb mb sv2 w2 (used S) (getB S.obs n) (getE S.obs n)) from get_eff n b (S := used S) r2 hn).mono ?_
  rintro e w3 ⟨rfl, hs3⟩
  have hs : RkStep B pb mb sv (w.alloc (.cells #[.string ⟨#[]⟩, .slice none 0 0, .int .i64 0] 50)) (used S) w3 := by
    obtain ⟨sv3, r3, f3, t3⟩ := hs3
    exact ⟨sv3, r3, fun k hk => by
      rcases f3 k hk with hk | hk
      · exact f2 k hk
      · exact Or.inr (Nat.le_trans t2.size hk), t2.then t3 f2⟩
  clear hs3 f2 t2 r2
  obtain ⟨k0, k1⟩ := RkStep.boxed HH.out HB0.out hs (Nat.le_refl _) HBX.out
  have K0 := Lib.hid k0
  obtain ⟨⟨b0, b1, b2⟩, z0, z1, z2⟩ := box3 k0
  have K1 := Lib.hid (k1 (.string ⟨#[]⟩) (.slice none 0 0) (.int .i64 9))
  clear k0 k1 hs
  unfold answ
  go_wp2_with fail
  have k0 := box3_set (u0 := .string ⟨#[]⟩) (u1 := .slice none 0 0) (u2 := .int .i64 9) K0.out
  have k1 := K1.out
  clear K1 K0
  generalize ((w3.setCell ⟨w.heap.size, 0, none⟩ (.string ⟨#[]⟩)).setCell ⟨w.heap.size, 1, none⟩ (.slice none 0 0)).setCell ⟨w.heap.size, 2, none⟩ (.int .i64 9) = W at k0 k1 ⊢
  obtain ⟨⟨d0, d1, d2⟩, _⟩ := box3 k0
  exact bodyPost_ret (v := answ [] (.slice none 0 0) 9) (by simp [results, Try.results21, go_sem, answ, d0, d1, d2]; rfl) rfl ⟨rfl, k1⟩

set_option maxHeartbeats 1000000 in
theorem call_get_fine {B pb mb : Nat} {sv : Value} {S : Rs} {w : World} {n b : List UInt8} (h : Rk B w pb mb sv S) (hn : n.length ≤ maxLen)  (hc : S.n < 1000000000000) (hk : fateOf S ≠ 1 ∧ fateOf S ≠ 2) :
    Calls Try.prog 21 #[.pointer (some ⟨pb, 0, none⟩), .func (.func 27) #[.pointer (some ⟨pb, 0, none⟩)] #[], .string (bs n), .string (bs b)] w (effPost B pb mb sv w (used S) (getB S.obs n) (getE S.obs n)) := by
  have hcl := h.ok.calls
  have h0 : Rk B (w.alloc (.cells #[.string ⟨#[]⟩, .slice none 0 0, .int .i64 0] 50)) pb mb sv S := h.below ((Below.refl _ w).alloc (Nat.le_refl _) _)
  obtain ⟨c0, c1, c2, fz⟩ := h0.cells
  have f2 := fz 2
  clear fz
  have hlt := h.lt.1
  have hs1 := h0.count hc
  rw [World.setCell_alloc_past _ pb 2 _ hlt] at hs1
  have hb0 : Below w.heap.size w (w.alloc (.cells #[.string ⟨#[]⟩, .slice none 0 0, .int .i64 0] 50)) := (Below.refl _ w).alloc (Nat.le_refl _) _
  have hbox : (w.alloc (.cells #[.string ⟨#[]⟩, .slice none 0 0, .int .i64 0] 50)).heap[w.heap.size]? = some (.cells #[.string ⟨#[]⟩, .slice none 0 0, .int .i64 0] 50 (0, 0)) := heap_alloc_new w _
  have HH := Lib.hid h; have HK := Lib.hid hk; have H1 := Lib.hid hs1; have HB0 := Lib.hid hb0; have HBX := Lib.hid hbox
  clear h hk hs1 hb0 hbox h0
  go_enter Try.func21, Try.ntmps21
  go_wp2_with fail
  obtain ⟨sv1, r1, f1, t1⟩ := H1.out
  refine (fate_any r1).mono ?_
  rintro e w2 ⟨rfl, hs2⟩
  rw [fate_counted]
  have hs : RkStep B pb mb sv (w.alloc (.cells #[.string ⟨#[]⟩, .slice none 0 0, .int .i64 0] 50)) (used S) w2 := by
    obtain ⟨sv2, r2, f2', t2⟩ := hs2
    exact ⟨sv2, r2, fun k hk => by
      rcases f2' k hk with hk | hk
      · exact f1 k hk
      · exact Or.inr (Nat.le_trans t1.size hk), t1.then t2 f1⟩
  clear hs2 f1 t1 r1
  have q1 : (fateOf S == 1) = false := by simpa using HK.out.1
  have q2 : (fateOf S == 2) = false := by simpa using HK.out.2
  clear HK
  generalize fateOf S = fz at q1 q2 ⊢
  obtain ⟨sv2, r2, f2, t2⟩ := hs
  go_wp2_with fail
  refine (show Calls Try.prog 27 _ w2 (effPost B pb mb sv2 w2 (used S) (getB S.obs n) (getE S.obs n)) from get_eff n b (S := used S) r2 hn).mono ?_
  rintro e w3 ⟨rfl, hs3⟩
  have hs : RkStep B pb mb sv (w.alloc (.cells #[.string ⟨#[]⟩, .slice none 0 0, .int .i64 0] 50)) (used S) w3 := by
    obtain ⟨sv3, r3, f3, t3⟩ := hs3
    exact ⟨sv3, r3, fun k hk => by
      rcases f3 k hk with hk | hk
      · exact f2 k hk
      · exact Or.inr (Nat.le_trans t2.size hk), t2.then t3 f2⟩
  clear hs3 f2 t2 r2
  obtain ⟨k0, k1⟩ := RkStep.boxed HH.out HB0.out hs (Nat.le_refl _) HBX.out
  have K0 := Lib.hid k0
  obtain ⟨⟨b0, b1, b2⟩, z0, z1, z2⟩ := box3 k0
  have K1 := Lib.hid (k1 (.string (bs (getB S.obs n))) (.slice none 0 0) (.int .i64 (getE S.obs n)))
  clear k0 k1 hs
  unfold answ
  go_wp2_with fail
  have k0 := box3_set (u0 := .string (bs (getB S.obs n))) (u1 := .slice none 0 0) (u2 := .int .i64 (getE S.obs n)) K0.out
  have k1 := K1.out
  clear K1 K0
  generalize ((w3.setCell ⟨w.heap.size, 0, none⟩ (.string (bs (getB S.obs n)))).setCell ⟨w.heap.size, 1, none⟩ (.slice none 0 0)).setCell ⟨w.heap.size, 2, none⟩ (.int .i64 (getE S.obs n)) = W at k0 k1 ⊢
  obtain ⟨⟨d0, d1, d2⟩, _⟩ := box3 k0
  exact bodyPost_ret (v := answ (getB S.obs n) (.slice none 0 0) (getE S.obs n)) (by simp [results, Try.results21, go_sem, answ, d0, d1, d2]) rfl ⟨rfl, k1⟩
end Go.Proofs.Ytadfajeiihonfaa
