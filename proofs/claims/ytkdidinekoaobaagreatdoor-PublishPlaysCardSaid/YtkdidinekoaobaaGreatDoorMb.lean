/- Merged out of 8 texts, in build order: Mcallput, McallputNew, Mcallget, Mcallremove, Mcalls, Mlist, Mlists, Mlistm. -/
import Derived.Test.YtkdidinekoaobaaGreatDoorMa

/- call, with put. -/
namespace Go.Proofs.YtkdidinekoaobaaGreatDoor.M
open Go.RowKit Go.Maps
set_option linter.unusedVariables false

set_option maxHeartbeats 1000000 in
theorem call_put_lost {B pb mb : Nat} {sv : Value} {S : Rs} {w : World} {n b : List UInt8} (h : Rk B w pb mb sv S) (hn : n.length ≤ maxLen) (hf : S.obs.length < 1000000000) (hc : S.n < 1000000000000) (hk : fateOf S = 1) :
    Calls Tryz.prog 50 #[.pointer (some ⟨pb, 0, none⟩), .func (.func 51) #[.pointer (some ⟨pb, 0, none⟩)] #[], .string (bs n), .string (bs b)] w (effPost B pb mb sv w (used S) [] 9) := by
  have hcl := h.ok.calls
  have h0 : Rk B (w.alloc (.cells #[.string ⟨#[]⟩, .slice none 0 0, .int .i64 0] 95)) pb mb sv S := h.below ((Below.refl _ w).alloc (Nat.le_refl _) _)
  obtain ⟨c0, c1, c2, fz⟩ := h0.cells
  have f2 := fz 2
  clear fz
  have hlt := h.lt.1
  have hs1 := h0.count hc
  rw [World.setCell_alloc_past _ pb 2 _ hlt] at hs1
  have hb0 : Below w.heap.size w (w.alloc (.cells #[.string ⟨#[]⟩, .slice none 0 0, .int .i64 0] 95)) := (Below.refl _ w).alloc (Nat.le_refl _) _
  have hbox : (w.alloc (.cells #[.string ⟨#[]⟩, .slice none 0 0, .int .i64 0] 95)).heap[w.heap.size]? = some (.cells #[.string ⟨#[]⟩, .slice none 0 0, .int .i64 0] 95 (0, 0)) := heap_alloc_new w _
  have HH := Lib.hid h; have HK := Lib.hid hk; have H1 := Lib.hid hs1; have HB0 := Lib.hid hb0; have HBX := Lib.hid hbox
  clear h hk hs1 hb0 hbox h0
  go_enter Tryz.func50, Tryz.ntmps50
  go_wp2_with fail
  obtain ⟨sv1, r1, f1, t1⟩ := H1.out
  refine (fate_any r1).mono ?_
  rintro e w2 ⟨rfl, hs2⟩
  rw [fate_counted]
  have hs : RkStep B pb mb sv (w.alloc (.cells #[.string ⟨#[]⟩, .slice none 0 0, .int .i64 0] 95)) (used S) w2 := by
    obtain ⟨sv2, r2, f2', t2⟩ := hs2
    exact ⟨sv2, r2, fun k hk => f1 k (f2' k hk), t1.then t2 (fun k hk => Or.inl (f1 k hk))⟩
  clear hs2 f1 t1 r1
  obtain ⟨k0, k1⟩ := RkStep.boxed HH.out HB0.out hs (Nat.le_refl _) HBX.out
  have K0 := Lib.hid k0
  obtain ⟨⟨b0, b1, b2⟩, z0, z1, z2⟩ := box3 k0
  have K1 := Lib.hid (k1 (.string ⟨#[]⟩) (.slice none 0 0) (.int .i64 9))
  clear k0 k1 hs
  rw [HK.out]
  go_wp2_with fail
  have k0 := box3_set (u0 := .string ⟨#[]⟩) (u1 := .slice none 0 0) (u2 := .int .i64 9) K0.out
  have k1 := K1.out
  clear K1 K0
  generalize ((w2.setCell ⟨w.heap.size, 0, none⟩ (.string ⟨#[]⟩)).setCell ⟨w.heap.size, 1, none⟩ (.slice none 0 0)).setCell ⟨w.heap.size, 2, none⟩ (.int .i64 9) = W at k0 k1 ⊢
  obtain ⟨⟨d0, d1, d2⟩, _⟩ := box3 k0
  exact bodyPost_ret (v := answ [] (.slice none 0 0) 9) (by simp [results, Tryz.results50, go_sem, answ, d0, d1, d2]; rfl) rfl ⟨rfl, k1⟩

set_option maxHeartbeats 1000000 in
theorem call_put_late {B pb mb : Nat} {sv : Value} {S : Rs} {w : World} {n b : List UInt8} (h : Rk B w pb mb sv S) (hn : n.length ≤ maxLen) (hf : S.obs.length < 1000000000) (hc : S.n < 1000000000000) (hk : fateOf S = 2) :
    Calls Tryz.prog 50 #[.pointer (some ⟨pb, 0, none⟩), .func (.func 51) #[.pointer (some ⟨pb, 0, none⟩)] #[], .string (bs n), .string (bs b)] w (effPost B pb mb sv w ({ used S with obs := lays S.obs n b }) [] 9) := by
  have hcl := h.ok.calls
  have h0 : Rk B (w.alloc (.cells #[.string ⟨#[]⟩, .slice none 0 0, .int .i64 0] 95)) pb mb sv S := h.below ((Below.refl _ w).alloc (Nat.le_refl _) _)
  obtain ⟨c0, c1, c2, fz⟩ := h0.cells
  have f2 := fz 2
  clear fz
  have hlt := h.lt.1
  have hs1 := h0.count hc
  rw [World.setCell_alloc_past _ pb 2 _ hlt] at hs1
  have hb0 : Below w.heap.size w (w.alloc (.cells #[.string ⟨#[]⟩, .slice none 0 0, .int .i64 0] 95)) := (Below.refl _ w).alloc (Nat.le_refl _) _
  have hbox : (w.alloc (.cells #[.string ⟨#[]⟩, .slice none 0 0, .int .i64 0] 95)).heap[w.heap.size]? = some (.cells #[.string ⟨#[]⟩, .slice none 0 0, .int .i64 0] 95 (0, 0)) := heap_alloc_new w _
  have HH := Lib.hid h; have HK := Lib.hid hk; have H1 := Lib.hid hs1; have HB0 := Lib.hid hb0; have HBX := Lib.hid hbox
  clear h hk hs1 hb0 hbox h0
  go_enter Tryz.func50, Tryz.ntmps50
  go_wp2_with fail
  obtain ⟨sv1, r1, f1, t1⟩ := H1.out
  refine (fate_any r1).mono ?_
  rintro e w2 ⟨rfl, hs2⟩
  rw [fate_counted]
  have hs : RkStep B pb mb sv (w.alloc (.cells #[.string ⟨#[]⟩, .slice none 0 0, .int .i64 0] 95)) (used S) w2 := by
    obtain ⟨sv2, r2, f2', t2⟩ := hs2
    exact ⟨sv2, r2, fun k hk => f1 k (f2' k hk), t1.then t2 (fun k hk => Or.inl (f1 k hk))⟩
  clear hs2 f1 t1 r1
  rw [HK.out]
  obtain ⟨sv2, r2, f2, t2⟩ := hs
  go_wp2_with fail
  refine (show Calls Tryz.prog 51 _ w2 (effPost B pb mb sv2 w2 ({ used S with obs := lays S.obs n b }) [] 0) from put_any (b := b) (S := used S) r2 hn hf).mono ?_
  rintro e w3 ⟨rfl, hs3⟩
  have hs : RkStep B pb mb sv (w.alloc (.cells #[.string ⟨#[]⟩, .slice none 0 0, .int .i64 0] 95)) ({ used S with obs := lays S.obs n b }) w3 := by
    obtain ⟨sv3, r3, f3, t3⟩ := hs3
    exact ⟨sv3, r3, fun k hk => f2 k (f3 k hk), t2.then t3 (fun k hk => Or.inl (f2 k hk))⟩
  clear hs3 f2 t2 r2
  obtain ⟨k0, k1⟩ := RkStep.boxed HH.out HB0.out hs (Nat.le_refl _) HBX.out
  have K0 := Lib.hid k0
  obtain ⟨⟨b0, b1, b2⟩, z0, z1, z2⟩ := box3 k0
  have K1 := Lib.hid (k1 (.string ⟨#[]⟩) (.slice none 0 0) (.int .i64 9))
  clear k0 k1 hs
  unfold answ
  go_wp2_with fail
  have k0 := box3_set (u0 := .string ⟨#[]⟩) (u1 := .slice none 0 0) (u2 := .int .i64 9) K0.out
  have k1 := K1.out
  clear K1 K0
  generalize ((w3.setCell ⟨w.heap.size, 0, none⟩ (.string ⟨#[]⟩)).setCell ⟨w.heap.size, 1, none⟩ (.slice none 0 0)).setCell ⟨w.heap.size, 2, none⟩ (.int .i64 9) = W at k0 k1 ⊢
  obtain ⟨⟨d0, d1, d2⟩, _⟩ := box3 k0
  exact bodyPost_ret (v := answ [] (.slice none 0 0) 9) (by simp [results, Tryz.results50, go_sem, answ, d0, d1, d2]; rfl) rfl ⟨rfl, k1⟩

set_option maxHeartbeats 1000000 in
theorem call_put_fine {B pb mb : Nat} {sv : Value} {S : Rs} {w : World} {n b : List UInt8} (h : Rk B w pb mb sv S) (hn : n.length ≤ maxLen) (hf : S.obs.length < 1000000000) (hc : S.n < 1000000000000) (hk : fateOf S ≠ 1 ∧ fateOf S ≠ 2) :
    Calls Tryz.prog 50 #[.pointer (some ⟨pb, 0, none⟩), .func (.func 51) #[.pointer (some ⟨pb, 0, none⟩)] #[], .string (bs n), .string (bs b)] w (effPost B pb mb sv w ({ used S with obs := lays S.obs n b }) [] 0) := by
  have hcl := h.ok.calls
  have h0 : Rk B (w.alloc (.cells #[.string ⟨#[]⟩, .slice none 0 0, .int .i64 0] 95)) pb mb sv S := h.below ((Below.refl _ w).alloc (Nat.le_refl _) _)
  obtain ⟨c0, c1, c2, fz⟩ := h0.cells
  have f2 := fz 2
  clear fz
  have hlt := h.lt.1
  have hs1 := h0.count hc
  rw [World.setCell_alloc_past _ pb 2 _ hlt] at hs1
  have hb0 : Below w.heap.size w (w.alloc (.cells #[.string ⟨#[]⟩, .slice none 0 0, .int .i64 0] 95)) := (Below.refl _ w).alloc (Nat.le_refl _) _
  have hbox : (w.alloc (.cells #[.string ⟨#[]⟩, .slice none 0 0, .int .i64 0] 95)).heap[w.heap.size]? = some (.cells #[.string ⟨#[]⟩, .slice none 0 0, .int .i64 0] 95 (0, 0)) := heap_alloc_new w _
  have HH := Lib.hid h; have HK := Lib.hid hk; have H1 := Lib.hid hs1; have HB0 := Lib.hid hb0; have HBX := Lib.hid hbox
  clear h hk hs1 hb0 hbox h0
  go_enter Tryz.func50, Tryz.ntmps50
  go_wp2_with fail
  obtain ⟨sv1, r1, f1, t1⟩ := H1.out
  refine (fate_any r1).mono ?_
  rintro e w2 ⟨rfl, hs2⟩
  rw [fate_counted]
  have hs : RkStep B pb mb sv (w.alloc (.cells #[.string ⟨#[]⟩, .slice none 0 0, .int .i64 0] 95)) (used S) w2 := by
    obtain ⟨sv2, r2, f2', t2⟩ := hs2
    exact ⟨sv2, r2, fun k hk => f1 k (f2' k hk), t1.then t2 (fun k hk => Or.inl (f1 k hk))⟩
  clear hs2 f1 t1 r1
  have q1 : (fateOf S == 1) = false := by simpa using HK.out.1
  have q2 : (fateOf S == 2) = false := by simpa using HK.out.2
  clear HK
  generalize fateOf S = fz at q1 q2 ⊢
  obtain ⟨sv2, r2, f2, t2⟩ := hs
  go_wp2_with fail
  refine (show Calls Tryz.prog 51 _ w2 (effPost B pb mb sv2 w2 ({ used S with obs := lays S.obs n b }) [] 0) from put_any (b := b) (S := used S) r2 hn hf).mono ?_
  rintro e w3 ⟨rfl, hs3⟩
  have hs : RkStep B pb mb sv (w.alloc (.cells #[.string ⟨#[]⟩, .slice none 0 0, .int .i64 0] 95)) ({ used S with obs := lays S.obs n b }) w3 := by
    obtain ⟨sv3, r3, f3, t3⟩ := hs3
    exact ⟨sv3, r3, fun k hk => f2 k (f3 k hk), t2.then t3 (fun k hk => Or.inl (f2 k hk))⟩
  clear hs3 f2 t2 r2
  obtain ⟨k0, k1⟩ := RkStep.boxed HH.out HB0.out hs (Nat.le_refl _) HBX.out
  have K0 := Lib.hid k0
  obtain ⟨⟨b0, b1, b2⟩, z0, z1, z2⟩ := box3 k0
  have K1 := Lib.hid (k1 (.string (bs [])) (.slice none 0 0) (.int .i64 0))
  clear k0 k1 hs
  unfold answ
  go_wp2_with fail
  have k0 := box3_set (u0 := .string (bs [])) (u1 := .slice none 0 0) (u2 := .int .i64 0) K0.out
  have k1 := K1.out
  clear K1 K0
  generalize ((w3.setCell ⟨w.heap.size, 0, none⟩ (.string (bs []))).setCell ⟨w.heap.size, 1, none⟩ (.slice none 0 0)).setCell ⟨w.heap.size, 2, none⟩ (.int .i64 0) = W at k0 k1 ⊢
  obtain ⟨⟨d0, d1, d2⟩, _⟩ := box3 k0
  exact bodyPost_ret (v := answ [] (.slice none 0 0) 0) (by simp [results, Tryz.results50, go_sem, answ, d0, d1, d2]) rfl ⟨rfl, k1⟩
end Go.Proofs.YtkdidinekoaobaaGreatDoor.M

/- call, with putNew. -/
namespace Go.Proofs.YtkdidinekoaobaaGreatDoor.M
open Go.RowKit Go.Maps
set_option linter.unusedVariables false

set_option maxHeartbeats 1000000 in
theorem call_putNew_lost {B pb mb : Nat} {sv : Value} {S : Rs} {w : World} {n b : List UInt8} (h : Rk B w pb mb sv S) (hn : n.length ≤ maxLen) (hf : S.obs.length < 1000000000) (hc : S.n < 1000000000000) (hk : fateOf S = 1) :
    Calls Tryz.prog 50 #[.pointer (some ⟨pb, 0, none⟩), .func (.func 99) #[.pointer (some ⟨pb, 0, none⟩)] #[], .string (bs n), .string (bs b)] w (effPost B pb mb sv w (used S) [] 9) := by
  have hcl := h.ok.calls
  have h0 : Rk B (w.alloc (.cells #[.string ⟨#[]⟩, .slice none 0 0, .int .i64 0] 95)) pb mb sv S := h.below ((Below.refl _ w).alloc (Nat.le_refl _) _)
  obtain ⟨c0, c1, c2, fz⟩ := h0.cells
  have f2 := fz 2
  clear fz
  have hlt := h.lt.1
  have hs1 := h0.count hc
  rw [World.setCell_alloc_past _ pb 2 _ hlt] at hs1
  have hb0 : Below w.heap.size w (w.alloc (.cells #[.string ⟨#[]⟩, .slice none 0 0, .int .i64 0] 95)) := (Below.refl _ w).alloc (Nat.le_refl _) _
  have hbox : (w.alloc (.cells #[.string ⟨#[]⟩, .slice none 0 0, .int .i64 0] 95)).heap[w.heap.size]? = some (.cells #[.string ⟨#[]⟩, .slice none 0 0, .int .i64 0] 95 (0, 0)) := heap_alloc_new w _
  have HH := Lib.hid h; have HK := Lib.hid hk; have H1 := Lib.hid hs1; have HB0 := Lib.hid hb0; have HBX := Lib.hid hbox
  clear h hk hs1 hb0 hbox h0
  go_enter Tryz.func50, Tryz.ntmps50
  go_wp2_with fail
  obtain ⟨sv1, r1, f1, t1⟩ := H1.out
  refine (fate_any r1).mono ?_
  rintro e w2 ⟨rfl, hs2⟩
  rw [fate_counted]
  have hs : RkStep B pb mb sv (w.alloc (.cells #[.string ⟨#[]⟩, .slice none 0 0, .int .i64 0] 95)) (used S) w2 := by
    obtain ⟨sv2, r2, f2', t2⟩ := hs2
    exact ⟨sv2, r2, fun k hk => f1 k (f2' k hk), t1.then t2 (fun k hk => Or.inl (f1 k hk))⟩
  clear hs2 f1 t1 r1
  obtain ⟨k0, k1⟩ := RkStep.boxed HH.out HB0.out hs (Nat.le_refl _) HBX.out
  have K0 := Lib.hid k0
  obtain ⟨⟨b0, b1, b2⟩, z0, z1, z2⟩ := box3 k0
  have K1 := Lib.hid (k1 (.string ⟨#[]⟩) (.slice none 0 0) (.int .i64 9))
  clear k0 k1 hs
  rw [HK.out]
  go_wp2_with fail
  have k0 := box3_set (u0 := .string ⟨#[]⟩) (u1 := .slice none 0 0) (u2 := .int .i64 9) K0.out
  have k1 := K1.out
  clear K1 K0
  generalize ((w2.setCell ⟨w.heap.size, 0, none⟩ (.string ⟨#[]⟩)).setCell ⟨w.heap.size, 1, none⟩ (.slice none 0 0)).setCell ⟨w.heap.size, 2, none⟩ (.int .i64 9) = W at k0 k1 ⊢
  obtain ⟨⟨d0, d1, d2⟩, _⟩ := box3 k0
  exact bodyPost_ret (v := answ [] (.slice none 0 0) 9) (by simp [results, Tryz.results50, go_sem, answ, d0, d1, d2]; rfl) rfl ⟨rfl, k1⟩

set_option maxHeartbeats 1000000 in
theorem call_putNew_late {B pb mb : Nat} {sv : Value} {S : Rs} {w : World} {n b : List UInt8} (h : Rk B w pb mb sv S) (hn : n.length ≤ maxLen) (hf : S.obs.length < 1000000000) (hc : S.n < 1000000000000) (hk : fateOf S = 2) :
    Calls Tryz.prog 50 #[.pointer (some ⟨pb, 0, none⟩), .func (.func 99) #[.pointer (some ⟨pb, 0, none⟩)] #[], .string (bs n), .string (bs b)] w (effPost B pb mb sv w ({ used S with obs := newL S.obs n b }) [] 9) := by
  have hcl := h.ok.calls
  have h0 : Rk B (w.alloc (.cells #[.string ⟨#[]⟩, .slice none 0 0, .int .i64 0] 95)) pb mb sv S := h.below ((Below.refl _ w).alloc (Nat.le_refl _) _)
  obtain ⟨c0, c1, c2, fz⟩ := h0.cells
  have f2 := fz 2
  clear fz
  have hlt := h.lt.1
  have hs1 := h0.count hc
  rw [World.setCell_alloc_past _ pb 2 _ hlt] at hs1
  have hb0 : Below w.heap.size w (w.alloc (.cells #[.string ⟨#[]⟩, .slice none 0 0, .int .i64 0] 95)) := (Below.refl _ w).alloc (Nat.le_refl _) _
  have hbox : (w.alloc (.cells #[.string ⟨#[]⟩, .slice none 0 0, .int .i64 0] 95)).heap[w.heap.size]? = some (.cells #[.string ⟨#[]⟩, .slice none 0 0, .int .i64 0] 95 (0, 0)) := heap_alloc_new w _
  have HH := Lib.hid h; have HK := Lib.hid hk; have H1 := Lib.hid hs1; have HB0 := Lib.hid hb0; have HBX := Lib.hid hbox
  clear h hk hs1 hb0 hbox h0
  go_enter Tryz.func50, Tryz.ntmps50
  go_wp2_with fail
  obtain ⟨sv1, r1, f1, t1⟩ := H1.out
  refine (fate_any r1).mono ?_
  rintro e w2 ⟨rfl, hs2⟩
  rw [fate_counted]
  have hs : RkStep B pb mb sv (w.alloc (.cells #[.string ⟨#[]⟩, .slice none 0 0, .int .i64 0] 95)) (used S) w2 := by
    obtain ⟨sv2, r2, f2', t2⟩ := hs2
    exact ⟨sv2, r2, fun k hk => f1 k (f2' k hk), t1.then t2 (fun k hk => Or.inl (f1 k hk))⟩
  clear hs2 f1 t1 r1
  rw [HK.out]
  obtain ⟨sv2, r2, f2, t2⟩ := hs
  go_wp2_with fail
  refine (show Calls Tryz.prog 99 _ w2 (effPost B pb mb sv2 w2 ({ used S with obs := newL S.obs n b }) [] (newE S.obs n)) from putNew_eff n b (S := used S) r2 hn hf).mono ?_
  rintro e w3 ⟨rfl, hs3⟩
  have hs : RkStep B pb mb sv (w.alloc (.cells #[.string ⟨#[]⟩, .slice none 0 0, .int .i64 0] 95)) ({ used S with obs := newL S.obs n b }) w3 := by
    obtain ⟨sv3, r3, f3, t3⟩ := hs3
    exact ⟨sv3, r3, fun k hk => f2 k (f3 k hk), t2.then t3 (fun k hk => Or.inl (f2 k hk))⟩
  clear hs3 f2 t2 r2
  obtain ⟨k0, k1⟩ := RkStep.boxed HH.out HB0.out hs (Nat.le_refl _) HBX.out
  have K0 := Lib.hid k0
  obtain ⟨⟨b0, b1, b2⟩, z0, z1, z2⟩ := box3 k0
  have K1 := Lib.hid (k1 (.string ⟨#[]⟩) (.slice none 0 0) (.int .i64 9))
  clear k0 k1 hs
  unfold answ
  go_wp2_with fail
  have k0 := box3_set (u0 := .string ⟨#[]⟩) (u1 := .slice none 0 0) (u2 := .int .i64 9) K0.out
  have k1 := K1.out
  clear K1 K0
  generalize ((w3.setCell ⟨w.heap.size, 0, none⟩ (.string ⟨#[]⟩)).setCell ⟨w.heap.size, 1, none⟩ (.slice none 0 0)).setCell ⟨w.heap.size, 2, none⟩ (.int .i64 9) = W at k0 k1 ⊢
  obtain ⟨⟨d0, d1, d2⟩, _⟩ := box3 k0
  exact bodyPost_ret (v := answ [] (.slice none 0 0) 9) (by simp [results, Tryz.results50, go_sem, answ, d0, d1, d2]; rfl) rfl ⟨rfl, k1⟩

set_option maxHeartbeats 1000000 in
theorem call_putNew_fine {B pb mb : Nat} {sv : Value} {S : Rs} {w : World} {n b : List UInt8} (h : Rk B w pb mb sv S) (hn : n.length ≤ maxLen) (hf : S.obs.length < 1000000000) (hc : S.n < 1000000000000) (hk : fateOf S ≠ 1 ∧ fateOf S ≠ 2) :
    Calls Tryz.prog 50 #[.pointer (some ⟨pb, 0, none⟩), .func (.func 99) #[.pointer (some ⟨pb, 0, none⟩)] #[], .string (bs n), .string (bs b)] w (effPost B pb mb sv w ({ used S with obs := newL S.obs n b }) [] (newE S.obs n)) := by
  have hcl := h.ok.calls
  have h0 : Rk B (w.alloc (.cells #[.string ⟨#[]⟩, .slice none 0 0, .int .i64 0] 95)) pb mb sv S := h.below ((Below.refl _ w).alloc (Nat.le_refl _) _)
  obtain ⟨c0, c1, c2, fz⟩ := h0.cells
  have f2 := fz 2
  clear fz
  have hlt := h.lt.1
  have hs1 := h0.count hc
  rw [World.setCell_alloc_past _ pb 2 _ hlt] at hs1
  have hb0 : Below w.heap.size w (w.alloc (.cells #[.string ⟨#[]⟩, .slice none 0 0, .int .i64 0] 95)) := (Below.refl _ w).alloc (Nat.le_refl _) _
  have hbox : (w.alloc (.cells #[.string ⟨#[]⟩, .slice none 0 0, .int .i64 0] 95)).heap[w.heap.size]? = some (.cells #[.string ⟨#[]⟩, .slice none 0 0, .int .i64 0] 95 (0, 0)) := heap_alloc_new w _
  have HH := Lib.hid h; have HK := Lib.hid hk; have H1 := Lib.hid hs1; have HB0 := Lib.hid hb0; have HBX := Lib.hid hbox
  clear h hk hs1 hb0 hbox h0
  go_enter Tryz.func50, Tryz.ntmps50
  go_wp2_with fail
  obtain ⟨sv1, r1, f1, t1⟩ := H1.out
  refine (fate_any r1).mono ?_
  rintro e w2 ⟨rfl, hs2⟩
  rw [fate_counted]
  have hs : RkStep B pb mb sv (w.alloc (.cells #[.string ⟨#[]⟩, .slice none 0 0, .int .i64 0] 95)) (used S) w2 := by
    obtain ⟨sv2, r2, f2', t2⟩ := hs2
    exact ⟨sv2, r2, fun k hk => f1 k (f2' k hk), t1.then t2 (fun k hk => Or.inl (f1 k hk))⟩
  clear hs2 f1 t1 r1
  have q1 : (fateOf S == 1) = false := by simpa using HK.out.1
  have q2 : (fateOf S == 2) = false := by simpa using HK.out.2
  clear HK
  generalize fateOf S = fz at q1 q2 ⊢
  obtain ⟨sv2, r2, f2, t2⟩ := hs
  go_wp2_with fail
  refine (show Calls Tryz.prog 99 _ w2 (effPost B pb mb sv2 w2 ({ used S with obs := newL S.obs n b }) [] (newE S.obs n)) from putNew_eff n b (S := used S) r2 hn hf).mono ?_
  rintro e w3 ⟨rfl, hs3⟩
  have hs : RkStep B pb mb sv (w.alloc (.cells #[.string ⟨#[]⟩, .slice none 0 0, .int .i64 0] 95)) ({ used S with obs := newL S.obs n b }) w3 := by
    obtain ⟨sv3, r3, f3, t3⟩ := hs3
    exact ⟨sv3, r3, fun k hk => f2 k (f3 k hk), t2.then t3 (fun k hk => Or.inl (f2 k hk))⟩
  clear hs3 f2 t2 r2
  obtain ⟨k0, k1⟩ := RkStep.boxed HH.out HB0.out hs (Nat.le_refl _) HBX.out
  have K0 := Lib.hid k0
  obtain ⟨⟨b0, b1, b2⟩, z0, z1, z2⟩ := box3 k0
  have K1 := Lib.hid (k1 (.string (bs [])) (.slice none 0 0) (.int .i64 (newE S.obs n)))
  clear k0 k1 hs
  unfold answ
  go_wp2_with fail
  have k0 := box3_set (u0 := .string (bs [])) (u1 := .slice none 0 0) (u2 := .int .i64 (newE S.obs n)) K0.out
  have k1 := K1.out
  clear K1 K0
  generalize ((w3.setCell ⟨w.heap.size, 0, none⟩ (.string (bs []))).setCell ⟨w.heap.size, 1, none⟩ (.slice none 0 0)).setCell ⟨w.heap.size, 2, none⟩ (.int .i64 (newE S.obs n)) = W at k0 k1 ⊢
  obtain ⟨⟨d0, d1, d2⟩, _⟩ := box3 k0
  exact bodyPost_ret (v := answ [] (.slice none 0 0) (newE S.obs n)) (by simp [results, Tryz.results50, go_sem, answ, d0, d1, d2]) rfl ⟨rfl, k1⟩
end Go.Proofs.YtkdidinekoaobaaGreatDoor.M

/- call, with get. -/
namespace Go.Proofs.YtkdidinekoaobaaGreatDoor.M
open Go.RowKit Go.Maps
set_option linter.unusedVariables false

set_option maxHeartbeats 1000000 in
theorem call_get_lost {B pb mb : Nat} {sv : Value} {S : Rs} {w : World} {n b : List UInt8} (h : Rk B w pb mb sv S) (hn : n.length ≤ maxLen)  (hc : S.n < 1000000000000) (hk : fateOf S = 1) :
    Calls Tryz.prog 50 #[.pointer (some ⟨pb, 0, none⟩), .func (.func 83) #[.pointer (some ⟨pb, 0, none⟩)] #[], .string (bs n), .string (bs b)] w (effPost B pb mb sv w (used S) [] 9) := by
  have hcl := h.ok.calls
  have h0 : Rk B (w.alloc (.cells #[.string ⟨#[]⟩, .slice none 0 0, .int .i64 0] 95)) pb mb sv S := h.below ((Below.refl _ w).alloc (Nat.le_refl _) _)
  obtain ⟨c0, c1, c2, fz⟩ := h0.cells
  have f2 := fz 2
  clear fz
  have hlt := h.lt.1
  have hs1 := h0.count hc
  rw [World.setCell_alloc_past _ pb 2 _ hlt] at hs1
  have hb0 : Below w.heap.size w (w.alloc (.cells #[.string ⟨#[]⟩, .slice none 0 0, .int .i64 0] 95)) := (Below.refl _ w).alloc (Nat.le_refl _) _
  have hbox : (w.alloc (.cells #[.string ⟨#[]⟩, .slice none 0 0, .int .i64 0] 95)).heap[w.heap.size]? = some (.cells #[.string ⟨#[]⟩, .slice none 0 0, .int .i64 0] 95 (0, 0)) := heap_alloc_new w _
  have HH := Lib.hid h; have HK := Lib.hid hk; have H1 := Lib.hid hs1; have HB0 := Lib.hid hb0; have HBX := Lib.hid hbox
  clear h hk hs1 hb0 hbox h0
  go_enter Tryz.func50, Tryz.ntmps50
  go_wp2_with fail
  obtain ⟨sv1, r1, f1, t1⟩ := H1.out
  refine (fate_any r1).mono ?_
  rintro e w2 ⟨rfl, hs2⟩
  rw [fate_counted]
  have hs : RkStep B pb mb sv (w.alloc (.cells #[.string ⟨#[]⟩, .slice none 0 0, .int .i64 0] 95)) (used S) w2 := by
    obtain ⟨sv2, r2, f2', t2⟩ := hs2
    exact ⟨sv2, r2, fun k hk => f1 k (f2' k hk), t1.then t2 (fun k hk => Or.inl (f1 k hk))⟩
  clear hs2 f1 t1 r1
  obtain ⟨k0, k1⟩ := RkStep.boxed HH.out HB0.out hs (Nat.le_refl _) HBX.out
  have K0 := Lib.hid k0
  obtain ⟨⟨b0, b1, b2⟩, z0, z1, z2⟩ := box3 k0
  have K1 := Lib.hid (k1 (.string ⟨#[]⟩) (.slice none 0 0) (.int .i64 9))
  clear k0 k1 hs
  rw [HK.out]
  go_wp2_with fail
  have k0 := box3_set (u0 := .string ⟨#[]⟩) (u1 := .slice none 0 0) (u2 := .int .i64 9) K0.out
  have k1 := K1.out
  clear K1 K0
  generalize ((w2.setCell ⟨w.heap.size, 0, none⟩ (.string ⟨#[]⟩)).setCell ⟨w.heap.size, 1, none⟩ (.slice none 0 0)).setCell ⟨w.heap.size, 2, none⟩ (.int .i64 9) = W at k0 k1 ⊢
  obtain ⟨⟨d0, d1, d2⟩, _⟩ := box3 k0
  exact bodyPost_ret (v := answ [] (.slice none 0 0) 9) (by simp [results, Tryz.results50, go_sem, answ, d0, d1, d2]; rfl) rfl ⟨rfl, k1⟩

set_option maxHeartbeats 1000000 in
theorem call_get_late {B pb mb : Nat} {sv : Value} {S : Rs} {w : World} {n b : List UInt8} (h : Rk B w pb mb sv S) (hn : n.length ≤ maxLen)  (hc : S.n < 1000000000000) (hk : fateOf S = 2) :
    Calls Tryz.prog 50 #[.pointer (some ⟨pb, 0, none⟩), .func (.func 83) #[.pointer (some ⟨pb, 0, none⟩)] #[], .string (bs n), .string (bs b)] w (effPost B pb mb sv w (used S) [] 9) := by
  have hcl := h.ok.calls
  have h0 : Rk B (w.alloc (.cells #[.string ⟨#[]⟩, .slice none 0 0, .int .i64 0] 95)) pb mb sv S := h.below ((Below.refl _ w).alloc (Nat.le_refl _) _)
  obtain ⟨c0, c1, c2, fz⟩ := h0.cells
  have f2 := fz 2
  clear fz
  have hlt := h.lt.1
  have hs1 := h0.count hc
  rw [World.setCell_alloc_past _ pb 2 _ hlt] at hs1
  have hb0 : Below w.heap.size w (w.alloc (.cells #[.string ⟨#[]⟩, .slice none 0 0, .int .i64 0] 95)) := (Below.refl _ w).alloc (Nat.le_refl _) _
  have hbox : (w.alloc (.cells #[.string ⟨#[]⟩, .slice none 0 0, .int .i64 0] 95)).heap[w.heap.size]? = some (.cells #[.string ⟨#[]⟩, .slice none 0 0, .int .i64 0] 95 (0, 0)) := heap_alloc_new w _
  have HH := Lib.hid h; have HK := Lib.hid hk; have H1 := Lib.hid hs1; have HB0 := Lib.hid hb0; have HBX := Lib.hid hbox
  clear h hk hs1 hb0 hbox h0
  go_enter Tryz.func50, Tryz.ntmps50
  go_wp2_with fail
  obtain ⟨sv1, r1, f1, t1⟩ := H1.out
  refine (fate_any r1).mono ?_
  rintro e w2 ⟨rfl, hs2⟩
  rw [fate_counted]
  have hs : RkStep B pb mb sv (w.alloc (.cells #[.string ⟨#[]⟩, .slice none 0 0, .int .i64 0] 95)) (used S) w2 := by
    obtain ⟨sv2, r2, f2', t2⟩ := hs2
    exact ⟨sv2, r2, fun k hk => f1 k (f2' k hk), t1.then t2 (fun k hk => Or.inl (f1 k hk))⟩
  clear hs2 f1 t1 r1
  rw [HK.out]
  obtain ⟨sv2, r2, f2, t2⟩ := hs
  go_wp2_with fail
  refine (show Calls Tryz.prog 83 _ w2 (effPost B pb mb sv2 w2 (used S) (getB S.obs n) (getE S.obs n)) from get_eff n b (S := used S) r2 hn).mono ?_
  rintro e w3 ⟨rfl, hs3⟩
  have hs : RkStep B pb mb sv (w.alloc (.cells #[.string ⟨#[]⟩, .slice none 0 0, .int .i64 0] 95)) (used S) w3 := by
    obtain ⟨sv3, r3, f3, t3⟩ := hs3
    exact ⟨sv3, r3, fun k hk => f2 k (f3 k hk), t2.then t3 (fun k hk => Or.inl (f2 k hk))⟩
  clear hs3 f2 t2 r2
  obtain ⟨k0, k1⟩ := RkStep.boxed HH.out HB0.out hs (Nat.le_refl _) HBX.out
  have K0 := Lib.hid k0
  obtain ⟨⟨b0, b1, b2⟩, z0, z1, z2⟩ := box3 k0
  have K1 := Lib.hid (k1 (.string ⟨#[]⟩) (.slice none 0 0) (.int .i64 9))
  clear k0 k1 hs
  unfold answ
  go_wp2_with fail
  have k0 := box3_set (u0 := .string ⟨#[]⟩) (u1 := .slice none 0 0) (u2 := .int .i64 9) K0.out
  have k1 := K1.out
  clear K1 K0
  generalize ((w3.setCell ⟨w.heap.size, 0, none⟩ (.string ⟨#[]⟩)).setCell ⟨w.heap.size, 1, none⟩ (.slice none 0 0)).setCell ⟨w.heap.size, 2, none⟩ (.int .i64 9) = W at k0 k1 ⊢
  obtain ⟨⟨d0, d1, d2⟩, _⟩ := box3 k0
  exact bodyPost_ret (v := answ [] (.slice none 0 0) 9) (by simp [results, Tryz.results50, go_sem, answ, d0, d1, d2]; rfl) rfl ⟨rfl, k1⟩

set_option maxHeartbeats 1000000 in
theorem call_get_fine {B pb mb : Nat} {sv : Value} {S : Rs} {w : World} {n b : List UInt8} (h : Rk B w pb mb sv S) (hn : n.length ≤ maxLen)  (hc : S.n < 1000000000000) (hk : fateOf S ≠ 1 ∧ fateOf S ≠ 2) :
    Calls Tryz.prog 50 #[.pointer (some ⟨pb, 0, none⟩), .func (.func 83) #[.pointer (some ⟨pb, 0, none⟩)] #[], .string (bs n), .string (bs b)] w (effPost B pb mb sv w (used S) (getB S.obs n) (getE S.obs n)) := by
  have hcl := h.ok.calls
  have h0 : Rk B (w.alloc (.cells #[.string ⟨#[]⟩, .slice none 0 0, .int .i64 0] 95)) pb mb sv S := h.below ((Below.refl _ w).alloc (Nat.le_refl _) _)
  obtain ⟨c0, c1, c2, fz⟩ := h0.cells
  have f2 := fz 2
  clear fz
  have hlt := h.lt.1
  have hs1 := h0.count hc
  rw [World.setCell_alloc_past _ pb 2 _ hlt] at hs1
  have hb0 : Below w.heap.size w (w.alloc (.cells #[.string ⟨#[]⟩, .slice none 0 0, .int .i64 0] 95)) := (Below.refl _ w).alloc (Nat.le_refl _) _
  have hbox : (w.alloc (.cells #[.string ⟨#[]⟩, .slice none 0 0, .int .i64 0] 95)).heap[w.heap.size]? = some (.cells #[.string ⟨#[]⟩, .slice none 0 0, .int .i64 0] 95 (0, 0)) := heap_alloc_new w _
  have HH := Lib.hid h; have HK := Lib.hid hk; have H1 := Lib.hid hs1; have HB0 := Lib.hid hb0; have HBX := Lib.hid hbox
  clear h hk hs1 hb0 hbox h0
  go_enter Tryz.func50, Tryz.ntmps50
  go_wp2_with fail
  obtain ⟨sv1, r1, f1, t1⟩ := H1.out
  refine (fate_any r1).mono ?_
  rintro e w2 ⟨rfl, hs2⟩
  rw [fate_counted]
  have hs : RkStep B pb mb sv (w.alloc (.cells #[.string ⟨#[]⟩, .slice none 0 0, .int .i64 0] 95)) (used S) w2 := by
    obtain ⟨sv2, r2, f2', t2⟩ := hs2
    exact ⟨sv2, r2, fun k hk => f1 k (f2' k hk), t1.then t2 (fun k hk => Or.inl (f1 k hk))⟩
  clear hs2 f1 t1 r1
  have q1 : (fateOf S == 1) = false := by simpa using HK.out.1
  have q2 : (fateOf S == 2) = false := by simpa using HK.out.2
  clear HK
  generalize fateOf S = fz at q1 q2 ⊢
  obtain ⟨sv2, r2, f2, t2⟩ := hs
  go_wp2_with fail
  refine (show Calls Tryz.prog 83 _ w2 (effPost B pb mb sv2 w2 (used S) (getB S.obs n) (getE S.obs n)) from get_eff n b (S := used S) r2 hn).mono ?_
  rintro e w3 ⟨rfl, hs3⟩
  have hs : RkStep B pb mb sv (w.alloc (.cells #[.string ⟨#[]⟩, .slice none 0 0, .int .i64 0] 95)) (used S) w3 := by
    obtain ⟨sv3, r3, f3, t3⟩ := hs3
    exact ⟨sv3, r3, fun k hk => f2 k (f3 k hk), t2.then t3 (fun k hk => Or.inl (f2 k hk))⟩
  clear hs3 f2 t2 r2
  obtain ⟨k0, k1⟩ := RkStep.boxed HH.out HB0.out hs (Nat.le_refl _) HBX.out
  have K0 := Lib.hid k0
  obtain ⟨⟨b0, b1, b2⟩, z0, z1, z2⟩ := box3 k0
  have K1 := Lib.hid (k1 (.string (bs (getB S.obs n))) (.slice none 0 0) (.int .i64 (getE S.obs n)))
  clear k0 k1 hs
  unfold answ
  go_wp2_with fail
  have k0 := box3_set (u0 := .string (bs (getB S.obs n))) (u1 := .slice none 0 0) (u2 := .int .i64 (getE S.obs n)) K0.out
  have k1 := K1.out
  clear K1 K0
  generalize ((w3.setCell ⟨w.heap.size, 0, none⟩ (.string (bs (getB S.obs n)))).setCell ⟨w.heap.size, 1, none⟩ (.slice none 0 0)).setCell ⟨w.heap.size, 2, none⟩ (.int .i64 (getE S.obs n)) = W at k0 k1 ⊢
  obtain ⟨⟨d0, d1, d2⟩, _⟩ := box3 k0
  exact bodyPost_ret (v := answ (getB S.obs n) (.slice none 0 0) (getE S.obs n)) (by simp [results, Tryz.results50, go_sem, answ, d0, d1, d2]) rfl ⟨rfl, k1⟩
end Go.Proofs.YtkdidinekoaobaaGreatDoor.M

/- call, with remove. -/
namespace Go.Proofs.YtkdidinekoaobaaGreatDoor.M
open Go.RowKit Go.Maps
set_option linter.unusedVariables false

set_option maxHeartbeats 1000000 in
theorem call_remove_lost {B pb mb : Nat} {sv : Value} {S : Rs} {w : World} {n b : List UInt8} (h : Rk B w pb mb sv S) (hn : n.length ≤ maxLen)  (hc : S.n < 1000000000000) (hk : fateOf S = 1) :
    Calls Tryz.prog 50 #[.pointer (some ⟨pb, 0, none⟩), .func (.func 54) #[.pointer (some ⟨pb, 0, none⟩)] #[], .string (bs n), .string (bs b)] w (effPost B pb mb sv w (used S) [] 9) := by
  have hcl := h.ok.calls
  have h0 : Rk B (w.alloc (.cells #[.string ⟨#[]⟩, .slice none 0 0, .int .i64 0] 95)) pb mb sv S := h.below ((Below.refl _ w).alloc (Nat.le_refl _) _)
  obtain ⟨c0, c1, c2, fz⟩ := h0.cells
  have f2 := fz 2
  clear fz
  have hlt := h.lt.1
  have hs1 := h0.count hc
  rw [World.setCell_alloc_past _ pb 2 _ hlt] at hs1
  have hb0 : Below w.heap.size w (w.alloc (.cells #[.string ⟨#[]⟩, .slice none 0 0, .int .i64 0] 95)) := (Below.refl _ w).alloc (Nat.le_refl _) _
  have hbox : (w.alloc (.cells #[.string ⟨#[]⟩, .slice none 0 0, .int .i64 0] 95)).heap[w.heap.size]? = some (.cells #[.string ⟨#[]⟩, .slice none 0 0, .int .i64 0] 95 (0, 0)) := heap_alloc_new w _
  have HH := Lib.hid h; have HK := Lib.hid hk; have H1 := Lib.hid hs1; have HB0 := Lib.hid hb0; have HBX := Lib.hid hbox
  clear h hk hs1 hb0 hbox h0
  go_enter Tryz.func50, Tryz.ntmps50
  go_wp2_with fail
  obtain ⟨sv1, r1, f1, t1⟩ := H1.out
  refine (fate_any r1).mono ?_
  rintro e w2 ⟨rfl, hs2⟩
  rw [fate_counted]
  have hs : RkStep B pb mb sv (w.alloc (.cells #[.string ⟨#[]⟩, .slice none 0 0, .int .i64 0] 95)) (used S) w2 := by
    obtain ⟨sv2, r2, f2', t2⟩ := hs2
    exact ⟨sv2, r2, fun k hk => f1 k (f2' k hk), t1.then t2 (fun k hk => Or.inl (f1 k hk))⟩
  clear hs2 f1 t1 r1
  obtain ⟨k0, k1⟩ := RkStep.boxed HH.out HB0.out hs (Nat.le_refl _) HBX.out
  have K0 := Lib.hid k0
  obtain ⟨⟨b0, b1, b2⟩, z0, z1, z2⟩ := box3 k0
  have K1 := Lib.hid (k1 (.string ⟨#[]⟩) (.slice none 0 0) (.int .i64 9))
  clear k0 k1 hs
  rw [HK.out]
  go_wp2_with fail
  have k0 := box3_set (u0 := .string ⟨#[]⟩) (u1 := .slice none 0 0) (u2 := .int .i64 9) K0.out
  have k1 := K1.out
  clear K1 K0
  generalize ((w2.setCell ⟨w.heap.size, 0, none⟩ (.string ⟨#[]⟩)).setCell ⟨w.heap.size, 1, none⟩ (.slice none 0 0)).setCell ⟨w.heap.size, 2, none⟩ (.int .i64 9) = W at k0 k1 ⊢
  obtain ⟨⟨d0, d1, d2⟩, _⟩ := box3 k0
  exact bodyPost_ret (v := answ [] (.slice none 0 0) 9) (by simp [results, Tryz.results50, go_sem, answ, d0, d1, d2]; rfl) rfl ⟨rfl, k1⟩

set_option maxHeartbeats 1000000 in
theorem call_remove_late {B pb mb : Nat} {sv : Value} {S : Rs} {w : World} {n b : List UInt8} (h : Rk B w pb mb sv S) (hn : n.length ≤ maxLen)  (hc : S.n < 1000000000000) (hk : fateOf S = 2) :
    Calls Tryz.prog 50 #[.pointer (some ⟨pb, 0, none⟩), .func (.func 54) #[.pointer (some ⟨pb, 0, none⟩)] #[], .string (bs n), .string (bs b)] w (effPost B pb mb sv w ({ used S with obs := wo Ob.nm S.obs n }) [] 9) := by
  have hcl := h.ok.calls
  have h0 : Rk B (w.alloc (.cells #[.string ⟨#[]⟩, .slice none 0 0, .int .i64 0] 95)) pb mb sv S := h.below ((Below.refl _ w).alloc (Nat.le_refl _) _)
  obtain ⟨c0, c1, c2, fz⟩ := h0.cells
  have f2 := fz 2
  clear fz
  have hlt := h.lt.1
  have hs1 := h0.count hc
  rw [World.setCell_alloc_past _ pb 2 _ hlt] at hs1
  have hb0 : Below w.heap.size w (w.alloc (.cells #[.string ⟨#[]⟩, .slice none 0 0, .int .i64 0] 95)) := (Below.refl _ w).alloc (Nat.le_refl _) _
  have hbox : (w.alloc (.cells #[.string ⟨#[]⟩, .slice none 0 0, .int .i64 0] 95)).heap[w.heap.size]? = some (.cells #[.string ⟨#[]⟩, .slice none 0 0, .int .i64 0] 95 (0, 0)) := heap_alloc_new w _
  have HH := Lib.hid h; have HK := Lib.hid hk; have H1 := Lib.hid hs1; have HB0 := Lib.hid hb0; have HBX := Lib.hid hbox
  clear h hk hs1 hb0 hbox h0
  go_enter Tryz.func50, Tryz.ntmps50
  go_wp2_with fail
  obtain ⟨sv1, r1, f1, t1⟩ := H1.out
  refine (fate_any r1).mono ?_
  rintro e w2 ⟨rfl, hs2⟩
  rw [fate_counted]
  have hs : RkStep B pb mb sv (w.alloc (.cells #[.string ⟨#[]⟩, .slice none 0 0, .int .i64 0] 95)) (used S) w2 := by
    obtain ⟨sv2, r2, f2', t2⟩ := hs2
    exact ⟨sv2, r2, fun k hk => f1 k (f2' k hk), t1.then t2 (fun k hk => Or.inl (f1 k hk))⟩
  clear hs2 f1 t1 r1
  rw [HK.out]
  obtain ⟨sv2, r2, f2, t2⟩ := hs
  go_wp2_with fail
  refine (show Calls Tryz.prog 54 _ w2 (effPost B pb mb sv2 w2 ({ used S with obs := wo Ob.nm S.obs n }) [] 0) from remove_eff n b (S := used S) r2 hn).mono ?_
  rintro e w3 ⟨rfl, hs3⟩
  have hs : RkStep B pb mb sv (w.alloc (.cells #[.string ⟨#[]⟩, .slice none 0 0, .int .i64 0] 95)) ({ used S with obs := wo Ob.nm S.obs n }) w3 := by
    obtain ⟨sv3, r3, f3, t3⟩ := hs3
    exact ⟨sv3, r3, fun k hk => f2 k (f3 k hk), t2.then t3 (fun k hk => Or.inl (f2 k hk))⟩
  clear hs3 f2 t2 r2
  obtain ⟨k0, k1⟩ := RkStep.boxed HH.out HB0.out hs (Nat.le_refl _) HBX.out
  have K0 := Lib.hid k0
  obtain ⟨⟨b0, b1, b2⟩, z0, z1, z2⟩ := box3 k0
  have K1 := Lib.hid (k1 (.string ⟨#[]⟩) (.slice none 0 0) (.int .i64 9))
  clear k0 k1 hs
  unfold answ
  go_wp2_with fail
  have k0 := box3_set (u0 := .string ⟨#[]⟩) (u1 := .slice none 0 0) (u2 := .int .i64 9) K0.out
  have k1 := K1.out
  clear K1 K0
  generalize ((w3.setCell ⟨w.heap.size, 0, none⟩ (.string ⟨#[]⟩)).setCell ⟨w.heap.size, 1, none⟩ (.slice none 0 0)).setCell ⟨w.heap.size, 2, none⟩ (.int .i64 9) = W at k0 k1 ⊢
  obtain ⟨⟨d0, d1, d2⟩, _⟩ := box3 k0
  exact bodyPost_ret (v := answ [] (.slice none 0 0) 9) (by simp [results, Tryz.results50, go_sem, answ, d0, d1, d2]; rfl) rfl ⟨rfl, k1⟩

set_option maxHeartbeats 1000000 in
theorem call_remove_fine {B pb mb : Nat} {sv : Value} {S : Rs} {w : World} {n b : List UInt8} (h : Rk B w pb mb sv S) (hn : n.length ≤ maxLen)  (hc : S.n < 1000000000000) (hk : fateOf S ≠ 1 ∧ fateOf S ≠ 2) :
    Calls Tryz.prog 50 #[.pointer (some ⟨pb, 0, none⟩), .func (.func 54) #[.pointer (some ⟨pb, 0, none⟩)] #[], .string (bs n), .string (bs b)] w (effPost B pb mb sv w ({ used S with obs := wo Ob.nm S.obs n }) [] 0) := by
  have hcl := h.ok.calls
  have h0 : Rk B (w.alloc (.cells #[.string ⟨#[]⟩, .slice none 0 0, .int .i64 0] 95)) pb mb sv S := h.below ((Below.refl _ w).alloc (Nat.le_refl _) _)
  obtain ⟨c0, c1, c2, fz⟩ := h0.cells
  have f2 := fz 2
  clear fz
  have hlt := h.lt.1
  have hs1 := h0.count hc
  rw [World.setCell_alloc_past _ pb 2 _ hlt] at hs1
  have hb0 : Below w.heap.size w (w.alloc (.cells #[.string ⟨#[]⟩, .slice none 0 0, .int .i64 0] 95)) := (Below.refl _ w).alloc (Nat.le_refl _) _
  have hbox : (w.alloc (.cells #[.string ⟨#[]⟩, .slice none 0 0, .int .i64 0] 95)).heap[w.heap.size]? = some (.cells #[.string ⟨#[]⟩, .slice none 0 0, .int .i64 0] 95 (0, 0)) := heap_alloc_new w _
  have HH := Lib.hid h; have HK := Lib.hid hk; have H1 := Lib.hid hs1; have HB0 := Lib.hid hb0; have HBX := Lib.hid hbox
  clear h hk hs1 hb0 hbox h0
  go_enter Tryz.func50, Tryz.ntmps50
  go_wp2_with fail
  obtain ⟨sv1, r1, f1, t1⟩ := H1.out
  refine (fate_any r1).mono ?_
  rintro e w2 ⟨rfl, hs2⟩
  rw [fate_counted]
  have hs : RkStep B pb mb sv (w.alloc (.cells #[.string ⟨#[]⟩, .slice none 0 0, .int .i64 0] 95)) (used S) w2 := by
    obtain ⟨sv2, r2, f2', t2⟩ := hs2
    exact ⟨sv2, r2, fun k hk => f1 k (f2' k hk), t1.then t2 (fun k hk => Or.inl (f1 k hk))⟩
  clear hs2 f1 t1 r1
  have q1 : (fateOf S == 1) = false := by simpa using HK.out.1
  have q2 : (fateOf S == 2) = false := by simpa using HK.out.2
  clear HK
  generalize fateOf S = fz at q1 q2 ⊢
  obtain ⟨sv2, r2, f2, t2⟩ := hs
  go_wp2_with fail
  refine (show Calls Tryz.prog 54 _ w2 (effPost B pb mb sv2 w2 ({ used S with obs := wo Ob.nm S.obs n }) [] 0) from remove_eff n b (S := used S) r2 hn).mono ?_
  rintro e w3 ⟨rfl, hs3⟩
  have hs : RkStep B pb mb sv (w.alloc (.cells #[.string ⟨#[]⟩, .slice none 0 0, .int .i64 0] 95)) ({ used S with obs := wo Ob.nm S.obs n }) w3 := by
    obtain ⟨sv3, r3, f3, t3⟩ := hs3
    exact ⟨sv3, r3, fun k hk => f2 k (f3 k hk), t2.then t3 (fun k hk => Or.inl (f2 k hk))⟩
  clear hs3 f2 t2 r2
  obtain ⟨k0, k1⟩ := RkStep.boxed HH.out HB0.out hs (Nat.le_refl _) HBX.out
  have K0 := Lib.hid k0
  obtain ⟨⟨b0, b1, b2⟩, z0, z1, z2⟩ := box3 k0
  have K1 := Lib.hid (k1 (.string (bs [])) (.slice none 0 0) (.int .i64 0))
  clear k0 k1 hs
  unfold answ
  go_wp2_with fail
  have k0 := box3_set (u0 := .string (bs [])) (u1 := .slice none 0 0) (u2 := .int .i64 0) K0.out
  have k1 := K1.out
  clear K1 K0
  generalize ((w3.setCell ⟨w.heap.size, 0, none⟩ (.string (bs []))).setCell ⟨w.heap.size, 1, none⟩ (.slice none 0 0)).setCell ⟨w.heap.size, 2, none⟩ (.int .i64 0) = W at k0 k1 ⊢
  obtain ⟨⟨d0, d1, d2⟩, _⟩ := box3 k0
  exact bodyPost_ret (v := answ [] (.slice none 0 0) 0) (by simp [results, Tryz.results50, go_sem, answ, d0, d1, d2]) rfl ⟨rfl, k1⟩
end Go.Proofs.YtkdidinekoaobaaGreatDoor.M

/- Put, PutNew, Get, Delete. -/
namespace Go.Proofs.YtkdidinekoaobaaGreatDoor.M
open Go.RowKit Go.Maps
set_option linter.unusedVariables false

theorem fate_three (S : Rs) : fateOf S = 1 ∨ fateOf S = 2 ∨ (fateOf S ≠ 1 ∧ fateOf S ≠ 2) := by omega
theorem takes_lost {S : Rs} (l : List Ob) (h : fateOf S = 1) : takes S l = used S := by unfold takes; rw [if_pos h]; rfl
theorem takes_other {S : Rs} (l : List Ob) (h : fateOf S ≠ 1) : takes S l = { used S with obs := l } := by unfold takes; rw [if_neg h]
theorem takes_same (S : Rs) : takes S S.obs = used S := by unfold takes; rw [ite_self]; rfl
theorem err_far {S : Rs} (e : Int) (h : far S) : errOf S e = 9 := by unfold errOf; rw [if_pos h]
theorem err_fine {S : Rs} (e : Int) (h : ¬ far S) : errOf S e = e := by unfold errOf; rw [if_neg h]
def bytesIf (S : Rs) (b : List UInt8) : List UInt8 := if far S then [] else b
theorem bytes_far {S : Rs} (e : List UInt8) (h : far S) : bytesIf S e = [] := by unfold bytesIf; rw [if_pos h]
theorem bytes_fine {S : Rs} (e : List UInt8) (h : ¬ far S) : bytesIf S e = e := by unfold bytesIf; rw [if_neg h]

section
variable {B pb mb : Nat} {sv : Value} {S : Rs} {w : World} {n b : List UInt8} (h : Rk B w pb mb sv S) (hn : n.length ≤ maxLen) (hc : S.n < 1000000000000)
include h hn hc
theorem call_put (hf : S.obs.length < 1000000000) : Calls Tryz.prog 50 #[.pointer (some ⟨pb, 0, none⟩), .func (.func 51) #[.pointer (some ⟨pb, 0, none⟩)] #[], .string (bs n), .string (bs b)] w
    (effPost B pb mb sv w (takes S (lays S.obs n b)) [] (errOf S 0)) := by
  rcases fate_three S with hk | hk | hk
  · rw [takes_lost _ hk, err_far _ (Or.inl hk)]; exact call_put_lost h hn hf hc hk
  · rw [takes_other _ (by omega), err_far _ (Or.inr hk)]; exact call_put_late h hn hf hc hk
  · rw [takes_other _ hk.1, err_fine _ (by unfold far; omega)]; exact call_put_fine h hn hf hc hk
theorem call_putNew (hf : S.obs.length < 1000000000) : Calls Tryz.prog 50 #[.pointer (some ⟨pb, 0, none⟩), .func (.func 99) #[.pointer (some ⟨pb, 0, none⟩)] #[], .string (bs n), .string (bs b)] w
    (effPost B pb mb sv w (takes S (newL S.obs n b)) [] (errOf S (newE S.obs n))) := by
  rcases fate_three S with hk | hk | hk
  · rw [takes_lost _ hk, err_far _ (Or.inl hk)]; exact call_putNew_lost h hn hf hc hk
  · rw [takes_other _ (by omega), err_far _ (Or.inr hk)]; exact call_putNew_late h hn hf hc hk
  · rw [takes_other _ hk.1, err_fine _ (by unfold far; omega)]; exact call_putNew_fine h hn hf hc hk
theorem call_get : Calls Tryz.prog 50 #[.pointer (some ⟨pb, 0, none⟩), .func (.func 83) #[.pointer (some ⟨pb, 0, none⟩)] #[], .string (bs n), .string (bs b)] w
    (effPost B pb mb sv w (used S) (bytesIf S (getB S.obs n)) (errOf S (getE S.obs n))) := by
  rcases fate_three S with hk | hk | hk
  · rw [err_far _ (Or.inl hk), bytes_far _ (Or.inl hk)]; exact call_get_lost h hn hc hk
  · rw [err_far _ (Or.inr hk), bytes_far _ (Or.inr hk)]; exact call_get_late h hn hc hk
  · rw [err_fine _ (by unfold far; omega), bytes_fine _ (by unfold far; omega)]; exact call_get_fine h hn hc hk
theorem call_remove : Calls Tryz.prog 50 #[.pointer (some ⟨pb, 0, none⟩), .func (.func 54) #[.pointer (some ⟨pb, 0, none⟩)] #[], .string (bs n), .string (bs b)] w
    (effPost B pb mb sv w (takes S (wo Ob.nm S.obs n)) [] (errOf S 0)) := by
  rcases fate_three S with hk | hk | hk
  · rw [takes_lost _ hk, err_far _ (Or.inl hk)]; exact call_remove_lost h hn hc hk
  · rw [takes_other _ (by omega), err_far _ (Or.inr hk)]; exact call_remove_late h hn hc hk
  · rw [takes_other _ hk.1, err_fine _ (by unfold far; omega)]; exact call_remove_fine h hn hc hk
end

theorem cellsB : Tryz.prog.cellsOf 9 = 1 := by kernel_rfl
theorem cellsN : Tryz.prog.cellsOf 65 = 1 := by kernel_rfl
theorem cellsE : Tryz.prog.cellsOf 36 = 1 := by kernel_rfl
theorem errField (x : ByteArray) (a : Option Addr) (n c : Nat) (z : Int) (w : World) : (Instr.field 95 (.agg #[.string x, .slice a n c, .int .i64 z]) 2).run Tryz.prog w = .ok (.int .i64 z) w := by kernel_rfl

section
variable {B pb : Nat} {S : Rs} {w : World} {F : Nat → Prop} {n b : List UInt8} (h : RkS B w pb F S) (hn : n.length ≤ maxLen) (hc : S.n < 1000000000000)
include h hn hc

theorem put_s (hf : S.obs.length < 1000000000) : Calls Tryz.prog 21 #[.pointer (some ⟨pb, 0, none⟩), .string (bs n), .string (bs b)] w (RkPostS B pb F (takes S (lays S.obs n b)) (.int .i64 (errOf S 0)) w) := by
  refine h.stepS (fun mb sv hr => ?_)
  have hmf : ∀ (fn : Fn) (first cap : Array Value) (w : World), (Instr.makeFunc fn first cap).run Tryz.prog w = .ok (.func fn first cap) w := fun _ _ _ _ => rfl
  have hef := errField
  have HC := Lib.hid (call_put (b := b) hr hn hc hf)
  clear h hr
  go_enter Tryz.func21, Tryz.ntmps21
  go_wp2_with fail
  refine HC.out.mono ?_
  rintro e w' ⟨rfl, hs⟩
  unfold answ
  go_wp2_with fail
  go_ret
  exact ⟨rfl, hs⟩
theorem put_m (hf : S.obs.length < 1000000000) : Calls Tryz.prog 21 #[.pointer (some ⟨pb, 0, none⟩), .string (bs n), .string (bs b)] w (RkPost B pb F (takes S (lays S.obs n b)) (.int .i64 (errOf S 0)) w) :=
  (put_s h hn hc hf).mono fun _ _ => RkPostS.wide

theorem putNew_s (hf : S.obs.length < 1000000000) : Calls Tryz.prog 75 #[.pointer (some ⟨pb, 0, none⟩), .string (bs n), .string (bs b)] w (RkPostS B pb F (takes S (newL S.obs n b)) (.int .i64 (errOf S (newE S.obs n))) w) := by
  refine h.stepS (fun mb sv hr => ?_)
  have hmf : ∀ (fn : Fn) (first cap : Array Value) (w : World), (Instr.makeFunc fn first cap).run Tryz.prog w = .ok (.func fn first cap) w := fun _ _ _ _ => rfl
  have hef := errField
  have HC := Lib.hid (call_putNew (b := b) hr hn hc hf)
  clear h hr
  go_enter Tryz.func75, Tryz.ntmps75
  go_wp2_with fail
  refine HC.out.mono ?_
  rintro e w' ⟨rfl, hs⟩
  unfold answ
  go_wp2_with fail
  go_ret
  exact ⟨rfl, hs⟩
theorem putNew_m (hf : S.obs.length < 1000000000) : Calls Tryz.prog 75 #[.pointer (some ⟨pb, 0, none⟩), .string (bs n), .string (bs b)] w (RkPost B pb F (takes S (newL S.obs n b)) (.int .i64 (errOf S (newE S.obs n))) w) :=
  (putNew_s h hn hc hf).mono fun _ _ => RkPostS.wide

theorem delete_s : Calls Tryz.prog 23 #[.pointer (some ⟨pb, 0, none⟩), .string (bs n)] w (RkPostS B pb F (takes S (wo Ob.nm S.obs n)) (.int .i64 (errOf S 0)) w) := by
  refine h.stepS (fun mb sv hr => ?_)
  have hmf : ∀ (fn : Fn) (first cap : Array Value) (w : World), (Instr.makeFunc fn first cap).run Tryz.prog w = .ok (.func fn first cap) w := fun _ _ _ _ => rfl
  have hef := errField
  have HC := Lib.hid (call_remove (b := []) hr hn hc)
  clear h hr
  go_enter Tryz.func23, Tryz.ntmps23
  go_wp2_with fail
  refine HC.out.mono ?_
  rintro e w' ⟨rfl, hs⟩
  unfold answ
  go_wp2_with fail
  go_ret
  exact ⟨rfl, hs⟩
theorem delete_m : Calls Tryz.prog 23 #[.pointer (some ⟨pb, 0, none⟩), .string (bs n)] w (RkPost B pb F (takes S (wo Ob.nm S.obs n)) (.int .i64 (errOf S 0)) w) :=
  (delete_s h hn hc).mono fun _ _ => RkPostS.wide

theorem get_s : Calls Tryz.prog 45 #[.pointer (some ⟨pb, 0, none⟩), .string (bs n)] w (RkPostS B pb F (used S) (.tuple #[.string (bs (bytesIf S (getB S.obs n))), .int .i64 (errOf S (getE S.obs n))]) w) := by
  refine h.stepS (fun mb sv hr => ?_)
  have hmf : ∀ (fn : Fn) (first cap : Array Value) (w : World), (Instr.makeFunc fn first cap).run Tryz.prog w = .ok (.func fn first cap) w := fun _ _ _ _ => rfl
  have hef := errField
  have HC := Lib.hid (call_get (b := []) hr hn hc)
  clear h hr
  go_enter Tryz.func45, Tryz.ntmps45
  go_wp2_with fail
  refine HC.out.mono ?_
  rintro e w' ⟨rfl, hs⟩
  unfold answ
  go_wp2_with fail
  go_region
  go_wp2
  go_ret2
  exact ⟨rfl, hs.later (((Below.refl _ w').alloc (Nat.le_refl _) _).trans ⟨rfl, rfl, rfl, Nat.le_refl _, fun _ _ => rfl⟩)⟩

theorem get_m : Calls Tryz.prog 45 #[.pointer (some ⟨pb, 0, none⟩), .string (bs n)] w (RkPost B pb F (used S) (.tuple #[.string (bs (bytesIf S (getB S.obs n))), .int .i64 (errOf S (getE S.obs n))]) w) :=
  (get_s h hn hc).mono fun _ _ => RkPostS.wide
end
end Go.Proofs.YtkdidinekoaobaaGreatDoor.M

/- The names of all objects, sorted. -/
namespace Go.Proofs.YtkdidinekoaobaaGreatDoor.M
open Go.RowKit Go.Maps Go.Sort Go.Shelf
set_option linter.unusedVariables false

theorem names_up {l : List Ob} (h : Up Ob.nm l) : (l.map Ob.nm).Pairwise (fun a b => lt a b = true) := List.pairwise_map.2 h
theorem names_nodup {l : List Ob} (h : Up Ob.nm l) : (l.map Ob.nm).Nodup := (names_up h).imp (fun h => lt_ne h)
theorem lt_leB {a b : List UInt8} (h : lt a b = true) : leB a b = true := by simpa [leB] using List.le_of_lt ((lt_iff a b).1 h)
theorem names_sorted {l : List Ob} (h : Up Ob.nm l) : (l.map Ob.nm).mergeSort leB = l.map Ob.nm := List.mergeSort_of_pairwise ((names_up h).imp (fun h => lt_leB h))

theorem MapHas.names {w : World} {mb : Nat} {cs : List Ob} (h : MapHas w mb cs) (hu : Up Ob.nm cs) : ∃ D : DataW Value, w.ownsMap Tryz.prog 9 heldR mb cs.length D ∧ Maps.size D = cs.length ∧ ∀ ss : List (List UInt8), ss.Perm (strKeys D) → ss.mergeSort leB = cs.map Ob.nm := by
  obtain ⟨D, hD, hsz, hin, hno⟩ := h
  refine ⟨D, hD, hsz, fun ss hss => ?_⟩
  have hc : Collected D (fun _ => false) (cs.map Ob.nm) := ⟨names_nodup hu, fun x => by
    constructor
    · intro hx
      obtain ⟨c, hc, rfl⟩ := List.mem_map.1 hx
      exact ⟨(hin c hc).1, rfl⟩
    · rintro ⟨hx, _⟩
      obtain ⟨c, hc, e⟩ := hno x hx
      exact List.mem_map.2 ⟨c, hc, e⟩⟩
  have hp := hc.perm hD strKey Tryz.underlying9 (fun _ => rfl)
  rw [mergeSort_of_perm (hss.trans hp.symm), names_sorted hu]

theorem sortsA (m : Nat) : AnyZ.SortsIn Tryz.prog laysSorted_ren Fence.wide m :=
  ⟨fun blk off cap ss W hH hblk hsz => callsIn_wide.2 (AnyM.slices_Sort_string laysSort blk off cap ss W hH hblk hsz),
   fun p cap W => callsIn_wide.2 (AnyM.slices_Sort_string_none laysSort p cap W)⟩

/-- maps.Keys: the map in a box. -/
theorem keys_any (mb : Option Nat) (w : World) : Calls Tryz.prog 90 #[.map mb] w fun e w' => e = .returned (.func (.func 116) #[] #[.pointer (some ⟨w.heap.size, 0, none⟩)]) ∧ w' = w.alloc (.cells #[.map mb] 73) :=
  callsIn_wide.1 (AnyZ.keys_in laysKeys Fence.wide 5 trivial rfl mb w)

/-- slices.Sorted of it. -/
theorem sorted_any {w : World} {mb : Nat} {cs : List Ob} (h : MapHas w mb cs) (hu : Up Ob.nm cs) (hf : cs.length ≤ 1000000000) :
    Calls Tryz.prog 89 #[.func (.func 116) #[] #[.pointer (some ⟨w.heap.size, 0, none⟩)]] (w.alloc (.cells #[.map (some mb)] 73))
      fun e w' => ∃ v, e = .returned v ∧ w'.ownsRow w.heap.size 9 1 v (cs.map Ob.nm).length (strs (cs.map Ob.nm)) ∧ Below w.heap.size w w' := by
  obtain ⟨D, hown, hsz, hsort⟩ := h.names hu
  have hbl := hown.lt
  have hseq : SeqGives Fence.wide 2 Tryz.prog 116 #[.pointer (some ⟨w.heap.size, 0, none⟩)] encStr (fun ss => ss.Perm (strKeys D)) (Maps.size D) (w.alloc (.cells #[.map (some mb)] 73)) :=
    AnyZ.keys_gives (ρ := laysKeys_ren) { laysKeys with } Fence.wide _ trivial rfl (by omega) w.heap.size mb cs.length D _ (by simp) (by simp) (by
      obtain ⟨es, clock, hb, Ft, hs, hD⟩ := hown
      exact ⟨es, clock, (Below.heap_alloc _ _ mb hbl).trans hb, Ft, hs, hD⟩)
  have cS := AnyZ.sorted_in laysSorted Fence.wide 5 trivial trivial trivial trivial rfl (by omega) (sortsA _) (enters_of Tryz.func58 (by kernel_rfl) rfl) 116 #[.pointer (some ⟨w.heap.size, 0, none⟩)] trivial (enters_of Tryz.func116 (by kernel_rfl) rfl) _ _ (by rw [hsz]; unfold maxLen; omega) (by rw [hsz]; omega) _ hseq
  refine (callsIn_wide.1 cS).mono ?_
  rintro e w' ⟨v, ss, rfl, hp, hrow, _, hb⟩
  have hm := hsort ss hp
  have hlen : ss.length = (cs.map Ob.nm).length := by rw [← hm, List.length_mergeSort]
  have e1 : (ss.mergeSort (fun x y => decide (x ≤ y))).map encStr = strs (cs.map Ob.nm) := by
    show (ss.mergeSort leB).map encStr = _
    rw [hm]
    rfl
  rw [e1, hlen] at hrow
  refine ⟨v, rfl, ownsRow_base_a hrow (by simp), ((Below.refl _ w).alloc (Nat.le_refl _) _).trans (hb.mono (by simp))⟩
end Go.Proofs.YtkdidinekoaobaaGreatDoor.M

/- list, call with it, List. -/
namespace Go.Proofs.YtkdidinekoaobaaGreatDoor.M
open Go.RowKit Go.Maps
set_option linter.unusedVariables false

/-- The names, in memory that is new. -/
def Names (w w' : World) (v : Value) (ns : List (List UInt8)) : Prop := w'.ownsRow w.heap.size 9 1 v ns.length (strs ns)
def listPost (w : World) (ns : List (List UInt8)) (err : Int) (e : Ending) (w' : World) : Prop := ∃ a c, e = .returned (answ [] (.slice a ns.length c) err) ∧ Names w w' (.slice a ns.length c) ns ∧ Below w.heap.size w w'

theorem list_eff {B pb mb : Nat} {sv : Value} {S : Rs} {w : World} (x y : List UInt8) (h : Rk B w pb mb sv S) :
    Calls Tryz.prog 62 #[.pointer (some ⟨pb, 0, none⟩), .string (bs x), .string (bs y)] w (listPost w (S.obs.map Ob.nm) 0) := by
  obtain ⟨ns, hns⟩ : ∃ ns, ns = S.obs.map Ob.nm := ⟨_, rfl⟩
  rw [← hns]
  obtain ⟨c0, c1, c2, fz⟩ := h.cells
  clear fz
  have hlt := h.lt.1
  have hb0 : Below w.heap.size w (w.alloc (.cells #[.string ⟨#[]⟩, .slice none 0 0, .int .i64 0] 95)) := (Below.refl _ w).alloc (Nat.le_refl _) _
  have h0 : Rk B (w.alloc (.cells #[.string ⟨#[]⟩, .slice none 0 0, .int .i64 0] 95)) pb mb sv S := h.below hb0
  have hs' := sorted_any h0.map h0.ok.up h0.ok.few
  have hz0 : (w.alloc (.cells #[.string ⟨#[]⟩, .slice none 0 0, .int .i64 0] 95)).heap.size = w.heap.size + 1 := by simp
  rw [hz0, ← hns] at hs'
  have hs := Lib.hid hs'
  clear hs' hz0
  have HB0 := Lib.hid hb0
  have hbx : (w.alloc (.cells #[.string ⟨#[]⟩, .slice none 0 0, .int .i64 0] 95)).heap[w.heap.size]? = some (.cells #[.string ⟨#[]⟩, .slice none 0 0, .int .i64 0] 95 (0, 0)) := heap_alloc_new w _
  have HBX := Lib.hid hbx
  clear h h0 hb0 hns hbx
  go_enter Tryz.func62, Tryz.ntmps62
  go_wp2_with fail
  refine (keys_any _ _).mono ?_
  rintro e w1 ⟨rfl, rfl⟩
  go_wp2_with fail
  refine hs.out.mono ?_
  rintro e w2 ⟨v, rfl, hrow, hb2⟩
  obtain ⟨va, vc, rfl⟩ : ∃ va vc, v = .slice va ns.length vc := by
    rcases owns_cases hrow with ⟨rfl, h0, _⟩ | ⟨g, cap, cur, hv, _⟩
    · exact ⟨none, 0, by rw [h0]⟩
    · exact ⟨_, cap, hv⟩
  have k0 : w2.heap[w.heap.size]? = some (.cells #[.string ⟨#[]⟩, .slice none 0 0, .int .i64 0] 95 (0, 0)) := by
    rw [hb2.block w.heap.size (Nat.lt_succ_self _)]; exact HBX.out
  obtain ⟨⟨b0, b1, b2⟩, z0, z1, z2⟩ := box3 k0
  have K0 := Lib.hid k0
  have HR := Lib.hid hrow; have HB2 := Lib.hid hb2
  clear k0 hrow hb2
  go_wp2_with fail
  have k0 := box3_set (u0 := .string ⟨#[]⟩) (u1 := .slice va ns.length vc) (u2 := .int .i64 0) K0.out
  have t : Turn (fun k => k = w.heap.size) w2 (((w2.setCell ⟨w.heap.size, 0, none⟩ (.string ⟨#[]⟩)).setCell ⟨w.heap.size, 1, none⟩ (.slice va ns.length vc)).setCell ⟨w.heap.size, 2, none⟩ (.int .i64 0)) := (((Turn.refl (fun k => k = w.heap.size) w2).setCell (p := ⟨w.heap.size, 0, none⟩) rfl _).setCell (p := ⟨w.heap.size, 1, none⟩) rfl _).setCell (p := ⟨w.heap.size, 2, none⟩) rfl _
  generalize ((w2.setCell ⟨w.heap.size, 0, none⟩ (.string ⟨#[]⟩)).setCell ⟨w.heap.size, 1, none⟩ (.slice va ns.length vc)).setCell ⟨w.heap.size, 2, none⟩ (.int .i64 0) = W at k0 t ⊢
  obtain ⟨⟨d0, d1, d2⟩, _⟩ := box3 k0
  have hs2 := HB2.out.size
  have hb : Below w.heap.size w W := (HB0.out.trans (HB2.out.mono (Nat.le_succ _))).trans (t.below (fun k e => Nat.le_of_eq e.symm) (by have := HB0.out.size; simp at hs2; omega))
  exact bodyPost_ret (v := answ [] (.slice va ns.length vc) 0) (by simp [results, Tryz.results62, go_sem, answ, d0, d1, d2]; rfl) rfl ⟨va, vc, rfl, owns_kept (ownsRow_base_a HR.out (Nat.le_succ _)) (fun g hg => t.block g (HR.out.lt g hg).2 (fun e => by have := (HR.out.lt g hg).1; omega)), hb⟩

/-! ### call with it -/
def callListPost (B pb mb : Nat) (sv : Value) (w : World) (S' : Rs) (ns : List (List UInt8)) (e : Ending) (w' : World) : Prop :=
  ∃ va vc, e = .returned (answ [] (.slice va ns.length vc) 0) ∧ RkStep B pb mb sv w S' w' ∧ Names w w' (.slice va ns.length vc) ns
set_option maxHeartbeats 1000000 in
theorem call_list_lost {B pb mb : Nat} {sv : Value} {S : Rs} {w : World} {n b : List UInt8} (h : Rk B w pb mb sv S) (hc : S.n < 1000000000000) (hk : fateOf S = 1) :
    Calls Tryz.prog 50 #[.pointer (some ⟨pb, 0, none⟩), .func (.func 62) #[.pointer (some ⟨pb, 0, none⟩)] #[], .string (bs n), .string (bs b)] w (effPost B pb mb sv w (used S) [] 9) := by
  have hcl := h.ok.calls
  have h0 : Rk B (w.alloc (.cells #[.string ⟨#[]⟩, .slice none 0 0, .int .i64 0] 95)) pb mb sv S := h.below ((Below.refl _ w).alloc (Nat.le_refl _) _)
  obtain ⟨c0, c1, c2, fz⟩ := h0.cells
  have f2 := fz 2
  clear fz
  have hlt := h.lt.1
  have hs1 := h0.count hc
  rw [World.setCell_alloc_past _ pb 2 _ hlt] at hs1
  have hb0 : Below w.heap.size w (w.alloc (.cells #[.string ⟨#[]⟩, .slice none 0 0, .int .i64 0] 95)) := (Below.refl _ w).alloc (Nat.le_refl _) _
  have hbox : (w.alloc (.cells #[.string ⟨#[]⟩, .slice none 0 0, .int .i64 0] 95)).heap[w.heap.size]? = some (.cells #[.string ⟨#[]⟩, .slice none 0 0, .int .i64 0] 95 (0, 0)) := heap_alloc_new w _
  have HH := Lib.hid h; have HK := Lib.hid hk; have H1 := Lib.hid hs1; have HB0 := Lib.hid hb0; have HBX := Lib.hid hbox
  clear h hk hs1 hb0 hbox h0
  go_enter Tryz.func50, Tryz.ntmps50
  go_wp2_with fail
  obtain ⟨sv1, r1, f1, t1⟩ := H1.out
  refine (fate_any r1).mono ?_
  rintro e w2 ⟨rfl, hs2⟩
  rw [fate_counted]
  have hs : RkStep B pb mb sv (w.alloc (.cells #[.string ⟨#[]⟩, .slice none 0 0, .int .i64 0] 95)) (used S) w2 := by
    obtain ⟨sv2, r2, f2', t2⟩ := hs2
    exact ⟨sv2, r2, fun k hk => f1 k (f2' k hk), t1.then t2 (fun k hk => Or.inl (f1 k hk))⟩
  clear hs2 f1 t1 r1
  obtain ⟨k0, k1⟩ := RkStep.boxed HH.out HB0.out hs (Nat.le_refl _) HBX.out
  have K0 := Lib.hid k0
  obtain ⟨⟨b0, b1, b2⟩, z0, z1, z2⟩ := box3 k0
  have K1 := Lib.hid (k1 (.string ⟨#[]⟩) (.slice none 0 0) (.int .i64 9))
  clear k0 k1 hs
  rw [HK.out]
  go_wp2_with fail
  have k0 := box3_set (u0 := .string ⟨#[]⟩) (u1 := .slice none 0 0) (u2 := .int .i64 9) K0.out
  have k1 := K1.out
  clear K1 K0
  generalize ((w2.setCell ⟨w.heap.size, 0, none⟩ (.string ⟨#[]⟩)).setCell ⟨w.heap.size, 1, none⟩ (.slice none 0 0)).setCell ⟨w.heap.size, 2, none⟩ (.int .i64 9) = W at k0 k1 ⊢
  obtain ⟨⟨d0, d1, d2⟩, _⟩ := box3 k0
  exact bodyPost_ret (v := answ [] (.slice none 0 0) 9) (by simp [results, Tryz.results50, go_sem, answ, d0, d1, d2]; rfl) rfl ⟨rfl, k1⟩


set_option maxHeartbeats 1000000 in
theorem call_list_late {B pb mb : Nat} {sv : Value} {S : Rs} {w : World} {n b : List UInt8} (h : Rk B w pb mb sv S) (hc : S.n < 1000000000000) (hk : fateOf S = 2) :
    Calls Tryz.prog 50 #[.pointer (some ⟨pb, 0, none⟩), .func (.func 62) #[.pointer (some ⟨pb, 0, none⟩)] #[], .string (bs n), .string (bs b)] w (effPost B pb mb sv w (used S) [] 9) := by
  have hcl := h.ok.calls
  have h0 : Rk B (w.alloc (.cells #[.string ⟨#[]⟩, .slice none 0 0, .int .i64 0] 95)) pb mb sv S := h.below ((Below.refl _ w).alloc (Nat.le_refl _) _)
  obtain ⟨c0, c1, c2, fz⟩ := h0.cells
  have f2 := fz 2
  clear fz
  have hlt := h.lt.1
  have hs1 := h0.count hc
  rw [World.setCell_alloc_past _ pb 2 _ hlt] at hs1
  have hb0 : Below w.heap.size w (w.alloc (.cells #[.string ⟨#[]⟩, .slice none 0 0, .int .i64 0] 95)) := (Below.refl _ w).alloc (Nat.le_refl _) _
  have hbox : (w.alloc (.cells #[.string ⟨#[]⟩, .slice none 0 0, .int .i64 0] 95)).heap[w.heap.size]? = some (.cells #[.string ⟨#[]⟩, .slice none 0 0, .int .i64 0] 95 (0, 0)) := heap_alloc_new w _
  have HH := Lib.hid h; have HK := Lib.hid hk; have H1 := Lib.hid hs1; have HB0 := Lib.hid hb0; have HBX := Lib.hid hbox
  clear h hk hs1 hb0 hbox h0
  go_enter Tryz.func50, Tryz.ntmps50
  go_wp2_with fail
  obtain ⟨sv1, r1, f1, t1⟩ := H1.out
  refine (fate_any r1).mono ?_
  rintro e w2 ⟨rfl, hs2⟩
  rw [fate_counted]
  have hs : RkStep B pb mb sv (w.alloc (.cells #[.string ⟨#[]⟩, .slice none 0 0, .int .i64 0] 95)) (used S) w2 := by
    obtain ⟨sv2, r2, f2', t2⟩ := hs2
    exact ⟨sv2, r2, fun k hk => f1 k (f2' k hk), t1.then t2 (fun k hk => Or.inl (f1 k hk))⟩
  clear hs2 f1 t1 r1
  rw [HK.out]
  obtain ⟨sv2, r2, f2, t2⟩ := hs
  go_wp2_with fail
  refine (list_eff n b r2).mono ?_
  rintro e w3 ⟨va, vc, rfl, hnm, hb3⟩
  rw [show (used S).obs = S.obs from rfl] at hnm ⊢
  have hs3 := RkStep.same r2 hb3
  have hs : RkStep B pb mb sv (w.alloc (.cells #[.string ⟨#[]⟩, .slice none 0 0, .int .i64 0] 95)) (used S) w3 := by
    obtain ⟨sv3, r3, f3, t3⟩ := hs3
    exact ⟨sv3, r3, fun k hk => f2 k (f3 k hk), t2.then t3 (fun k hk => Or.inl (f2 k hk))⟩
  clear hs3 f2 t2 r2
  obtain ⟨k0, k1⟩ := RkStep.boxed HH.out HB0.out hs (Nat.le_refl _) HBX.out
  have K0 := Lib.hid k0
  obtain ⟨⟨b0, b1, b2⟩, z0, z1, z2⟩ := box3 k0
  have K1 := Lib.hid (k1 (.string ⟨#[]⟩) (.slice none 0 0) (.int .i64 9))
  clear k0 k1 hs
  unfold answ
  go_wp2_with fail
  have k0 := box3_set (u0 := .string ⟨#[]⟩) (u1 := .slice none 0 0) (u2 := .int .i64 9) K0.out
  have k1 := K1.out
  clear K1 K0
  generalize ((w3.setCell ⟨w.heap.size, 0, none⟩ (.string ⟨#[]⟩)).setCell ⟨w.heap.size, 1, none⟩ (.slice none 0 0)).setCell ⟨w.heap.size, 2, none⟩ (.int .i64 9) = W at k0 k1 ⊢
  obtain ⟨⟨d0, d1, d2⟩, _⟩ := box3 k0
  exact bodyPost_ret (v := answ [] (.slice none 0 0) 9) (by simp [results, Tryz.results50, go_sem, answ, d0, d1, d2]; rfl) rfl ⟨rfl, k1⟩


set_option maxHeartbeats 1000000 in
theorem call_list_fine {B pb mb : Nat} {sv : Value} {S : Rs} {w : World} {n b : List UInt8} (h : Rk B w pb mb sv S) (hc : S.n < 1000000000000) (hk : fateOf S ≠ 1 ∧ fateOf S ≠ 2) :
    Calls Tryz.prog 50 #[.pointer (some ⟨pb, 0, none⟩), .func (.func 62) #[.pointer (some ⟨pb, 0, none⟩)] #[], .string (bs n), .string (bs b)] w (callListPost B pb mb sv w (used S) (S.obs.map Ob.nm)) := by
  obtain ⟨ns, hns⟩ : ∃ ns, ns = S.obs.map Ob.nm := ⟨_, rfl⟩
  rw [← hns]
  have HNS := Lib.hid hns; clear hns
  have hcl := h.ok.calls
  have h0 : Rk B (w.alloc (.cells #[.string ⟨#[]⟩, .slice none 0 0, .int .i64 0] 95)) pb mb sv S := h.below ((Below.refl _ w).alloc (Nat.le_refl _) _)
  obtain ⟨c0, c1, c2, fz⟩ := h0.cells
  have f2 := fz 2
  clear fz
  have hlt := h.lt.1
  have hs1 := h0.count hc
  rw [World.setCell_alloc_past _ pb 2 _ hlt] at hs1
  have hb0 : Below w.heap.size w (w.alloc (.cells #[.string ⟨#[]⟩, .slice none 0 0, .int .i64 0] 95)) := (Below.refl _ w).alloc (Nat.le_refl _) _
  have hbox : (w.alloc (.cells #[.string ⟨#[]⟩, .slice none 0 0, .int .i64 0] 95)).heap[w.heap.size]? = some (.cells #[.string ⟨#[]⟩, .slice none 0 0, .int .i64 0] 95 (0, 0)) := heap_alloc_new w _
  have HH := Lib.hid h; have HK := Lib.hid hk; have H1 := Lib.hid hs1; have HB0 := Lib.hid hb0; have HBX := Lib.hid hbox
  clear h hk hs1 hb0 hbox h0
  go_enter Tryz.func50, Tryz.ntmps50
  go_wp2_with fail
  obtain ⟨sv1, r1, f1, t1⟩ := H1.out
  refine (fate_any r1).mono ?_
  rintro e w2 ⟨rfl, hs2⟩
  rw [fate_counted]
  have hs : RkStep B pb mb sv (w.alloc (.cells #[.string ⟨#[]⟩, .slice none 0 0, .int .i64 0] 95)) (used S) w2 := by
    obtain ⟨sv2, r2, f2', t2⟩ := hs2
    exact ⟨sv2, r2, fun k hk => f1 k (f2' k hk), t1.then t2 (fun k hk => Or.inl (f1 k hk))⟩
  clear hs2 f1 t1 r1
  have q1 : (fateOf S == 1) = false := by simpa using HK.out.1
  have q2 : (fateOf S == 2) = false := by simpa using HK.out.2
  clear HK
  generalize fateOf S = fz at q1 q2 ⊢
  obtain ⟨sv2, r2, f2, t2⟩ := hs
  go_wp2_with fail
  refine (list_eff n b r2).mono ?_
  rintro e w3 ⟨va, vc, rfl, hnm, hb3⟩
  rw [show (used S).obs = S.obs from rfl, ← HNS.out] at hnm
  rw [show (used S).obs = S.obs from rfl, ← HNS.out]
  have hz2 : w.heap.size < w2.heap.size := by have := t2.size; simp at this; omega
  have hs3 := RkStep.same r2 hb3
  have hs : RkStep B pb mb sv (w.alloc (.cells #[.string ⟨#[]⟩, .slice none 0 0, .int .i64 0] 95)) (used S) w3 := by
    obtain ⟨sv3, r3, f3, t3⟩ := hs3
    exact ⟨sv3, r3, fun k hk => f2 k (f3 k hk), t2.then t3 (fun k hk => Or.inl (f2 k hk))⟩
  clear hs3 f2 t2 r2
  obtain ⟨k0, k1⟩ := RkStep.boxed HH.out HB0.out hs (Nat.le_refl _) HBX.out
  have K0 := Lib.hid k0
  obtain ⟨⟨b0, b1, b2⟩, z0, z1, z2⟩ := box3 k0
  have K1 := Lib.hid (k1 (.string (bs [])) (.slice va ns.length vc) (.int .i64 0))
  clear k0 k1 hs
  unfold answ
  go_wp2_with fail
  have k0 := box3_set (u0 := .string (bs [])) (u1 := .slice va ns.length vc) (u2 := .int .i64 0) K0.out
  have k1 := K1.out
  have t : Turn (fun k => k = w.heap.size) w3 (((w3.setCell ⟨w.heap.size, 0, none⟩ (.string (bs []))).setCell ⟨w.heap.size, 1, none⟩ (.slice va ns.length vc)).setCell ⟨w.heap.size, 2, none⟩ (.int .i64 0)) := (((Turn.refl (fun k => k = w.heap.size) w3).setCell (p := ⟨w.heap.size, 0, none⟩) rfl _).setCell (p := ⟨w.heap.size, 1, none⟩) rfl _).setCell (p := ⟨w.heap.size, 2, none⟩) rfl _
  clear K1 K0
  generalize ((w3.setCell ⟨w.heap.size, 0, none⟩ (.string (bs []))).setCell ⟨w.heap.size, 1, none⟩ (.slice va ns.length vc)).setCell ⟨w.heap.size, 2, none⟩ (.int .i64 0) = W at k0 k1 t ⊢
  obtain ⟨⟨d0, d1, d2⟩, _⟩ := box3 k0
  exact bodyPost_ret (v := answ [] (.slice va ns.length vc) 0) (by simp [results, Tryz.results50, go_sem, answ, d0, d1, d2]) rfl ⟨va, vc, rfl, k1, owns_kept (ownsRow_base_a hnm (Nat.le_of_lt hz2)) (fun g hg => t.block g (hnm.lt g hg).2 (fun e => by have := (hnm.lt g hg).1; omega))⟩
end Go.Proofs.YtkdidinekoaobaaGreatDoor.M

/- List. -/
namespace Go.Proofs.YtkdidinekoaobaaGreatDoor.M
open Go.RowKit Go.Maps
set_option linter.unusedVariables false

def namesIf (S : Rs) : List (List UInt8) := if far S then [] else S.obs.map Ob.nm
theorem names_far {S : Rs} (h : far S) : namesIf S = [] := by unfold namesIf; rw [if_pos h]
theorem names_fine {S : Rs} (h : ¬ far S) : namesIf S = S.obs.map Ob.nm := by unfold namesIf; rw [if_neg h]

def callListAll (B pb mb : Nat) (sv : Value) (w : World) (S' : Rs) (ns : List (List UInt8)) (x : Int) (e : Ending) (w' : World) : Prop :=
  ∃ va vc, e = .returned (answ [] (.slice va ns.length vc) x) ∧ RkStep B pb mb sv w S' w' ∧ Names w w' (.slice va ns.length vc) ns

theorem call_list {B pb mb : Nat} {sv : Value} {S : Rs} {w : World} {n b : List UInt8} (h : Rk B w pb mb sv S) (hc : S.n < 1000000000000) :
    Calls Tryz.prog 50 #[.pointer (some ⟨pb, 0, none⟩), .func (.func 62) #[.pointer (some ⟨pb, 0, none⟩)] #[], .string (bs n), .string (bs b)] w (callListAll B pb mb sv w (used S) (namesIf S) (errOf S 0)) := by
  rcases fate_three S with hk | hk | hk
  · rw [err_far _ (Or.inl hk), names_far (Or.inl hk)]
    exact (call_list_lost h hc hk).mono fun e w' ⟨e1, hs⟩ => ⟨none, 0, e1, hs, World.ownsRow_nil _ _ _ _⟩
  · rw [err_far _ (Or.inr hk), names_far (Or.inr hk)]
    exact (call_list_late h hc hk).mono fun e w' ⟨e1, hs⟩ => ⟨none, 0, e1, hs, World.ownsRow_nil _ _ _ _⟩
  · rw [err_fine _ (by unfold far; omega), names_fine (by unfold far; omega)]
    exact call_list_fine h hc hk

/-- What is behind a List. -/
def listmPost (B pb : Nat) (F : Nat → Prop) (S' : Rs) (ns : List (List UInt8)) (x : Int) (w : World) (e : Ending) (w' : World) : Prop :=
  ∃ va vc, e = .returned (.tuple #[.slice va ns.length vc, .int .i64 x]) ∧ Names w w' (.slice va ns.length vc) ns ∧ ∃ F', RkS B w' pb F' S' ∧ (∀ k, F' k → F k ∨ w.heap.size ≤ k) ∧ Turn F w w'
/-- .. in no new block. -/
def listsPost (B pb : Nat) (F : Nat → Prop) (S' : Rs) (ns : List (List UInt8)) (x : Int) (w : World) (e : Ending) (w' : World) : Prop :=
  ∃ va vc, e = .returned (.tuple #[.slice va ns.length vc, .int .i64 x]) ∧ Names w w' (.slice va ns.length vc) ns ∧ ∃ F', RkS B w' pb F' S' ∧ (∀ k, F' k → F k) ∧ Turn F w w'

theorem list_s {B pb : Nat} {S : Rs} {w : World} {F : Nat → Prop} (h : RkS B w pb F S) (hc : S.n < 1000000000000) :
    Calls Tryz.prog 29 #[.pointer (some ⟨pb, 0, none⟩)] w (listsPost B pb F (used S) (namesIf S) (errOf S 0) w) := by
  obtain ⟨mb, sv, hr, hF⟩ := h
  have hmf : ∀ (fn : Fn) (first cap : Array Value) (w : World), (Instr.makeFunc fn first cap).run Tryz.prog w = .ok (.func fn first cap) w := fun _ _ _ _ => rfl
  have HC := Lib.hid (call_list (n := []) (b := []) hr hc)
  have HF := Lib.hid hF
  clear hr hF
  generalize namesIf S = ns at HC ⊢
  generalize errOf S 0 = x at HC ⊢
  go_enter Tryz.func29, Tryz.ntmps29
  go_wp2_with fail
  refine HC.out.mono ?_
  rintro e w' ⟨va, vc, rfl, hs, hnm⟩
  unfold answ
  have HS := Lib.hid hs; have HNM := Lib.hid hnm; clear hs hnm
  go_wp2_with fail
  go_region
  go_wp2
  go_ret2
  have hb : Below w'.heap.size w' (w'.alloc (.cells #[.string (bs []), .slice va ns.length vc, .int .i64 x] 95)).drew := ((Below.refl _ w').alloc (Nat.le_refl _) _).trans ⟨rfl, rfl, rfl, Nat.le_refl _, fun _ _ => rfl⟩
  obtain ⟨sv', h', hf, t⟩ := HS.out.later hb
  refine ⟨va, vc, rfl, owns_kept HNM.out (fun g hg => hb.block g (HNM.out.lt g hg).2), foot pb mb sv', ⟨mb, sv', h', fun _ => Iff.rfl⟩, fun k hk => ?_, t.mono (fun k _ hk => (HF.out k).1 hk)⟩
  exact (HF.out k).1 (hf k hk)
theorem list_m {B pb : Nat} {S : Rs} {w : World} {F : Nat → Prop} (h : RkS B w pb F S) (hc : S.n < 1000000000000) :
    Calls Tryz.prog 29 #[.pointer (some ⟨pb, 0, none⟩)] w (listmPost B pb F (used S) (namesIf S) (errOf S 0) w) :=
  (list_s h hc).mono fun _ _ ⟨va, vc, h1, h2, F', h3, h4, h5⟩ => ⟨va, vc, h1, h2, F', h3, fun k hk => Or.inl (h4 k hk), h5⟩
end Go.Proofs.YtkdidinekoaobaaGreatDoor.M
