/- list, call with it, List. -/
import Derived.Test.YtadfajeiihonfaaMlist
import Derived.Test.YtadfajeiihonfaaMcalls
namespace Go.Proofs.Ytadfajeiihonfaa
open Go.RowKit Go.Maps
set_option linter.unusedVariables false

/-- The names, in memory that is new. -/
def Names (w w' : World) (v : Value) (ns : List (List UInt8)) : Prop := w'.ownsRow w.heap.size 9 1 v ns.length (strs ns)
def listPost (w : World) (ns : List (List UInt8)) (err : Int) (e : Ending) (w' : World) : Prop := ∃ a c, e = .returned (answ [] (.slice a ns.length c) err) ∧ Names w w' (.slice a ns.length c) ns ∧ Below w.heap.size w w'

theorem list_eff {B pb mb : Nat} {sv : Value} {S : Rs} {w : World} (x y : List UInt8) (h : Rk B w pb mb sv S) :
    Calls Try.prog 30 #[.pointer (some ⟨pb, 0, none⟩), .string (bs x), .string (bs y)] w (listPost w (S.obs.map Ob.nm) 0) := by
  obtain ⟨ns, hns⟩ : ∃ ns, ns = S.obs.map Ob.nm := ⟨_, rfl⟩
  rw [← hns]
  obtain ⟨c0, c1, c2, fz⟩ := h.cells
  clear fz
  have hlt := h.lt.1
  have hb0 : Below w.heap.size w (w.alloc (.cells #[.string ⟨#[]⟩, .slice none 0 0, .int .i64 0] 50)) := (Below.refl _ w).alloc (Nat.le_refl _) _
  have h0 : Rk B (w.alloc (.cells #[.string ⟨#[]⟩, .slice none 0 0, .int .i64 0] 50)) pb mb sv S := h.below hb0
  have hs' := sorted_any h0.map h0.ok.up h0.ok.few
  have hz0 : (w.alloc (.cells #[.string ⟨#[]⟩, .slice none 0 0, .int .i64 0] 50)).heap.size = w.heap.size + 1 := by simp
  rw [hz0, ← hns] at hs'
  have hs := Lib.hid hs'
  clear hs' hz0
  have HB0 := Lib.hid hb0
  have hbx : (w.alloc (.cells #[.string ⟨#[]⟩, .slice none 0 0, .int .i64 0] 50)).heap[w.heap.size]? = some (.cells #[.string ⟨#[]⟩, .slice none 0 0, .int .i64 0] 50 (0, 0)) := heap_alloc_new w _
  have HBX := Lib.hid hbx
  clear h h0 hb0 hns hbx
  go_enter Try.func30, Try.ntmps30
  go_wp2_with fail
  refine (keys_any _ _).mono ?_
  rintro e w1 ⟨rfl, rfl⟩
  go_wp2_with fail
  refine hs.out.mono ?_
  rintro e w2 ⟨v, rfl, hrow, hb2⟩
  obtain ⟨va, vc, rfl⟩ : ∃ va vc, v = .slice va ns.length vc := by
    rcases owns_cases hrow with ⟨rfl, h0, _⟩ | ⟨g, cap, cur, hv, _⟩
    · exact ⟨none, 0, by rw [h0]⟩
    · exact ⟨_, cap, hv⟩
  have k0 : w2.heap[w.heap.size]? = some (.cells #[.string ⟨#[]⟩, .slice none 0 0, .int .i64 0] 50 (0, 0)) := by
    rw [hb2.block w.heap.size (Nat.lt_succ_self _)]; exact HBX.out
  obtain ⟨⟨b0, b1, b2⟩, z0, z1, z2⟩ := box3 k0
  have K0 := Lib.hid k0
  have HR := Lib.hid hrow; have HB2 := Lib.hid hb2
  clear k0 hrow hb2
  go_wp2_with fail
  have k0 := box3_set (u0 := .string ⟨#[]⟩) (u1 := .slice va ns.length vc) (u2 := .int .i64 0) K0.out
  have t : Turn (fun k => k = w.heap.size) w2 (((w2.setCell ⟨w.heap.size, 0, none⟩ (.string ⟨#[]⟩)).setCell ⟨w.heap.size, 1, none⟩ (.slice va ns.length vc)).setCell ⟨w.heap.size, 2, none⟩ (.int .i64 0)) := (((Turn.refl (fun k => k = w.heap.size) w2).setCell (p := ⟨w.heap.size, 0, none⟩) rfl _).setCell (p := ⟨w.heap.size, 1, none⟩) rfl _).setCell (p := ⟨w.heap.size, 2, none⟩) rfl _
  generalize ((w2.setCell ⟨w.heap.size, 0, none⟩ (.string ⟨#[]⟩)).setCell ⟨w.heap.size, 1, none⟩ (.slice va ns.length vc)).setCell ⟨w.heap.size, 2, none⟩ (.int .i64 0) = W at k0 t ⊢
  obtain ⟨⟨d0, d1, d2⟩, _⟩ := box3 k0
  have hs2 := HB2.out.size
  have hb : Below w.heap.size w W := (HB0.out.trans (HB2.out.mono (Nat.le_succ _))).trans (t.below (fun k e => Nat.le_of_eq e.symm) (by have := HB0.out.size; simp at hs2; omega))
  exact bodyPost_ret (v := answ [] (.slice va ns.length vc) 0) (by simp [results, Try.results30, go_sem, answ, d0, d1, d2]; rfl) rfl ⟨va, vc, rfl, owns_kept (ownsRow_base_a HR.out (Nat.le_succ _)) (fun g hg => t.block g (HR.out.lt g hg).2 (fun e => by have := (HR.out.lt g hg).1; omega)), hb⟩

/-! ### call with it -/
def callListPost (B pb mb : Nat) (sv : Value) (w : World) (S' : Rs) (ns : List (List UInt8)) (e : Ending) (w' : World) : Prop :=
  ∃ va vc, e = .returned (answ [] (.slice va ns.length vc) 0) ∧ RkStep B pb mb sv w S' w' ∧ Names w w' (.slice va ns.length vc) ns
set_option maxHeartbeats 1000000 in
theorem call_list_lost {B pb mb : Nat} {sv : Value} {S : Rs} {w : World} {n b : List UInt8} (h : Rk B w pb mb sv S) (hc : S.n < 1000000000000) (hk : fateOf S = 1) :
    Calls Try.prog 21 #[.pointer (some ⟨pb, 0, none⟩), .func (.func 30) #[.pointer (some ⟨pb, 0, none⟩)] #[], .string (bs n), .string (bs b)] w (effPost B pb mb sv w (used S) [] 9) := by
  have hcl := h.ok.calls
  have h0 : Rk B (w.alloc (.cells #[.string ⟨#[]⟩, .slice none 0 0, .int .i64 0] 50)) pb mb sv S := h.below ((Below.refl _ w).alloc (Nat.le_refl _) _)
  obtain ⟨c0, c1, c2, fz⟩ := h0.cells
  have f2 := fz 2
  clear fz
  have hlt := h.lt.1
  have hs1 := h0.count hc
  rw [World.setCell_alloc_past _ pb 2 _ hlt] at hs1
  have hb0 : Below w.heap.size w (w.alloc (.cells #[.string ⟨#[]⟩, .slice none 0 0, .int .i64 0] 50)) := (Below.refl _ w).alloc (Nat.le_refl _) _
  have hbox : (w.alloc (.cells #[.string ⟨#[]⟩, .slice none 0 0, .int .i64 0] 50)).heap[w.heap.size]? = some (.cells #[.string ⟨#[]⟩, .slice none 0 0, .int .i64 0] 50 (0, 0)) := heap_alloc_new w _
  have HH := Lib.hid h; have HK := Lib.hid hk; have H1 := Lib.hid hs1; have HB0 := Lib.hid hb0; have HBX := Lib.hid hbox
  clear h hk hs1 hb0 hbox h0
  go_enter Try.func21, Try.ntmps21
  go_wp2_with fail
  obtain ⟨sv1, r1, f1, t1⟩ := H1.out
  refine (fate_any r1).mono ?_
  rintro e w2 ⟨rfl, hs2⟩
  rw [fate_counted]
  have hs : RkStep B pb mb sv (w.alloc (.cells #[.string ⟨#[]⟩, .slice none 0 0, .int .i64 0] 50)) (used S) w2 := by
    obtain ⟨sv2, r2, f2', t2⟩ := hs2
    exact ⟨sv2, r2, fun k hk => by
      rcases f2' k hk with hk | hk
      · exact f1 k hk
      · exact Or.inr (Nat.le_trans t1.size hk), t1.then t2 f1⟩
  clear hs2 f1 t1 r1
  obtain ⟨k0, k1⟩ := RkStep.boxed HH.out HB0.out hs (Nat.le_refl _) HBX.out
  have K0 := Lib.hid k0
  obtain ⟨⟨b0, b1, b2⟩, z0, z1, z2⟩ := box3 k0
  have K1 := Lib.hid (k1 (.string ⟨#[]⟩) (.slice none 0 0) (.int .i64 9))
  clear k0 k1 hs
  rw [HK.out]
  go_wp2_with fail
  have k0 := box3_set (u0 := .string ⟨#[]⟩) (u1 := .slice none 0 0) (u2 := .int .i64 9) K0.out
  have k1 := K1.out
  clear K1 K0
  generalize ((w2.setCell ⟨w.heap.size, 0, none⟩ (.string ⟨#[]⟩)).setCell ⟨w.heap.size, 1, none⟩ (.slice none 0 0)).setCell ⟨w.heap.size, 2, none⟩ (.int .i64 9) = W at k0 k1 ⊢
  obtain ⟨⟨d0, d1, d2⟩, _⟩ := box3 k0
  exact bodyPost_ret (v := answ [] (.slice none 0 0) 9) (by simp [results, Try.results21, go_sem, answ, d0, d1, d2]; rfl) rfl ⟨rfl, k1⟩


set_option maxHeartbeats 1000000 in
theorem call_list_late {B pb mb : Nat} {sv : Value} {S : Rs} {w : World} {n b : List UInt8} (h : Rk B w pb mb sv S) (hc : S.n < 1000000000000) (hk : fateOf S = 2) :
    Calls Try.prog 21 #[.pointer (some ⟨pb, 0, none⟩), .func (.func 30) #[.pointer (some ⟨pb, 0, none⟩)] #[], .string (bs n), .string (bs b)] w (effPost B pb mb sv w (used S) [] 9) := by
  have hcl := h.ok.calls
  have h0 : Rk B (w.alloc (.cells #[.string ⟨#[]⟩, .slice none 0 0, .int .i64 0] 50)) pb mb sv S := h.below ((Below.refl _ w).alloc (Nat.le_refl _) _)
  obtain ⟨c0, c1, c2, fz⟩ := h0.cells
  have f2 := fz 2
  clear fz
  have hlt := h.lt.1
  have hs1 := h0.count hc
  rw [World.setCell_alloc_past _ pb 2 _ hlt] at hs1
  have hb0 : Below w.heap.size w (w.alloc (.cells #[.string ⟨#[]⟩, .slice none 0 0, .int .i64 0] 50)) := (Below.refl _ w).alloc (Nat.le_refl _) _
  have hbox : (w.alloc (.cells #[.string ⟨#[]⟩, .slice none 0 0, .int .i64 0] 50)).heap[w.heap.size]? = some (.cells #[.string ⟨#[]⟩, .slice none 0 0, .int .i64 0] 50 (0, 0)) := heap_alloc_new w _
  have HH := Lib.hid h; have HK := Lib.hid hk; have H1 := Lib.hid hs1; have HB0 := Lib.hid hb0; have HBX := Lib.hid hbox
  clear h hk hs1 hb0 hbox h0
  go_enter Try.func21, Try.ntmps21
  go_wp2_with fail
  obtain ⟨sv1, r1, f1, t1⟩ := H1.out
  refine (fate_any r1).mono ?_
  rintro e w2 ⟨rfl, hs2⟩
  rw [fate_counted]
  have hs : RkStep B pb mb sv (w.alloc (.cells #[.string ⟨#[]⟩, .slice none 0 0, .int .i64 0] 50)) (used S) w2 := by
    obtain ⟨sv2, r2, f2', t2⟩ := hs2
    exact ⟨sv2, r2, fun k hk => by
      rcases f2' k hk with hk | hk
      · exact f1 k hk
      · exact Or.inr (Nat.le_trans t1.size hk), t1.then t2 f1⟩
  clear hs2 f1 t1 r1
  rw [HK.out]
  obtain ⟨sv2, r2, f2, t2⟩ := hs
  go_wp2_with fail
  refine (list_eff n b r2).mono ?_
  rintro e w3 ⟨va, vc, rfl, hnm, hb3⟩
  rw [show (used S).obs = S.obs from rfl] at hnm ⊢
  have hs3 := RkStep.same r2 hb3
  have hs : RkStep B pb mb sv (w.alloc (.cells #[.string ⟨#[]⟩, .slice none 0 0, .int .i64 0] 50)) (used S) w3 := by
    obtain ⟨sv3, r3, f3, t3⟩ := hs3
    exact ⟨sv3, r3, fun k hk => by
      rcases f3 k hk with hk | hk
      · exact f2 k hk
      · exact Or.inr (Nat.le_trans t2.size hk), t2.then t3 f2⟩
  clear hs3 f2 t2 r2
  obtain ⟨k0, k1⟩ := RkStep.boxed HH.out HB0.out hs (Nat.le_refl _) HBX.out
  have K0 := Lib.hid k0
  obtain ⟨⟨b0, b1, b2⟩, z0, z1, z2⟩ := box3 k0
  have K1 := Lib.hid (k1 (.string ⟨#[]⟩) (.slice none 0 0) (.int .i64 9))
  clear k0 k1 hs
  unfold answ
  go_wp2_with fail
  have k0 := box3_set (u0 := .string ⟨#[]⟩) (u1 := .slice none 0 0) (u2 := .int .i64 9) K0.out
  have k1 := K1.out
  clear K1 K0
  generalize ((w3.setCell ⟨w.heap.size, 0, none⟩ (.string ⟨#[]⟩)).setCell ⟨w.heap.size, 1, none⟩ (.slice none 0 0)).setCell ⟨w.heap.size, 2, none⟩ (.int .i64 9) = W at k0 k1 ⊢
  obtain ⟨⟨d0, d1, d2⟩, _⟩ := box3 k0
  exact bodyPost_ret (v := answ [] (.slice none 0 0) 9) (by simp [results, Try.results21, go_sem, answ, d0, d1, d2]; rfl) rfl ⟨rfl, k1⟩


set_option maxHeartbeats 1000000 in
theorem call_list_fine {B pb mb : Nat} {sv : Value} {S : Rs} {w : World} {n b : List UInt8} (h : Rk B w pb mb sv S) (hc : S.n < 1000000000000) (hk : fateOf S ≠ 1 ∧ fateOf S ≠ 2) :
    Calls Try.prog 21 #[.pointer (some ⟨pb, 0, none⟩), .func (.func 30) #[.pointer (some ⟨pb, 0, none⟩)] #[], .string (bs n), .string (bs b)] w (callListPost B pb mb sv w (used S) (S.obs.map Ob.nm)) := by
  obtain ⟨ns, hns⟩ : ∃ ns, ns = S.obs.map Ob.nm := ⟨_, rfl⟩
  rw [← hns]
  have HNS := Lib.hid hns; clear hns
  have hcl := h.ok.calls
  have h0 : Rk B (w.alloc (.cells #[.string ⟨#[]⟩, .slice none 0 0, .int .i64 0] 50)) pb mb sv S := h.below ((Below.refl _ w).alloc (Nat.le_refl _) _)
  obtain ⟨c0, c1, c2, fz⟩ := h0.cells
  have f2 := fz 2
  clear fz
  have hlt := h.lt.1
  have hs1 := h0.count hc
  rw [World.setCell_alloc_past _ pb 2 _ hlt] at hs1
  have hb0 : Below w.heap.size w (w.alloc (.cells #[.string ⟨#[]⟩, .slice none 0 0, .int .i64 0] 50)) := (Below.refl _ w).alloc (Nat.le_refl _) _
  have hbox : (w.alloc (.cells #[.string ⟨#[]⟩, .slice none 0 0, .int .i64 0] 50)).heap[w.heap.size]? = some (.cells #[.string ⟨#[]⟩, .slice none 0 0, .int .i64 0] 50 (0, 0)) := heap_alloc_new w _
  have HH := Lib.hid h; have HK := Lib.hid hk; have H1 := Lib.hid hs1; have HB0 := Lib.hid hb0; have HBX := Lib.hid hbox
  clear h hk hs1 hb0 hbox h0
  go_enter Try.func21, Try.ntmps21
  go_wp2_with fail
  obtain ⟨sv1, r1, f1, t1⟩ := H1.out
  refine (fate_any r1).mono ?_
  rintro e w2 ⟨rfl, hs2⟩
  rw [fate_counted]
  have hs : RkStep B pb mb sv (w.alloc (.cells #[.string ⟨#[]⟩, .slice none 0 0, .int .i64 0] 50)) (used S) w2 := by
    obtain ⟨sv2, r2, f2', t2⟩ := hs2
    exact ⟨sv2, r2, fun k hk => by
      rcases f2' k hk with hk | hk
      · exact f1 k hk
      · exact Or.inr (Nat.le_trans t1.size hk), t1.then t2 f1⟩
  clear hs2 f1 t1 r1
  have q1 : (fateOf S == 1) = false := by simpa using HK.out.1
  have q2 : (fateOf S == 2) = false := by simpa using HK.out.2
  clear HK
  generalize fateOf S = fz at q1 q2 ⊢
  obtain ⟨sv2, r2, f2, t2⟩ := hs
  go_wp2_with fail
  refine (list_eff n b r2).mono ?_
  rintro e w3 ⟨va, vc, rfl, hnm, hb3⟩
  rw [show (used S).obs = S.obs from rfl, ← HNS.out] at hnm
  rw [show (used S).obs = S.obs from rfl, ← HNS.out]
  have hz2 : w.heap.size < w2.heap.size := by have := t2.size; simp at this; omega
  have hs3 := RkStep.same r2 hb3
  have hs : RkStep B pb mb sv (w.alloc (.cells #[.string ⟨#[]⟩, .slice none 0 0, .int .i64 0] 50)) (used S) w3 := by
    obtain ⟨sv3, r3, f3, t3⟩ := hs3
    exact ⟨sv3, r3, fun k hk => by
      rcases f3 k hk with hk | hk
      · exact f2 k hk
      · exact Or.inr (Nat.le_trans t2.size hk), t2.then t3 f2⟩
  clear hs3 f2 t2 r2
  obtain ⟨k0, k1⟩ := RkStep.boxed HH.out HB0.out hs (Nat.le_refl _) HBX.out
  have K0 := Lib.hid k0
  obtain ⟨⟨b0, b1, b2⟩, z0, z1, z2⟩ := box3 k0
  have K1 := Lib.hid (k1 (.string (bs [])) (.slice va ns.length vc) (.int .i64 0))
  clear k0 k1 hs
  unfold answ
  go_wp2_with fail
  have k0 := box3_set (u0 := .string (bs [])) (u1 := .slice va ns.length vc) (u2 := .int .i64 0) K0.out
  have k1 := K1.out
  have t : Turn (fun k => k = w.heap.size) w3 (((w3.setCell ⟨w.heap.size, 0, none⟩ (.string (bs []))).setCell ⟨w.heap.size, 1, none⟩ (.slice va ns.length vc)).setCell ⟨w.heap.size, 2, none⟩ (.int .i64 0)) := (((Turn.refl (fun k => k = w.heap.size) w3).setCell (p := ⟨w.heap.size, 0, none⟩) rfl _).setCell (p := ⟨w.heap.size, 1, none⟩) rfl _).setCell (p := ⟨w.heap.size, 2, none⟩) rfl _
  clear K1 K0
  generalize ((w3.setCell ⟨w.heap.size, 0, none⟩ (.string (bs []))).setCell ⟨w.heap.size, 1, none⟩ (.slice va ns.length vc)).setCell ⟨w.heap.size, 2, none⟩ (.int .i64 0) = W at k0 k1 t ⊢
  obtain ⟨⟨d0, d1, d2⟩, _⟩ := box3 k0
  exact bodyPost_ret (v := answ [] (.slice va ns.length vc) 0) (by simp [results, Try.results21, go_sem, answ, d0, d1, d2]) rfl ⟨va, vc, rfl, k1, owns_kept (ownsRow_base_a hnm (Nat.le_of_lt hz2)) (fun g hg => t.block g (hnm.lt g hg).2 (fun e => by have := (hnm.lt g hg).1; omega))⟩
end Go.Proofs.Ytadfajeiihonfaa
