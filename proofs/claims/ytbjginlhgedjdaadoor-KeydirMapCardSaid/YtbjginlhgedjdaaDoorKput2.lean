/- The document's directory: Put of a new key, with room. -/
import Derived.Test.YtbjginlhgedjdaaDoorKput
namespace Go.Proofs.YtbjginlhgedjdaaDoor.K
open Go.RowKit
set_option linter.unusedVariables false

theorem keysOf_len (S : Dr) : (keysOf S).length = cnt S := by unfold keysOf; rw [List.length_map, sre_len]

set_option maxHeartbeats 1000000 in
theorem refput_fit {B qb gb : Nat} {S : Dr} {w : World} {k : List UInt8} {l : Lc} (h0 : Rk B w qb gb S) (ho : One S) (hn : ∀ i v, ¬ Has S i k v) (hk : k.length ≤ maxLen) (hc : cnt S < S.length) (hfit : ¬ S.length < 2 * (cnt S + 1)) :
    Calls Tryd.prog 11 #[.pointer (some ⟨qb, 0, none⟩), .string (bs k), locV l] w (RkPost B w qb gb (lay hm S (k, l)) (.tuple #[])) := by
  have hb0 : Below w.heap.size w (w.alloc (.cells #[.int .i64 l.seg, .int .i64 l.off, .int .i64 l.len, .int .u64 l.seq] 31)) := (Below.refl _ _).alloc (Nat.le_refl _) _
  have h := h0.below hb0
  have HA := Lib.hid (refat_no h hn)
  have HKY := Lib.hid (refkeys_any h ho)
  have hcs := h.few
  have hn0 := heap_alloc_new w (.cells #[.int .i64 l.seg, .int .i64 l.off, .int .i64 l.len, .int .u64 l.seq] 31)
  have hkl := keysOf_len S
  obtain ⟨L, hL⟩ : ∃ L, L = S.length := ⟨_, rfl⟩
  obtain ⟨M, hM⟩ : ∃ M, M = cnt S := ⟨_, rfl⟩
  rw [← hL] at hcs hfit hc
  rw [← hM] at hfit hc hkl
  have HR := Lib.hid h; have HLL := Lib.hid hL; have HMM := Lib.hid hM; have HB := Lib.hid hb0; have HN0 := Lib.hid hn0; have HKL := Lib.hid hkl; have HN := Lib.hid hn
  clear h h0 ho hL hM hn0 hb0 hkl hn
  unfold locV
  go_enter Tryd.func11, Tryd.ntmps11
  go_wp2_with fail
  refine HA.out.mono ?_
  rintro e w1 ⟨rfl, rfl⟩
  go_wp2_with fail
  refine HKY.out.mono ?_
  rintro e w2 ⟨v, rfl, hs2, b2⟩
  obtain ⟨ua, uc, hu⟩ := ss_form hs2
  rw [HKL.out] at hu
  subst hu
  generalize hW : w.alloc _ = W at *
  have hR2 := HR.out.below b2
  have c0 := hR2.head
  rw [← HLL.out] at c0
  have hwl : w.heap.size < W.heap.size := (Array.getElem?_eq_some_iff.1 HN0.out).1
  have hcl := fun t => cell_of_row w2 w.heap.size t _ _ (0, 0) (by rw [b2.block _ hwl]; exact HN0.out)
  have e0 := hcl 0; have e1 := hcl 1; have e2 := hcl 2; have e3 := hcl 3
  simp only [List.getElem?_toArray, List.getElem?_cons_succ, List.getElem?_cons_zero] at e0 e1 e2 e3
  have HB2 := Lib.hid b2; have HR2 := Lib.hid hR2
  clear hs2 b2 hR2 hcl
  go_wp2_with fail
  obtain ⟨x, hx⟩ := empty_is (S := S) (by rw [← HLL.out, ← HMM.out]; exact hc)
  refine (reflay_any (s := (k, l)) HR2.out hk hx).mono ?_
  rintro e w3 ⟨rfl, hr3, t3⟩
  have HR3 := Lib.hid hr3; have HT3 := Lib.hid t3
  clear hr3 t3 hx e0 e1 e2 e3 c0
  go_wp2_with fail
  go_end0
  exact ⟨rfl, gb, HR3.out, Or.inl rfl, (Turn.of_below _ (HB.out.trans (HB2.out.mono HB.out.size)) (Nat.le_refl _)).trans (HT3.out.mono (fun k _ hk => Or.inr hk))⟩
end Go.Proofs.YtbjginlhgedjdaaDoor.K
