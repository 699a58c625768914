/- The document's directory: Put. -/
import Derived.Test.YtbjginlhgedjdaaDoorKkeys
namespace Go.Proofs.YtbjginlhgedjdaaDoor.K
open Go.RowKit
set_option linter.unusedVariables false

/-- What is behind a call that turns the document's directory. -/
def RkPost (B : Nat) (w : World) (qb gb : Nat) (S' : Dr) (v : Value) (e : Ending) (w' : World) : Prop :=
  e = .returned v ∧ ∃ gb', Rk B w' qb gb' S' ∧ (gb' = gb ∨ w.heap.size ≤ gb') ∧ Turn (fun k => k = qb ∨ k = gb) w w'

/-- The position of a key that is there is laid anew. -/
theorem Rk.put4 {B qb gb : Nat} {S : Dr} {w : World} (h : Rk B w qb gb S) {i : Nat} {k : List UInt8} {v : Lc} (hi : Has S i k v) (l : Lc) :
    Rk B (w.setCells gb (i * 6 + 1) [.int .i64 l.seg, .int .i64 l.off, .int .i64 l.len, .int .u64 l.seq]) qb gb (S.set i (some (k, l))) ∧ Turn (fun k => k = gb) w (w.setCells gb (i * 6 + 1) [.int .i64 l.seg, .int .i64 l.off, .int .i64 l.len, .int .u64 l.seq]) := by
  have hil := has_lt hi
  have hg := grown_setCells gb [.int .i64 l.seg, .int .i64 l.off, .int .i64 l.len, .int .u64 l.seq] (i * 6 + 1) w
  have t : Turn (fun k => k = gb) w (w.setCells gb (i * 6 + 1) [.int .i64 l.seg, .int .i64 l.off, .int .i64 l.len, .int .u64 l.seq]) := (Turn.refl _ w).grown hg (fun k hk => Or.inl (Option.some.inj hk).symm)
  obtain ⟨cur', h1, h2, h3⟩ := block_setCells gb 63 [.int .i64 l.seg, .int .i64 l.off, .int .i64 l.len, .int .u64 l.seq] (i * 6 + 1) w _ h.row (by simp only [List.size_toArray, srows_len, List.length_cons, List.length_nil]; omega)
  refine ⟨⟨?_, ?_, ⟨h.base.1, h.base.2.1, h.base.2.2.1, Nat.le_trans h.base.2.2.2 t.size⟩, by rw [List.length_set]; exact h.few⟩, t⟩
  · rw [t.block qb h.lt.1 (fun e => h.base.2.2.1 e), List.length_set]; exact h.blk
  · rw [h1]
    have : cur' = (srows (S.set i (some (k, l)))).toArray := by
      apply Array.ext_getElem?
      intro j
      rw [h3 j]
      simp only [List.length_cons, List.length_nil, Nat.zero_add, Nat.reduceAdd]
      by_cases hj : i * 6 ≤ j ∧ j < i * 6 + 6
      · obtain ⟨t, rfl⟩ : ∃ t, j = i * 6 + t := ⟨j - i * 6, by omega⟩
        have ht : t < 6 := by omega
        have e1 : (srows (S.set i (some (k, l)))).toArray[i * 6 + t]? = (slotv (some (k, l)))[t]? := by
          rw [List.getElem?_toArray]
          exact srows_at _ i t _ (by rw [List.getElem?_set_self hil]) ht
        have e2 : (srows S).toArray[i * 6 + t]? = (slotv (some (k, v)))[t]? := by
          rw [List.getElem?_toArray]
          exact srows_at S i t _ hi ht
        rw [e1, e2]
        rcases (show t = 0 ∨ t = 1 ∨ t = 2 ∨ t = 3 ∨ t = 4 ∨ t = 5 by omega) with rfl | rfl | rfl | rfl | rfl | rfl
        · rw [if_neg (by omega)]; rfl
        · rw [if_pos (by omega), show i * 6 + 1 - (i * 6 + 1) = 0 by omega]; rfl
        · rw [if_pos (by omega), show i * 6 + 2 - (i * 6 + 1) = 1 by omega]; rfl
        · rw [if_pos (by omega), show i * 6 + 3 - (i * 6 + 1) = 2 by omega]; rfl
        · rw [if_pos (by omega), show i * 6 + 4 - (i * 6 + 1) = 3 by omega]; rfl
        · rw [if_neg (by omega)]; rfl
      · rw [if_neg (by omega)]
        have e1 : (srows (S.set i (some (k, l)))).toArray[j]? = (srows (S.set i (some (k, l))))[j]? := List.getElem?_toArray
        have e2 : (srows S).toArray[j]? = (srows S)[j]? := List.getElem?_toArray
        rw [e1, e2, srows_other hj]
    rw [this]

set_option maxHeartbeats 400000 in
theorem refput_yes {B qb gb : Nat} {S : Dr} {w : World} {k : List UInt8} {v l : Lc} {i : Nat} (h0 : Rk B w qb gb S) (ho : One S) (hi : Has S i k v) :
    Calls Tryd.prog 11 #[.pointer (some ⟨qb, 0, none⟩), .string (bs k), locV l] w (RkPost B w qb gb (S.set i (some (k, l))) (.tuple #[])) := by
  have hb0 : Below w.heap.size w (w.alloc (.cells #[.int .i64 l.seg, .int .i64 l.off, .int .i64 l.len, .int .u64 l.seq] 31)) := (Below.refl _ _).alloc (Nat.le_refl _) _
  have h := h0.below hb0
  have HA := Lib.hid (refat_yes h ho hi)
  have c0 := h.head
  have hcs := h.few
  have hil := has_lt hi
  have d0 := h.cells hi (show 0 < 6 by omega)
  have d1 := h.cells hi (show 1 < 6 by omega)
  have d2 := h.cells hi (show 2 < 6 by omega)
  have d3 := h.cells hi (show 3 < 6 by omega)
  have d4 := h.cells hi (show 4 < 6 by omega)
  rw [Nat.add_zero] at d0
  simp only [slotv, List.getElem?_cons_succ, List.getElem?_cons_zero] at d0 d1 d2 d3 d4
  have hn := heap_alloc_new w (.cells #[.int .i64 l.seg, .int .i64 l.off, .int .i64 l.len, .int .u64 l.seq] 31)
  have hc := fun t => cell_of_row _ w.heap.size t _ _ (0, 0) hn
  have e0 := hc 0; have e1 := hc 1; have e2 := hc 2; have e3 := hc 3
  simp only [List.getElem?_toArray, List.getElem?_cons_succ, List.getElem?_cons_zero] at e0 e1 e2 e3
  have fz : ∀ t, (w.alloc (.cells #[.int .i64 l.seg, .int .i64 l.off, .int .i64 l.len, .int .u64 l.seq] 31)).frozen? ⟨gb, t, none⟩ = false := fun t => by simp only [World.frozen?, h.row]; simp
  obtain ⟨L, hL⟩ : ∃ L, L = S.length := ⟨_, rfl⟩
  rw [← hL] at c0 hcs hil
  have HR := Lib.hid h; have HLL := Lib.hid hL; have HI := Lib.hid hi; have HB := Lib.hid hb0
  clear h h0 ho hi hL hn hc hb0
  unfold locV
  go_enter Tryd.func11, Tryd.ntmps11
  go_wp2_with fail
  refine HA.out.mono ?_
  rintro e w1 ⟨rfl, rfl⟩
  go_wp2_with fail
  generalize hW : w.alloc _ = W at *
  go_region
  go_wp2_with fail
  have hp := HR.out.put4 HI.out l
  refine bodyPost_ret (v := .tuple #[]) (results_none Tryd.results11 _ _ _) rfl ⟨rfl, gb, hp.1.below (Below.refl _ _).drew, Or.inl rfl, (Turn.of_below _ HB.out (Nat.le_refl _)).trans ((hp.2.mono (fun k _ hk => Or.inr hk)).drew 1)⟩
end Go.Proofs.YtbjginlhgedjdaaDoor.K
