/- The program's directory in memory: its own block, its ring; the small calls. -/
import Derived.Test.YtbjginlhgedjdaaDoorKcalls
namespace Go.Proofs.YtbjginlhgedjdaaDoor.K
open Go.RowKit
set_option linter.unusedVariables false

/-- The program's directory: block pb, its ring in block rb, n keys told. -/
structure Pk (B : Nat) (w : World) (pb rb n : Nat) (S : Dr) : Prop where
  blk : w.heap[pb]? = some (.cells #[.slice (some ⟨rb, 0, none⟩) S.length S.length, .int .i64 n] 57 (0, 0))
  row : w.heap[rb]? = some (.cells (srows S).toArray 61 (0, 0))
  base : B ≤ pb ∧ B ≤ rb ∧ pb ≠ rb ∧ B ≤ w.heap.size
  few : S.length ≤ 1024
  cnt : n ≤ 1024
section
variable {B pb rb n : Nat} {S : Dr} {w w' : World}
theorem Pk.lt (h : Pk B w pb rb n S) : pb < w.heap.size ∧ rb < w.heap.size := ⟨(Array.getElem?_eq_some_iff.1 h.blk).1, (Array.getElem?_eq_some_iff.1 h.row).1⟩
theorem Pk.kept {G : Nat → Prop} (h : Pk B w pb rb n S) (t : Turn G w w') (hG : ∀ k, k < w.heap.size → (k = pb ∨ k = rb) → ¬ G k) : Pk B w' pb rb n S := by
  obtain ⟨l1, l2⟩ := h.lt
  exact { h with
    blk := by rw [t.block pb l1 (hG pb l1 (Or.inl rfl))]; exact h.blk
    row := by rw [t.block rb l2 (hG rb l2 (Or.inr rfl))]; exact h.row
    base := ⟨h.base.1, h.base.2.1, h.base.2.2.1, Nat.le_trans h.base.2.2.2 t.size⟩ }
theorem Pk.below (h : Pk B w pb rb n S) (t : Below w.heap.size w w') : Pk B w' pb rb n S := h.kept (Turn.of_below (fun _ => False) t (Nat.le_refl _)) (fun _ _ _ f => f)
theorem Pk.head (h : Pk B w pb rb n S) : w.cell? ⟨pb, 0, none⟩ = some (.slice (some ⟨rb, 0, none⟩) S.length S.length) := by
  rw [cell_of_row w pb 0 _ _ (0, 0) h.blk]; rfl
theorem Pk.many (h : Pk B w pb rb n S) : w.cell? ⟨pb, 1, none⟩ = some (.int .i64 n) := by
  rw [cell_of_row w pb 1 _ _ (0, 0) h.blk]; rfl
theorem Pk.cells (h : Pk B w pb rb n S) {i j : Nat} {o : Option (Ent Lc)} (ho : S[i]? = some o) (hj : j < 6) : w.cell? ⟨rb, i * 6 + j, none⟩ = (slotv o)[j]? := by
  rw [cell_of_row w rb _ _ _ (0, 0) h.row, ← srows_at S i j o ho hj]; simp
end

/-- The six cells of a place are laid anew. -/
theorem Pk.put {B pb rb n : Nat} {S : Dr} {w : World} (h : Pk B w pb rb n S) {i : Nat} (hi : i < S.length) (o : Option (Ent Lc)) :
    Pk B (w.setCells rb (i * 6) (slotv o)) pb rb n (S.set i o) ∧ Turn (fun k => k = rb) w (w.setCells rb (i * 6) (slotv o)) := by
  have hg := grown_setCells rb (slotv o) (i * 6) w
  have t : Turn (fun k => k = rb) w (w.setCells rb (i * 6) (slotv o)) := (Turn.refl _ w).grown hg (fun k hk => Or.inl (Option.some.inj hk).symm)
  obtain ⟨cur', h1, h2, h3⟩ := block_setCells rb 61 (slotv o) (i * 6) w _ h.row (by rw [slotv_len]; simp only [List.size_toArray, srows_len]; omega)
  refine ⟨⟨?_, ?_, ⟨h.base.1, h.base.2.1, h.base.2.2.1, Nat.le_trans h.base.2.2.2 t.size⟩, by rw [List.length_set]; exact h.few, h.cnt⟩, t⟩
  · rw [t.block pb h.lt.1 (fun e => h.base.2.2.1 e), List.length_set]; exact h.blk
  · rw [h1]
    have : cur' = (srows (S.set i o)).toArray := by
      apply Array.ext_getElem?
      intro j
      rw [h3 j, slotv_len]
      by_cases hj : i * 6 ≤ j ∧ j < i * 6 + 6
      · rw [if_pos hj]
        obtain ⟨t, rfl⟩ : ∃ t, j = i * 6 + t := ⟨j - i * 6, by omega⟩
        rw [List.getElem?_toArray, srows_at (S.set i o) i t o (by rw [List.getElem?_set_self hi]) (by omega)]
        congr 1; omega
      · rw [if_neg hj, List.getElem?_toArray, List.getElem?_toArray, srows_other hj]
    rw [this]
/-- The number of keys is laid anew. -/
theorem Pk.num {B pb rb n m : Nat} {S : Dr} {w : World} (h : Pk B w pb rb n S) (hm : m ≤ 1024) :
    Pk B (w.setCell ⟨pb, 1, none⟩ (.int .i64 m)) pb rb m S ∧ Turn (fun k => k = pb) w (w.setCell ⟨pb, 1, none⟩ (.int .i64 m)) := by
  have t : Turn (fun k => k = pb) w (w.setCell ⟨pb, 1, none⟩ (.int .i64 m)) := Turn.setCell (F := fun k => k = pb) (p := ⟨pb, 1, none⟩) (Turn.refl _ w) rfl _
  refine ⟨⟨?_, ?_, ⟨h.base.1, h.base.2.1, h.base.2.2.1, Nat.le_trans h.base.2.2.2 t.size⟩, h.few, hm⟩, t⟩
  · rw [heap_setCell_same w pb 1 _ _ _ h.blk]; rfl
  · rw [t.block rb h.lt.2 (fun e => h.base.2.2.1 e.symm)]; exact h.row

section
variable {B pb rb n : Nat} {S : Dr} {w : World}
set_option maxHeartbeats 400000 in
theorem plen_any (h : Pk B w pb rb n S) : Calls Tryd.prog 17 #[.pointer (some ⟨pb, 0, none⟩)] w fun e w' => e = .returned (.int .i64 n) ∧ w = w' := by
  have c1 := h.many
  clear h
  go_enter Tryd.func17, Tryd.ntmps17
  go_wp2
  go_ret
  exact ⟨rfl, rfl⟩
set_option maxHeartbeats 400000 in
theorem pcap_any (h : Pk B w pb rb n S) : Calls Tryd.prog 18 #[.pointer (some ⟨pb, 0, none⟩)] w fun e w' => e = .returned (.int .i64 (S.length : Nat)) ∧ w = w' := by
  have c1 := h.head
  clear h
  generalize S.length = L at *
  go_enter Tryd.func18, Tryd.ntmps18
  go_wp2
  go_ret
  exact ⟨rfl, rfl⟩
set_option maxHeartbeats 400000 in
theorem pempty_any (h : Pk B w pb rb n S) {i : Nat} {o : Option (Ent Lc)} (ho : S[i]? = some o) : Calls Tryd.prog 25 #[.pointer (some ⟨pb, 0, none⟩), .int .i64 i] w fun e w' => e = .returned (.bool o.isNone) ∧ w = w' := by
  have c1 := h.head
  have hcs := h.few
  have hil := (List.getElem?_eq_some_iff.1 ho).1
  have d1 := h.cells ho (show 1 < 6 by omega)
  have d2 := h.cells ho (show 2 < 6 by omega)
  have d3 := h.cells ho (show 3 < 6 by omega)
  have d4 := h.cells ho (show 4 < 6 by omega)
  have d5 := h.cells ho (show 5 < 6 by omega)
  clear h ho
  generalize S.length = L at *
  cases o with
  | none =>
    simp only [slotv, List.getElem?_cons_succ, List.getElem?_cons_zero] at d1 d2 d3 d4 d5
    go_enter Tryd.func25, Tryd.ntmps25
    go_wp2
    go_ret
    exact ⟨rfl, rfl⟩
  | some s =>
    simp only [slotv, List.getElem?_cons_succ, List.getElem?_cons_zero] at d1 d2 d3 d4 d5
    go_enter Tryd.func25, Tryd.ntmps25
    go_wp2
    go_ret
    exact ⟨rfl, rfl⟩
set_option maxHeartbeats 400000 in
theorem pnext_any (h : Pk B w pb rb n S) {i : Nat} (hi : i < S.length) : Calls Tryd.prog 29 #[.pointer (some ⟨pb, 0, none⟩), .int .i64 i] w fun e w' => e = .returned (.int .i64 (nx S.length i : Nat)) ∧ w = w' := by
  have HC := Lib.hid (pcap_any h)
  have hcs := h.few
  have hmod : ((i : Int) + 1) % ((S.length : Nat) : Int) = ((nx S.length i : Nat) : Int) := by unfold nx; push_cast; rfl
  have hnl := nx_lt hi
  clear h
  generalize nx S.length i = j at *
  generalize S.length = L at *
  go_enter Tryd.func29, Tryd.ntmps29
  go_wp2_with (go_at_call 18; refine HC.out.mono ?_; rintro e w1 ⟨rfl, rfl⟩)
  go_ret
  exact ⟨by first | rfl | exact congrArg (fun x => Ending.returned (Value.int .i64 x)) hmod, rfl⟩
set_option maxHeartbeats 400000 in
theorem phome_any (h : Pk B w pb rb n S) (hM : Ml B w) {k : List UInt8} (hk : k.length ≤ maxLen) (h0 : 0 < S.length) : Calls Tryd.prog 30 #[.pointer (some ⟨pb, 0, none⟩), .string (bs k)] w fun e w' => e = .returned (.int .i64 (hm k S.length : Nat)) ∧ w = w' := by
  have HC := Lib.hid (pcap_any h)
  have hcs := h.few
  have hpl := place_hm k h0
  have hP := place_any (bs k) (S.length : Int) w (by rw [bs_size]; unfold maxLen at hk; omega) (by omega) (by omega) hM
  rw [bs_list, hpl] at hP
  have HP := Lib.hid hP
  clear h hM hP hpl
  generalize hm k S.length = H at *
  generalize S.length = L at *
  go_enter Tryd.func30, Tryd.ntmps30
  go_wp2_with (first
    | (go_at_call 18; refine HC.out.mono ?_; rintro e w1 ⟨rfl, rfl⟩)
    | (go_at_call 33; refine HP.out.mono ?_; rintro e w1 ⟨rfl, rfl⟩))
  go_ret
  exact ⟨rfl, rfl⟩
end
end Go.Proofs.YtbjginlhgedjdaaDoor.K
