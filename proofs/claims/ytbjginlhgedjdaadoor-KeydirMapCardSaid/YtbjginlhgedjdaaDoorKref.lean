/- The document's directory in memory: its own block, its places; the first of its calls. -/
import Derived.Test.YtbjginlhgedjdaaDoorKmap
import Derived.Test.YtbjginlhgedjdaaDoorAplaces
import Derived.Test.YtbjginlhgedjdaaDoorBmem
import Derived.Deep.DeepCutAuto
import Derived.Deep.RegionHeld3
import Derived.Maps.AppendAt
namespace Go.Proofs.YtbjginlhgedjdaaDoor.K
open Go.RowKit
set_option linter.unusedVariables false

/-- What is told of a key. -/
structure Lc where
  seg : Int
  off : Int
  len : Int
  seq : Int
deriving DecidableEq
/-- The places of a directory. -/
abbrev Dr := Ring (List UInt8) Lc
/-- A key's home. -/
def hm (k : List UInt8) (c : Nat) : Nat := (place k (c : Int)).toNat
theorem place_range (k : List UInt8) (c : Nat) (hc : 0 < c) : 0 ≤ place k (c : Int) ∧ place k (c : Int) < c := by
  by_cases h : ∃ p, p ≤ 30 ∧ (c : Int) = (2 : Int) ^ p
  · obtain ⟨p, hp, e⟩ := h
    rw [e, place_pow k hp, cast_pow]
    have : mixN (sumN k) % 2 ^ p < 2 ^ p := Nat.mod_lt _ (Nat.two_pow_pos p)
    omega
  · rw [place_none h]; omega
theorem homeLt : HomeLt hm := fun k c hc => by
  have := place_range k c hc
  unfold hm; omega
theorem place_hm (k : List UInt8) {c : Nat} (hc : 0 < c) : place k (c : Int) = ((hm k c : Nat) : Int) := by
  have := place_range k c hc
  unfold hm; omega

/-- The cells of a place. -/
def slotv : Option (Ent Lc) → List Value
  | none => [.string ⟨#[]⟩, .int .i64 0, .int .i64 0, .int .i64 0, .int .u64 0, .bool false]
  | some s => [.string (bs s.1), .int .i64 s.2.seg, .int .i64 s.2.off, .int .i64 s.2.len, .int .u64 s.2.seq, .bool true]
theorem slotv_len (o : Option (Ent Lc)) : (slotv o).length = 6 := by cases o <;> rfl
def srows : Dr → List Value
  | [] => []
  | o :: r => slotv o ++ srows r
theorem srows_len : ∀ S : Dr, (srows S).length = S.length * 6
  | [] => rfl
  | o :: r => by simp only [srows, List.length_append, slotv_len, srows_len r, List.length_cons]; omega
theorem srows_at : ∀ (S : Dr) (i j : Nat) (o : Option (Ent Lc)), S[i]? = some o → j < 6 → (srows S)[i * 6 + j]? = (slotv o)[j]?
  | [], _, _, _, h, _ => by simp at h
  | x :: r, 0, j, o, h, hj => by
    simp at h; subst h
    rw [srows, Nat.zero_mul, Nat.zero_add, List.getElem?_append_left (by rw [slotv_len]; exact hj)]
  | x :: r, i + 1, j, o, h, hj => by
    have := srows_at r i j o (by simpa using h) hj
    rw [srows, List.getElem?_append_right (by rw [slotv_len]; omega), slotv_len, ← this]
    congr 1; omega
theorem srows_other {S : Dr} {i t : Nat} {o : Option (Ent Lc)} (ht : ¬ (i * 6 ≤ t ∧ t < i * 6 + 6)) : (srows (S.set i o))[t]? = (srows S)[t]? := by
  by_cases hl : t < S.length * 6
  · obtain ⟨q, r, hr, rfl⟩ : ∃ q r, r < 6 ∧ t = q * 6 + r := ⟨t / 6, t % 6, Nat.mod_lt _ (by omega), by omega⟩
    have hq : q < S.length := by omega
    have hne : i ≠ q := fun e => by subst e; omega
    have h1 : S[q]? = some S[q] := List.getElem?_eq_getElem hq
    have h2 : (S.set i o)[q]? = some S[q] := by rw [List.getElem?_set_ne hne]; exact h1
    rw [srows_at _ _ _ _ h1 hr, srows_at _ _ _ _ h2 hr]
  · rw [List.getElem?_eq_none (by rw [srows_len, List.length_set]; omega), List.getElem?_eq_none (by rw [srows_len]; omega)]

/-- The document's directory: block qb, its places in block gb. -/
structure Rk (B : Nat) (w : World) (qb gb : Nat) (S : Dr) : Prop where
  blk : w.heap[qb]? = some (.cells #[.slice (some ⟨gb, 0, none⟩) S.length S.length] 43 (0, 0))
  row : w.heap[gb]? = some (.cells (srows S).toArray 63 (0, 0))
  base : B ≤ qb ∧ B ≤ gb ∧ qb ≠ gb ∧ B ≤ w.heap.size
  few : S.length ≤ 1024
section
variable {B qb gb : Nat} {S : Dr} {w w' : World}
theorem Rk.lt (h : Rk B w qb gb S) : qb < w.heap.size ∧ gb < w.heap.size := ⟨(Array.getElem?_eq_some_iff.1 h.blk).1, (Array.getElem?_eq_some_iff.1 h.row).1⟩
theorem Rk.kept {G : Nat → Prop} (h : Rk B w qb gb S) (t : Turn G w w') (hG : ∀ k, k < w.heap.size → (k = qb ∨ k = gb) → ¬ G k) : Rk B w' qb gb S := by
  obtain ⟨l1, l2⟩ := h.lt
  exact { h with
    blk := by rw [t.block qb l1 (hG qb l1 (Or.inl rfl))]; exact h.blk
    row := by rw [t.block gb l2 (hG gb l2 (Or.inr rfl))]; exact h.row
    base := ⟨h.base.1, h.base.2.1, h.base.2.2.1, Nat.le_trans h.base.2.2.2 t.size⟩ }
theorem Rk.below (h : Rk B w qb gb S) (t : Below w.heap.size w w') : Rk B w' qb gb S := h.kept (Turn.of_below (fun _ => False) t (Nat.le_refl _)) (fun _ _ _ f => f)
theorem Rk.head (h : Rk B w qb gb S) : w.cell? ⟨qb, 0, none⟩ = some (.slice (some ⟨gb, 0, none⟩) S.length S.length) := by
  rw [cell_of_row w qb 0 _ _ (0, 0) h.blk]; rfl
theorem Rk.cells (h : Rk B w qb gb S) {i j : Nat} {o : Option (Ent Lc)} (ho : S[i]? = some o) (hj : j < 6) : w.cell? ⟨gb, i * 6 + j, none⟩ = (slotv o)[j]? := by
  rw [cell_of_row w gb _ _ _ (0, 0) h.row, ← srows_at S i j o ho hj]; simp
end

/-- The six cells of a place are laid anew. -/
theorem Rk.put {B qb gb : Nat} {S : Dr} {w : World} (h : Rk B w qb gb S) {i : Nat} (hi : i < S.length) (o : Option (Ent Lc)) :
    Rk B (w.setCells gb (i * 6) (slotv o)) qb gb (S.set i o) ∧ Turn (fun k => k = gb) w (w.setCells gb (i * 6) (slotv o)) := by
  have hg := grown_setCells gb (slotv o) (i * 6) w
  have t : Turn (fun k => k = gb) w (w.setCells gb (i * 6) (slotv o)) := (Turn.refl _ w).grown hg (fun k hk => Or.inl (Option.some.inj hk).symm)
  obtain ⟨cur', h1, h2, h3⟩ := block_setCells gb 63 (slotv o) (i * 6) w _ h.row (by rw [slotv_len]; simp only [List.size_toArray, srows_len]; omega)
  refine ⟨⟨?_, ?_, ⟨h.base.1, h.base.2.1, h.base.2.2.1, Nat.le_trans h.base.2.2.2 t.size⟩, by rw [List.length_set]; exact h.few⟩, t⟩
  · rw [t.block qb h.lt.1 (fun e => h.base.2.2.1 e), List.length_set]; exact h.blk
  · rw [h1]
    have : cur' = (srows (S.set i o)).toArray := by
      apply Array.ext_getElem?
      intro j
      rw [h3 j, slotv_len]
      by_cases hj : i * 6 ≤ j ∧ j < i * 6 + 6
      · rw [if_pos hj]
        obtain ⟨t, rfl⟩ : ∃ t, j = i * 6 + t := ⟨j - i * 6, by omega⟩
        rw [List.getElem?_toArray, srows_at (S.set i o) i t o (by rw [List.getElem?_set_self hi]) (by omega)]
        congr 1; omega
      · rw [if_neg hj, List.getElem?_toArray, List.getElem?_toArray, srows_other hj]
    rw [this]

set_option maxHeartbeats 400000 in
theorem refat_no {B qb gb : Nat} {S : Dr} {w : World} {k : List UInt8} (h : Rk B w qb gb S) (hn : ∀ i v, ¬ Has S i k v) :
    Calls Tryd.prog 27 #[.pointer (some ⟨qb, 0, none⟩), .string (bs k)] w fun e w' => e = .returned (.int .i64 (-1)) ∧ w = w' := by
  have c0 := h.head
  have hcs := h.few
  obtain ⟨L, hL⟩ : ∃ L, L = S.length := ⟨_, rfl⟩
  rw [← hL] at c0 hcs
  have HL := Lib.hid hL; have HR := Lib.hid h; have HN := Lib.hid hn
  clear hL h hn
  go_enter Tryd.func27, Tryd.ntmps27
  go_wp2
  go_loopg [5] L (fun g it wr => ∃ i : Nat, i + g = L ∧ it = .int .i64 i ∧ w = wr)
  case atStart => exact ⟨0, by omega, rfl, rfl⟩
  case round =>
    obtain ⟨i, hi, rfl, rfl⟩ := hrel
    by_cases hlt : i < L
    · obtain ⟨o, ho⟩ : ∃ o, S[i]? = some o := ⟨S[i]'(by have := HL.out; omega), List.getElem?_eq_getElem _⟩
      have d5 := HR.out.cells ho (show 5 < 6 by omega)
      have d0 := HR.out.cells ho (show 0 < 6 by omega)
      rw [Nat.add_zero] at d0
      cases o with
      | none =>
        simp only [slotv, List.getElem?_cons_succ, List.getElem?_cons_zero] at d0 d5
        clear ho
        go_wp2
        go_roundg (gk - 1)
        case measure => omega
        case rel => exact ⟨i + 1, by omega, by go_num, rfl⟩
      | some s =>
        simp only [slotv, List.getElem?_cons_succ, List.getElem?_cons_zero] at d0 d5
        have hne : s.1 ≠ k := fun e => HN.out i s.2 (by unfold Has; rw [ho, ← e])
        have hneq : ((bs s.1).toList == (bs k).toList) = false := by rw [bs_toList, bs_toList]; simpa using hne
        clear ho hne
        go_wp2
        go_roundg (gk - 1)
        case measure => omega
        case rel => exact ⟨i + 1, by omega, by go_num, rfl⟩
    · obtain rfl : i = L := by omega
      go_wp2
      go_ret
      exact ⟨rfl, rfl⟩

set_option maxHeartbeats 400000 in
theorem refat_yes {B qb gb : Nat} {S : Dr} {w : World} {k : List UInt8} {v : Lc} {i : Nat} (h : Rk B w qb gb S) (ho : One S) (hi : Has S i k v) :
    Calls Tryd.prog 27 #[.pointer (some ⟨qb, 0, none⟩), .string (bs k)] w fun e w' => e = .returned (.int .i64 i) ∧ w = w' := by
  have c0 := h.head
  have hcs := h.few
  have hil := has_lt hi
  obtain ⟨L, hL⟩ : ∃ L, L = S.length := ⟨_, rfl⟩
  rw [← hL] at c0 hcs hil
  have HL := Lib.hid hL; have HR := Lib.hid h; have HI := Lib.hid hi; have HO := Lib.hid ho
  clear hL h hi ho
  go_enter Tryd.func27, Tryd.ntmps27
  go_wp2
  go_loopg [5] i (fun g it wr => ∃ j : Nat, j + g = i ∧ it = .int .i64 j ∧ w = wr)
  case atStart => exact ⟨0, by omega, rfl, rfl⟩
  case round =>
    obtain ⟨j, hj, rfl, rfl⟩ := hrel
    have hjL : j < L := by omega
    by_cases hlt : j < i
    · obtain ⟨o, ho⟩ : ∃ o, S[j]? = some o := ⟨S[j]'(by have := HL.out; omega), List.getElem?_eq_getElem _⟩
      have d5 := HR.out.cells ho (show 5 < 6 by omega)
      have d0 := HR.out.cells ho (show 0 < 6 by omega)
      rw [Nat.add_zero] at d0
      cases o with
      | none =>
        simp only [slotv, List.getElem?_cons_succ, List.getElem?_cons_zero] at d0 d5
        clear ho
        go_wp2
        go_roundg (gk - 1)
        case measure => omega
        case rel => exact ⟨j + 1, by omega, by go_num, rfl⟩
      | some s =>
        simp only [slotv, List.getElem?_cons_succ, List.getElem?_cons_zero] at d0 d5
        have hne : s.1 ≠ k := fun e => by
          have := HO.out i j k v s.2 HI.out (by unfold Has; rw [ho, ← e])
          omega
        have hneq : ((bs s.1).toList == (bs k).toList) = false := by rw [bs_toList, bs_toList]; simpa using hne
        clear ho hne
        go_wp2
        go_roundg (gk - 1)
        case measure => omega
        case rel => exact ⟨j + 1, by omega, by go_num, rfl⟩
    · obtain rfl : j = i := by omega
      have d5 := HR.out.cells HI.out (show 5 < 6 by omega)
      have d0 := HR.out.cells HI.out (show 0 < 6 by omega)
      rw [Nat.add_zero] at d0
      simp only [slotv, List.getElem?_cons_succ, List.getElem?_cons_zero] at d0 d5
      have heq : ((bs k).toList == (bs k).toList) = true := by simp
      go_wp2
      go_ret
      exact ⟨rfl, rfl⟩
end Go.Proofs.YtbjginlhgedjdaaDoor.K
