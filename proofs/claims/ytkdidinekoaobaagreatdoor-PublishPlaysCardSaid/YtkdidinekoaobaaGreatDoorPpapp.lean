/- slices.Clone of the program's segments. -/
import Derived.Test.YtkdidinekoaobaaGreatDoorPapp
import Derived.Test.YtkdidinekoaobaaGreatDoorBb
namespace Go.Proofs.YtkdidinekoaobaaGreatDoor.P
open Go.RowKit M J
set_option linter.unusedVariables false
set_option linter.unusedSimpArgs false

theorem infoPSeg : (Tryz.prog.info? 51).map (fun i => (i.zero, i.size, i.bytes)) = some (some (.agg #[.int .i64 0, .int .i64 0, .int .u32 0]), 3, 24) := by kernel_rfl
theorem src_psgs {w : World} {a : Option Addr} {l : List Sg} {c : Nat} (h : SgsIn w a l) : Src Tryz.prog 3 31 (.slice a l.length c) l.length (sflat l) w := by
  cases a with
  | none =>
    have : l = [] := by
      cases l with
      | nil => rfl
      | cons y r => obtain ⟨b, off, e, _⟩ := h 0 (by simp); cases e
    subst this
    exact Src.ofNil w Tryz.underlying31 c
  | some A =>
    refine Src.ofSlice w Tryz.underlying31 A l.length c (sflat l) (by rw [sflat_len]) (fun j u hu => ?_) (sflat_one l)
    obtain ⟨hj, e⟩ := List.getElem?_eq_some_iff.1 hu
    rw [sflat_len] at hj
    have hi : j / 3 < l.length := by omega
    obtain ⟨b, off, e1, h2, h3⟩ := h (j / 3) hi
    cases e1
    obtain ⟨q0, q1, q2⟩ := sflat_at l (j / 3) l[j / 3] (List.getElem?_eq_getElem hi)
    obtain ⟨p0, p1, p2⟩ := h3
    rw [Addr.add_lit]
    have hr : j % 3 = 0 ∨ j % 3 = 1 ∨ j % 3 = 2 := by omega
    rcases hr with hr | hr | hr
    · rw [show off + j = off + j / 3 * 3 by omega, p0]
      rw [show j / 3 * 3 = j by omega, hu] at q0
      exact q0.symm
    · rw [show off + j = off + j / 3 * 3 + 1 by omega, p1]
      rw [show j / 3 * 3 + 1 = j by omega, hu] at q1
      exact q1.symm
    · rw [show off + j = off + j / 3 * 3 + 2 by omega, p2]
      rw [show j / 3 * 3 + 2 = j by omega, hu] at q2
      exact q2.symm

theorem sgs_of_psegs {w : World} {B : Nat} {a : Option Addr} {c : Nat} {l : List Sg} (h : w.ownsRow B 51 3 (.slice a l.length c) l.length (sflat l)) : SgsIn w a l ∧ ∀ x, a = some x → B ≤ x.block ∧ x.block < w.heap.size := by
  rcases h.2 with ⟨e, h0⟩ | ⟨g, cap, cur, e, hB, hg, hcap, hcm, hsz, htake⟩
  · obtain rfl : l = [] := List.eq_nil_of_length_eq_zero h0
    cases e
    exact ⟨SgsIn.nil _ _, (fun x hx => nomatch hx)⟩
  · cases e
    refine ⟨fun i hi => ⟨g, 0, rfl, (Array.getElem?_eq_some_iff.1 hg).1, ?_⟩, fun x hx => by cases hx; exact ⟨hB, (Array.getElem?_eq_some_iff.1 hg).1⟩⟩
    obtain ⟨q0, q1, q2⟩ := sflat_at l i l[i] (List.getElem?_eq_getElem hi)
    have hc : ∀ j, j < l.length * 3 → w.cell? ⟨g, j, none⟩ = (sflat l)[j]? := fun j hj => h.cellAt j hj
    refine ⟨?_, ?_, ?_⟩
    · rw [Nat.zero_add, hc _ (by omega)]; exact q0
    · rw [Nat.zero_add, hc _ (by omega)]; exact q1
    · rw [Nat.zero_add, hc _ (by omega)]; exact q2

/-- A new row of these. -/
theorem pclone_any {a : Option Addr} {l : List Sg} {c : Nat} {w : World} (h : SgsIn w a l) (hl : l.length ≤ 1000) :
    Calls Tryz.prog 37 #[.slice a l.length c] w fun e w' => ∃ a' c', e = .returned (.slice a' l.length c') ∧ SgsIn w' a' l ∧ (∀ x, a' = some x → w.heap.size ≤ x.block ∧ x.block < w'.heap.size) ∧ Below w.heap.size w w' := by
  cases a with
  | none =>
    have hl0 : l = [] := by
      cases l with
      | nil => rfl
      | cons y r => obtain ⟨b, off, e, _⟩ := h 0 (by simp); cases e
    have HL := Lib.hid hl0
    clear hl0 h
    generalize hn : l.length = n at *
    have HN := Lib.hid hn
    clear hn
    have q24 : ∀ (w : World) (a : Option Addr) (n c n' c' : Nat), (binOp .eql 31 (.slice a n c) (.slice none n' c')).run Tryz.prog w = .ok (.bool a.isNone) w := fun w a n c n' c' => Lib.run_eql_slice_nil w _ _ a n c n' c' Tryz.underlying31
    go_enter Tryz.func37, Tryz.ntmps37
    go_wp2_with fail
    refine bodyPost_ret (v := .slice none 0 0) (by simp [results, Tryz.results37, go_sem]) rfl ?_
    refine ⟨none, 0, ?_, by rw [HL.out]; exact SgsIn.nil _ _, (fun x hx => nomatch hx), Below.refl _ _⟩
    rw [← HN.out, HL.out]; rfl
  | some A =>
    obtain ⟨i0, hi0, hz0, hz1, hz2⟩ := info_parts infoPSeg
    have HI := Lib.hid (And.intro hi0 (And.intro hz0 (And.intro hz1 hz2)))
    have hb1 : Below w.heap.size w (w.alloc (.cells #[] 51)) := (Below.refl w.heap.size w).alloc (Nat.le_refl _) _
    have hsrc := src_psgs (c := c) (h.later hb1 (Nat.le_refl _))
    have hown : (w.alloc (.cells #[] 51)).ownsRow w.heap.size 51 3 (.slice (some ⟨w.heap.size, 0, none⟩) 0 0) 0 [] :=
      ⟨rfl, Or.inr ⟨w.heap.size, 0, #[], rfl, Nat.le_refl _, heap_alloc_new w _, Nat.le_refl _, by unfold maxLen; omega, rfl, rfl⟩⟩
    have HS := Lib.hid hsrc; have HW := Lib.hid hown; have HB := Lib.hid hb1
    clear hsrc hown hb1 h hi0 hz0 hz1 hz2
    generalize hn : l.length = n at *
    have HN := Lib.hid hn
    clear hn
    have q24 : ∀ (w : World) (a : Option Addr) (n c n' c' : Nat), (binOp .eql 31 (.slice a n c) (.slice none n' c')).run Tryz.prog w = .ok (.bool a.isNone) w := fun w a n c n' c' => Lib.run_eql_slice_nil w _ _ a n c n' c' Tryz.underlying31
    go_enter Tryz.func37, Tryz.ntmps37
    go_wp2_with (at_builtin; refine wpList_append_row _ rfl _ _ 31 rfl w.heap.size 51 i0 _ 3 24 Tryz.underlying31 HI.out.1 HI.out.2.1 HI.out.2.2.1 HI.out.2.2.2 (by omega) rfl (.slice (some ⟨w.heap.size, 0, none⟩) 0 0) 0 [] rfl HW.out (.slice (some A) n c) n _ rfl HS.out (by omega) (by rw [World.size_alloc]; omega) ?_; intro a' c' w3 h3 hg3 _; have H3 := Lib.hid h3; have HG3 := Lib.hid hg3; clear h3 hg3)
    go_ret
    have h3 := H3.out
    rw [Nat.zero_add, List.nil_append] at h3
    obtain ⟨s1, s2⟩ := sgs_of_psegs (l := l) (by rw [HN.out]; exact h3)
    refine ⟨a', c', rfl, s1, s2, Below.grown HB.out HG3.out (by rw [World.size_alloc]; omega) (fun j hj => ?_)⟩
    have : w.heap.size = j := by simpa [Value.ownBlock] using hj
    omega
end Go.Proofs.YtkdidinekoaobaaGreatDoor.P
