/- The calls that turn nothing, off both disks. -/
import Derived.Test.YtmpipfhlicfagaaDstep
namespace Go.Proofs.Ytmpipfhlicfagaa
open Go.RowKit
set_option linter.unusedVariables false

section
variable {B pb qb : Nat} {X : Nat → Prop} {Sd Sr : St} {w : World} {n : List UInt8} {off m : Int} (h : Bo B w pb qb X Sd Sr)
include h

theorem bo_list (hcs : Sd.fs.length < 1000000000) : Calls Try.prog 23 #[.pointer (some ⟨pb, 0, none⟩)] w fun e w' => ∃ v, e = .returned v ∧ w'.ownsRow w.heap.size 9 1 v (Sd.fs.map Fl.nm).length (strs (Sd.fs.map Fl.nm)) ∧ Below w.heap.size w w' := by
  obtain ⟨F, lv, hd, hr, _, _⟩ := h
  exact list_any hd hcs
theorem bo_reflist (hcs : Sr.fs.length < 1000000000) : Calls Try.prog 25 #[.pointer (some ⟨qb, 0, none⟩)] w fun e w' => ∃ v, e = .returned v ∧ w'.ownsRow w.heap.size 9 1 v (Sr.fs.map Fl.nm).length (strs (Sr.fs.map Fl.nm)) ∧ Below w.heap.size w w' := by
  obtain ⟨F, lv, hd, hr, _, _⟩ := h
  exact reflist_any hr hcs
theorem bo_read (hn : n.length ≤ maxLen) (ho1 : -9223372036854775808 ≤ off) (ho2 : off ≤ 9223372036854775807) (hm1 : -9223372036854775808 ≤ m) (hm2 : m ≤ 9223372036854775807) :
    Calls Try.prog 26 #[.pointer (some ⟨pb, 0, none⟩), .string (bs n), .int .i64 off, .int .i64 m] w (rdPost Sd n off m w) := by
  obtain ⟨F, lv, hd, hr, _, _⟩ := h
  exact read_any hd hn ho1 ho2 hm1 hm2
theorem bo_refread (ho1 : -9223372036854775808 ≤ off) (ho2 : off ≤ 9223372036854775807) (hm1 : -9223372036854775808 ≤ m) (hm2 : m ≤ 9223372036854775807) (hcs : Sr.fs.length < 1000000000) :
    Calls Try.prog 27 #[.pointer (some ⟨qb, 0, none⟩), .string (bs n), .int .i64 off, .int .i64 m] w fun e w' => e = .returned (.tuple #[.string (bs (rdB Sr n off m)), .int .i64 (rdE Sr n off m)]) ∧ w = w' := by
  obtain ⟨F, lv, hd, hr, _, _⟩ := h
  exact refread_any hr ho1 ho2 hm1 hm2 hcs
theorem bo_left : Calls Try.prog 28 #[.pointer (some ⟨pb, 0, none⟩)] w fun e w' => e = .returned (.int .i64 (left Sd)) ∧ w = w' := by
  obtain ⟨F, lv, hd, hr, _, _⟩ := h
  exact left_any hd
theorem bo_refleft (hcs : Sr.fs.length < 1000000000) : Calls Try.prog 29 #[.pointer (some ⟨qb, 0, none⟩)] w fun e w' => e = .returned (.int .i64 (left Sr)) ∧ w = w' := by
  obtain ⟨F, lv, hd, hr, _, _⟩ := h
  exact refleft_any hr hcs
theorem bo_sizeOf (hn : n.length ≤ maxLen) : Calls Try.prog 30 #[.pointer (some ⟨pb, 0, none⟩), .string (bs n)] w (szPost Sd n w) := by
  obtain ⟨F, lv, hd, hr, _, _⟩ := h
  exact size_any hd hn
theorem bo_refsize (hcs : Sr.fs.length < 1000000000) : Calls Try.prog 31 #[.pointer (some ⟨qb, 0, none⟩), .string (bs n)] w fun e w' => e = .returned (.tuple #[.int .i64 (szN Sr n), .int .i64 (szE Sr n)]) ∧ w = w' := by
  obtain ⟨F, lv, hd, hr, _, _⟩ := h
  exact refsize_any hr hcs
theorem bo_all (hn : n.length ≤ maxLen) : Calls Try.prog 32 #[.pointer (some ⟨pb, 0, none⟩), .string (bs n)] w (allPost Sd n w) := by
  obtain ⟨F, lv, hd, hr, _, _⟩ := h
  exact all_any hd hn

/-- The document's file at a place of the list, cell by cell. -/
theorem bo_file {i : Nat} {f : Fl} (hf : Sr.fs[i]? = some f) : ∃ a c k, w.cell? ⟨qb, 1, none⟩ = some (.slice (some ⟨a, 0, none⟩) k c) ∧ i < k ∧ k = Sr.fs.length ∧ qb < w.heap.size ∧ a < w.heap.size ∧ w.cell? ⟨a, i * 3 + 1, none⟩ = some (.string (bs f.bt)) := by
  obtain ⟨F, lv, hd, hr, _, _⟩ := h
  obtain ⟨c0, c1, c2, c3, fz⟩ := hr.cells
  obtain ⟨a, cap, hv⟩ := files_form hr.row
  have hrow := hr.row
  rw [hv] at hrow c1
  obtain ⟨g, hg, _, hgl, d0, d1, d2⟩ := files_at hrow hf
  subst hg
  refine ⟨g, cap, _, c1, ?_, rfl, hr.lt.1, hgl, ?_⟩
  · exact (List.getElem?_eq_some_iff.1 hf).1
  · simpa using d1

/-- A file's name finds that file. -/
theorem bo_finds {i : Nat} {f : Fl} (hf : Sd.fs[i]? = some f) : find Sd.fs f.nm = some f := by
  exact find_of h.good.1.up (List.mem_of_getElem? hf)
end

/-- A file's name, out of the list of the names. -/
theorem name_at {B : Nat} {na : Option Addr} {M nc k : Nat} {l : List Fl} {f : Fl} {w : World} (h : w.ownsRow B 9 1 (.slice na M nc) M (strs (l.map Fl.nm))) (hk : k < M) (hf : l[k]? = some f) : ∃ g, na = some ⟨g, 0, none⟩ ∧ g < w.heap.size ∧ w.cell? ⟨g, k, none⟩ = some (.string (bs f.nm)) := by
  rcases owns_cases h with ⟨_, h0, _⟩ | ⟨g, cap', cur, hv, _, hgl, _, _, _, _, _, _, hce, _⟩
  · omega
  · injection hv with e1 e2 e3
    exact ⟨g, e1, hgl, by rw [hce k hk, strs_at, List.getElem?_map, hf]; rfl⟩
end Go.Proofs.Ytmpipfhlicfagaa
