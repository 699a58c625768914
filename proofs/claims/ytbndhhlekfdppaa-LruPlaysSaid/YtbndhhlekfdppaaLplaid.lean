/- The library's slices.Index at blocks, told by the contract of the kit's shelf. -/
import Derived.Shelf.SlicesQ.Index
import Derived.Laws.StructEq
import Derived.Test.YtbndhhlekfdppaaLpc
namespace Go.Proofs.Ytbndhhlekfdppaa.L
open Go.Shelf Go.Lib Go.RowKit
set_option linter.unusedVariables false
def layIndex_ren : Go.Shelf.Ren := ⟨fun | 6 => 21 | n => n, fun | 22 => 40 | 24 => 32 | 3 => 3 | 4 => 4 | 0 => 0 | n => n, fun | n => n⟩
theorem layIndex : Go.Proofs.SlLaysQ.n6 Try.prog layIndex_ren := {
  mixed := by kernel_rfl
  f6 := ⟨Try.f21.name, by decide, Try.func21.trans (congrArg some (by kernel_rfl))⟩
  t0 := Try.underlying0
  a0 := Try.isAgg0
  z0 := Try.sizeOf0
  v0 := Try.zeroValue0
  t3 := Try.underlying3
  a3 := Try.isAgg3
  z3 := Try.sizeOf3
  v3 := Try.zeroValue3
  t4 := Try.underlying4
  a4 := Try.isAgg4
  z4 := Try.sizeOf4
  v4 := Try.zeroValue4
  t22 := Try.underlying40
  a22 := Try.isAgg40
  z22 := Try.sizeOf40
  v22 := Try.zeroValue40 }
/-- The two cells of a block. -/
def bc (x : Bk) : List Value := [.int .i64 x.seg, .int .i64 x.n]
instance : Inhabited Bk := ⟨⟨0, 0⟩⟩
theorem bkEq : EqlAt Try.prog 32 (fun x => .agg (bc x).toArray) (fun x y => x.seg == y.seg && x.n == y.n) := by
  refine ⟨fun x y w => ?_, GuardAt.agg _ (by kernel_rfl)⟩
  have u3 := Try.underlying3
  have a3 := Try.isAgg3
  have z3 := Try.sizeOf3
  have hS : Try.prog.underlying 32 = some (.struct (Try.prog.fieldsOf 32)) := by kernel_rfl
  have hp : Try.prog.stoodInHeld 32 = false := by kernel_rfl
  simp only [bc]
  rw [run_eql_struct, show (10000 : Nat) = 9999 + 1 from rfl, run_equalIn_agg w 9999 32 _ _ hS hp]
  simp only [Program.fieldsOf, Try.underlying32]
  go_simp
  by_cases h1 : x.seg = y.seg <;> by_cases h2 : x.n = y.n <;> simp [h1, h2]
theorem bk_eq (x y : Bk) : (x.seg == y.seg && x.n == y.n) = true ↔ x = y := by
  obtain ⟨s, n⟩ := x; obtain ⟨s', n'⟩ := y
  simp
/-- Where a block stands in the array. -/
theorem index_any {B pb mb most n i c : Nat} {os : List Bk} {l : List It} {w : World} {b : Bk} (h : Pm B w pb mb most os l) (hn : n ≤ 64) (hi : i < n) (hb : os[i]? = some b) (hno : ∀ j, j < i → os[j]? ≠ some b) :
    Calls Try.prog 21 #[.slice (some ⟨pb, 1, none⟩) n c, blkV b] w fun e w' => e = .returned (.int .i64 (i : Int)) ∧ Below w.heap.size w w' := by
  have hlen := h.len
  have hget : ∀ j, j < os.length → os[j]? = some os[j]! := fun j hj => by rw [List.getElem?_eq_getElem hj, getElem!_pos os j hj]
  have hc := AnyQ.slices_Index layIndex 2 Try.isAgg32 Try.sizeOf32 bc (fun _ => rfl) _ bkEq pb 1 n c os b w (by omega) (by omega) (fun j hj k v hv => by
    obtain ⟨e0, e1⟩ := h.key (hget j hj)
    simp only [bc] at hv
    rcases (by have := (List.getElem?_eq_some_iff.1 hv).1; simp at this; omega : k = 0 ∨ k = 1) with rfl | rfl
    · rw [Nat.add_zero, e0]; simpa using hv
    · rw [e1]; simpa using hv)
  refine Calls.mono (show Calls Try.prog 21 #[.slice (some ⟨pb, 1, none⟩) n c, blkV b] w _ from hc) ?_
  rintro e w' ⟨rfl, q, rfl⟩
  have hib : os[i]! = b := by
    have := hget i (by omega)
    rw [hb] at this
    exact (Option.some.inj this).symm
  refine ⟨?_, below_drewN ((Below.refl _ _).alloc (Nat.le_refl _) _) q⟩
  rw [idxBy_hit _ os n i b hi (by omega) ((bk_eq _ _).2 hib.symm) (fun j hj => by
    cases g : (b.seg == os[j]!.seg && b.n == os[j]!.n)
    · rfl
    · have := (bk_eq _ _).1 g
      exact absurd (by rw [hget j (by omega), ← this]) (hno j hj))]
end Go.Proofs.Ytbndhhlekfdppaa.L
