/- The names of all objects, sorted. -/
import Derived.Test.YtadfajeiihonfaaMcall
namespace Go.Proofs.Ytadfajeiihonfaa
open Go.RowKit Go.Maps Go.Sort Go.Shelf
set_option linter.unusedVariables false

theorem names_up {l : List Ob} (h : Up Ob.nm l) : (l.map Ob.nm).Pairwise (fun a b => lt a b = true) := List.pairwise_map.2 h
theorem names_nodup {l : List Ob} (h : Up Ob.nm l) : (l.map Ob.nm).Nodup := (names_up h).imp (fun h => lt_ne h)
theorem lt_leB {a b : List UInt8} (h : lt a b = true) : leB a b = true := by simpa [leB] using List.le_of_lt ((lt_iff a b).1 h)
theorem names_sorted {l : List Ob} (h : Up Ob.nm l) : (l.map Ob.nm).mergeSort leB = l.map Ob.nm := List.mergeSort_of_pairwise ((names_up h).imp (fun h => lt_leB h))

theorem MapHas.names {w : World} {mb : Nat} {cs : List Ob} (h : MapHas w mb cs) (hu : Up Ob.nm cs) : ∃ D : DataW Value, w.ownsMap Try.prog 9 heldR mb cs.length D ∧ Maps.size D = cs.length ∧ ∀ ss : List (List UInt8), ss.Perm (strKeys D) → ss.mergeSort leB = cs.map Ob.nm := by
  obtain ⟨D, hD, hsz, hin, hno⟩ := h
  refine ⟨D, hD, hsz, fun ss hss => ?_⟩
  have hc : Collected D (fun _ => false) (cs.map Ob.nm) := ⟨names_nodup hu, fun x => by
    constructor
    · intro hx
      obtain ⟨c, hc, rfl⟩ := List.mem_map.1 hx
      exact ⟨(hin c hc).1, rfl⟩
    · rintro ⟨hx, _⟩
      obtain ⟨c, hc, e⟩ := hno x hx
      exact List.mem_map.2 ⟨c, hc, e⟩⟩
  have hp := hc.perm hD strKey Try.underlying9 (fun _ => rfl)
  rw [mergeSort_of_perm (hss.trans hp.symm), names_sorted hu]

theorem sortsA (m : Nat) : AnyZ.SortsIn Try.prog laysSorted_ren Fence.wide m :=
  ⟨fun blk off cap ss W hH hblk hsz => callsIn_wide.2 (AnyM.slices_Sort_string laysSort blk off cap ss W hH hblk hsz),
   fun p cap W => callsIn_wide.2 (AnyM.slices_Sort_string_none laysSort p cap W)⟩

/-- maps.Keys: the map in a box. -/
theorem keys_any (mb : Option Nat) (w : World) : Calls Try.prog 34 #[.map mb] w fun e w' => e = .returned (.func (.func 37) #[] #[.pointer (some ⟨w.heap.size, 0, none⟩)]) ∧ w' = w.alloc (.cells #[.map mb] 46) :=
  callsIn_wide.1 (AnyZ.keys_in laysKeys Fence.wide 5 trivial rfl mb w)

/-- slices.Sorted of it. -/
theorem sorted_any {w : World} {mb : Nat} {cs : List Ob} (h : MapHas w mb cs) (hu : Up Ob.nm cs) (hf : cs.length ≤ 1000000000) :
    Calls Try.prog 33 #[.func (.func 37) #[] #[.pointer (some ⟨w.heap.size, 0, none⟩)]] (w.alloc (.cells #[.map (some mb)] 46))
      fun e w' => ∃ v, e = .returned v ∧ w'.ownsRow w.heap.size 9 1 v (cs.map Ob.nm).length (strs (cs.map Ob.nm)) ∧ Below w.heap.size w w' := by
  obtain ⟨D, hown, hsz, hsort⟩ := h.names hu
  have hbl := hown.lt
  have hseq : SeqGives Fence.wide 2 Try.prog 37 #[.pointer (some ⟨w.heap.size, 0, none⟩)] encStr (fun ss => ss.Perm (strKeys D)) (Maps.size D) (w.alloc (.cells #[.map (some mb)] 46)) :=
    AnyZ.keys_gives (ρ := laysKeys_ren) { laysKeys with } Fence.wide _ trivial rfl (by omega) w.heap.size mb cs.length D _ (by simp) (by simp) (by
      obtain ⟨es, clock, hb, Ft, hs, hD⟩ := hown
      exact ⟨es, clock, (Below.heap_alloc _ _ mb hbl).trans hb, Ft, hs, hD⟩)
  have cS := AnyZ.sorted_in laysSorted Fence.wide 5 trivial trivial trivial trivial rfl (by omega) (sortsA _) (enters_of Try.func36 (by kernel_rfl) rfl) 37 #[.pointer (some ⟨w.heap.size, 0, none⟩)] trivial (enters_of Try.func37 (by kernel_rfl) rfl) _ _ (by rw [hsz]; unfold maxLen; omega) (by rw [hsz]; omega) _ hseq
  refine (callsIn_wide.1 cS).mono ?_
  rintro e w' ⟨v, ss, rfl, hp, hrow, _, hb⟩
  have hm := hsort ss hp
  have hlen : ss.length = (cs.map Ob.nm).length := by rw [← hm, List.length_mergeSort]
  have e1 : (ss.mergeSort (fun x y => decide (x ≤ y))).map encStr = strs (cs.map Ob.nm) := by
    show (ss.mergeSort leB).map encStr = _
    rw [hm]
    rfl
  rw [e1, hlen] at hrow
  refine ⟨v, rfl, ownsRow_base_a hrow (by simp), ((Below.refl _ w).alloc (Nat.le_refl _) _).trans (hb.mono (by simp))⟩
end Go.Proofs.Ytadfajeiihonfaa
