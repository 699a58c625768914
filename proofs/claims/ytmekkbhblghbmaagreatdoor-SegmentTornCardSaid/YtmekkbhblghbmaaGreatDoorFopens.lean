/- A slice of batches that comes in as an argument: what its cells hold. -/
import Derived.Test.YtmekkbhblghbmaaGreatDoorFb
import Derived.Test.YtmekkbhblghbmaaGreatDoorRb
namespace Go.Proofs.YtmekkbhblghbmaaGreatDoor
open Go.Joins Go.ChangeShapes Go.WideShapes Go.RowKit Go.Deep

theorem cellsRecs : Tryz.prog.cellsOf 31 = 1 := by kernel_rfl

section
variable {H : Type} {enc : TypeId × Value → H}

/-- What is known of the records that came in. -/
def Came2 (ll : List (List Rc)) : Prop := ∀ l ∈ ll, l.length ≤ maxLen ∧ ∀ r ∈ l, Came r

/-- A slice of batches that came in: with its room. -/
def BatsIn (W : World) (a : Option Addr) (cap : Nat) (ll : List (List Rc)) : Prop := Bats W a ll ∧ ll.length ≤ cap ∧ cap ≤ maxLen ∧ (a = none → cap = 0)

theorem open_bats {W : World} {t : TypeId} (ht : Tryz.prog.underlying t = some (.slice 31)) {a : Option Addr} {len cap : Nat} {d : DataW H} {p : List MemPlace}
    (h : DataW.Trod enc Tryz.prog W 0 (fun _ => true) true t (.slice a len cap) d p) : ∃ ll : List (List Rc), ll.length = len ∧ len ≤ maxLen ∧ BatsIn W a cap ll ∧ Came2 ll := by
  obtain ⟨fuel, hf⟩ := h
  have hlt := DataW.trod_lt fuel _ _ _ hf
  rcases open_slice ht hf with ⟨hcs, _⟩ | ⟨x, l, c, m, n, D, Pl, hcs, _, hl, hm, hmm, hx, hi⟩
  · simp [Value.cells] at hcs
    obtain ⟨rfl, rfl, rfl⟩ := hcs
    exact ⟨[], rfl, by unfold maxLen; omega, ⟨fun h => by simp at h, by simp, by unfold maxLen; omega, fun _ => rfl⟩, fun r hr => by simp at hr⟩
  · simp [Value.cells] at hcs
    obtain ⟨rfl, rfl, rfl⟩ := hcs
    simp only [if_true] at hmm
    subst hmm
    rw [cellsRecs] at hi
    have hex : ∀ i, i < len → ∃ l : List Rc, (∃ a' cap', W.cell? (x.add i) = some (.slice a' l.length cap') ∧ Recs W a' l) ∧ l.length ≤ maxLen ∧ ∀ r ∈ l, Came r := fun i hil => by
      obtain ⟨cs, hc, hd⟩ := hi i (by omega)
      obtain ⟨_, hl1, hat⟩ := World.cells?_some hc
      obtain ⟨v, rfl⟩ : ∃ v, cs = [v] := by
        match cs, hl1 with
        | [v], _ => exact ⟨v, rfl⟩
      have h0 := hat 0 (by omega)
      simp only [Nat.mul_one] at h0
      have hz : (x.add i).add 0 = x.add i := by simp [Addr.add]
      rw [hz] at h0
      have hv : ∃ a' n' c', v = .slice a' n' c' := by
        rcases open_slice Tryz.underlying31 hd with ⟨e, _⟩ | ⟨y, l', c', m', n', D', Pl', e, _⟩
        · simp at e; exact ⟨_, _, _, e⟩
        · simp at e; exact ⟨_, _, _, e⟩
      obtain ⟨a', n', c', rfl⟩ := hv
      obtain ⟨l, rfl, hlm, hrec, hcame⟩ := open_recs (enc := enc) (W := W) Tryz.underlying31 (a := a') (len := n') (cap := c') ⟨n, by simpa [Value.cells] using hd⟩
      exact ⟨l, ⟨a', c', h0, hrec⟩, hlm, hcame⟩
    obtain ⟨f, hf2⟩ := choose_lt hex
    refine ⟨(List.range len).map f, by simp, by omega, ⟨fun h0 => ?_, by simpa using hl, hm, fun h => by cases h⟩, fun r hr => ?_⟩
    · have hpos : 0 < len := by simpa using h0
      obtain ⟨b, off, spot⟩ := x
      obtain ⟨⟨a0, c0, e0, _⟩, _⟩ := hf2 0 hpos
      have hs : spot = none := by simpa [Addr.add] using World.cell?_spot e0
      subst hs
      refine ⟨b, off, rfl, ?_, fun i hi2 => ?_⟩
      · have := World.block_lt_of_cell? _ _ e0
        simpa [Addr.add] using this
      · have hil : i < len := by simpa using hi2
        obtain ⟨⟨a', c', e1, e2⟩, _⟩ := hf2 i hil
        refine ⟨a', c', ?_, ?_⟩
        · simp only [List.getElem_map, List.getElem_range]
          rw [← e1, Addr.add_lit]
        · simp only [List.getElem_map, List.getElem_range]
          exact e2
    · obtain ⟨i, hi3, rfl⟩ := List.mem_map.1 hr
      exact (hf2 i (List.mem_range.1 hi3)).2

end

theorem Bats.take {W : World} {a : Option Addr} {ll : List (List Rc)} (h : Bats W a ll) (j : Nat) : Bats W a (ll.take j) := fun h0 => by
  obtain ⟨b, off, e, hlt, hc⟩ := h (by rw [List.length_take] at h0; omega)
  refine ⟨b, off, e, hlt, fun i hi => ?_⟩
  have hi2 : i < ll.length := by rw [List.length_take] at hi; omega
  obtain ⟨a', cap', c, hr⟩ := hc i hi2
  rw [List.getElem_take]
  exact ⟨a', cap', c, hr⟩

theorem Came2.fits {ll : List (List Rc)} (h : Came2 ll) : ∀ l ∈ ll, Fits l ∧ l.length ≤ 9223372036854775807 := fun l hl => ⟨Came.all (h l hl).2, by have := (h l hl).1; unfold maxLen at this; omega⟩

end Go.Proofs.YtmekkbhblghbmaaGreatDoor
