/- A segment that is torn by a crash: plain facts. -/
import Derived.Test.YtmekkbhblghbmaaGreatDoorSwmath
namespace Go.Proofs.YtmekkbhblghbmaaGreatDoor
open Go.RowKit
set_option linter.unusedVariables false

def endsL (ll : List (List Rc)) (i : Nat) : List Int := (List.range i).map fun j => ((cat (ll.take (j + 1))).length : Int)
def manyL (ll : List (List Rc)) (i : Nat) : List Int := (List.range (i + 1)).map fun j => ((ll.take j).flatten.length : Int)
theorem endsL_len (ll : List (List Rc)) (i : Nat) : (endsL ll i).length = i := by simp [endsL]
theorem manyL_len (ll : List (List Rc)) (i : Nat) : (manyL ll i).length = i + 1 := by simp [manyL]
theorem endsL_next (ll : List (List Rc)) (i : Nat) : endsL ll (i + 1) = endsL ll i ++ [((cat (ll.take (i + 1))).length : Int)] := by simp [endsL, List.range_succ]
theorem manyL_next (ll : List (List Rc)) (i : Nat) : manyL ll (i + 1) = manyL ll i ++ [((ll.take (i + 1)).flatten.length : Int)] := by simp [manyL, List.range_succ]
theorem endsL_at (ll : List (List Rc)) {n i : Nat} (h : i < (endsL ll n).length) : (endsL ll n)[i] = ((cat (ll.take (i + 1))).length : Int) := by simp [endsL]
theorem manyL_at (ll : List (List Rc)) {n i : Nat} (h : i < (manyL ll n).length) : (manyL ll n)[i] = ((ll.take i).flatten.length : Int) := by simp [manyL]

/-- What is written last. -/
def rL : Rc := ⟨9, [108, 97, 115, 116], [], false⟩
theorem good_rL : good [rL] = true := rfl
theorem fits_rL : Fits [rL] := fun r hr => by
  simp at hr
  subst hr
  decide
theorem one_of {l : List Et} (h : l.length = 1) : ∃ x, l = [x] := by
  match l, h with
  | [x], _ => exact ⟨x, rfl⟩

theorem torn_end {ll : List (List Rc)} (hg : ∀ l ∈ ll, good l = true) (h20 : ll.length ≤ 20) {j c : Nat} (hj : j ≤ ll.length) (hlo : (cat (ll.take j)).length ≤ c) (hhi : j < ll.length → c < (cat (ll.take (j + 1))).length) (hk : c ≤ (cat ll).length) :
    ∃ (s1 s2 : Nat) (LL : List (List Rc)) (x0 : Et),
      (ldE (tSt (sN 1) ((cat ll).take c) c) 1 = 0 ∧ ldS (tSt (sN 1) ((cat ll).take c) c) 1 = tSt (sN 1) (cat (ll.take j)) s1 ∧ ldL (tSt (sN 1) ((cat ll).take c) c) 1 = hof 0 (ll.take j)) ∧
      (wrE (tSt (sN 1) (cat (ll.take j)) s1) 1 [rL] = 0 ∧ wrS (tSt (sN 1) (cat (ll.take j)) s1) 1 [rL] = tSt (sN 1) (cat LL) s1 ∧ wrL (tSt (sN 1) (cat (ll.take j)) s1) 1 [rL] = [x0]) ∧
      (ldE (tSt (sN 1) (cat LL) s1) 1 = 0 ∧ ldS (tSt (sN 1) (cat LL) s1) 1 = tSt (sN 1) (cat LL) s2 ∧ ldL (tSt (sN 1) (cat LL) s1) 1 = hof 0 (ll.take j) ++ [x0]) ∧
      (∀ i (h : i < (hof 0 (ll.take j)).length), ∃ hi : i < ll.flatten.length, gtR (tSt (sN 1) (cat LL) s2) 1 (hof 0 (ll.take j))[i] = (ll.flatten[i], 0)) ∧
      gtR (tSt (sN 1) (cat LL) s2) 1 x0 = (rL, 0) ∧ EFits (hof 0 (ll.take j) ++ [x0]) ∧ (hof 0 (ll.take j)).length = (ll.take j).flatten.length ∧ (hof 0 (ll.take j)).length ≤ 320 := by
  have h1 : segOk 1 := by unfold segOk; omega
  have hgj : ∀ l ∈ ll.take j, good l = true := fun l hl => hg l (List.mem_of_mem_take hl)
  have hjl : (ll.take j).length ≤ 20 := by rw [List.length_take]; omega
  have hcj := cat_le (ll.take j) hgj
  have hfj := flat_le (ll.take j) hgj
  obtain ⟨s1, l1, l2, l3⟩ := ld_t (s := c) h1 (fs_cut ll hg c j hj hlo hhi hk)
  obtain ⟨w1, w2, w3⟩ := wr_on (bt := cat (ll.take j)) (s := s1) h1 good_rL (by have := (fbs_len good_rL).2; omega)
  rw [← cat_snoc] at w2
  have hgL : ∀ l ∈ ll.take j ++ [[rL]], good l = true := fun l hl => by
    rcases List.mem_append.1 hl with hl | hl
    · exact hgj l hl
    · rw [List.mem_singleton] at hl; subst hl; exact good_rL
  have hcL := cat_le _ hgL
  rw [List.length_append, List.length_singleton] at hcL
  obtain ⟨s2, k1, k2, k3⟩ := ld_t (s := s1) h1 (fs_whole hgL)
  have hm : hof 0 (ll.take j ++ [[rL]]) = hof 0 (ll.take j) ++ moved (cat (ll.take j)).length (hof 0 [[rL]]) := by
    rw [hof_append, hof_moved]
  obtain ⟨x0, hx0⟩ := one_of (l := moved (cat (ll.take j)).length (hof 0 [[rL]])) (by rw [moved_len, hof_len]; rfl)
  rw [hx0] at hm w3
  have hlen := hof_len 0 (ll.take j)
  have hgt := fun i hi => gt_t (s := s2) (i := i) h1 hgL (by omega) hi
  refine ⟨s1, s2, ll.take j ++ [[rL]], x0, ⟨l1, l2, l3⟩, ⟨w1, w2, w3⟩, ⟨k1, k2, by rw [k3, hm]⟩, fun i hi => ?_, ?_, ?_, hlen, by omega⟩
  · have hif : i < ll.flatten.length := by
      have e : ll.flatten = (ll.take j).flatten ++ (ll.drop j).flatten := by rw [← List.flatten_append, List.take_append_drop]
      rw [e, List.length_append]; omega
    refine ⟨hif, ?_⟩
    have := hgt i (by rw [hm, List.length_append]; omega)
    have e1 : (hof 0 (ll.take j ++ [[rL]]))[i]'(by rw [hm, List.length_append]; omega) = (hof 0 (ll.take j))[i] := by
      rw [List.getElem_of_eq hm, List.getElem_append_left hi]
    rw [e1] at this
    rw [this]
    congr 1
    have e2 : ll.flatten = (ll.take j).flatten ++ (ll.drop j).flatten := by rw [← List.flatten_append, List.take_append_drop]
    have e3 : (ll.take j ++ [[rL]]).flatten = (ll.take j).flatten ++ [rL] := by simp
    rw [List.getElem_of_eq e3, List.getElem_append_left (by omega), List.getElem_of_eq e2, List.getElem_append_left (by omega)]
  · have hi : (hof 0 (ll.take j)).length < (hof 0 (ll.take j ++ [[rL]])).length := by rw [hm, List.length_append]; simp
    have := hgt _ hi
    have e1 : (hof 0 (ll.take j ++ [[rL]]))[(hof 0 (ll.take j)).length] = x0 := by
      rw [List.getElem_of_eq hm, List.getElem_append_right (Nat.le_refl _)]
      simp
    rw [e1] at this
    rw [this]
    congr 1
    have e3 : (ll.take j ++ [[rL]]).flatten = (ll.take j).flatten ++ [rL] := by simp
    rw [List.getElem_of_eq e3, List.getElem_append_right (by omega)]
    simp [hlen]
  · rw [← hm]
    have := hof_fit (cat (ll.take j ++ [[rL]])) (by omega)
    rwa [fs_whole hgL] at this
end Go.Proofs.YtmekkbhblghbmaaGreatDoor
