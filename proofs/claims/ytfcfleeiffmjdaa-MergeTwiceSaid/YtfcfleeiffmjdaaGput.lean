/- One more record in a row by rising keys: what becomes of the row, by where its key stands. -/
import Derived.Test.YtfcfleeiffmjdaaGmath
namespace Go.Proofs.Ytfcfleeiffmjdaa.G
open Go.RowKit
set_option linter.unusedVariables false

theorem pos_split {l : List Rc} (n : List UInt8) : l = l.take (pos Rc.k l n) ++ l.drop (pos Rc.k l n) := (List.take_append_drop _ _).symm
theorem put1_end {out : List Rc} {r : Rc} (h : Up Rc.k out) (hp : pos Rc.k out r.k = out.length) : put1 out r = out.take (pos Rc.k out r.k) ++ [r] ++ out.drop (pos Rc.k out r.k) := by
  have hno : fnd out r.k = none := fnd_not (fun x hx => by
    obtain ⟨i, hi, rfl⟩ := List.mem_iff_getElem.1 hx
    exact lt_ne (pos_before (k := Rc.k) (n := r.k) (t := i) (by rw [hp]; exact hi) (List.getElem?_eq_getElem hi)))
  unfold put1
  rw [hno]
  exact ins_at out r
theorem put1_mid {out : List Rc} {r x : Rc} (h : Up Rc.k out) (hp : out[pos Rc.k out r.k]? = some x) (hne : x.k ≠ r.k) : put1 out r = out.take (pos Rc.k out r.k) ++ [r] ++ out.drop (pos Rc.k out r.k) := by
  have hno : fnd out r.k = none := fnd_not (fun y hy => by
    obtain ⟨i, hi, rfl⟩ := List.mem_iff_getElem.1 hy
    obtain ⟨hpl, hpx⟩ := List.getElem?_eq_some_iff.1 hp
    rcases Nat.lt_trichotomy i (pos Rc.k out r.k) with hlt | heq | hgt
    · exact lt_ne (pos_before (k := Rc.k) hlt (List.getElem?_eq_getElem hi))
    · intro e; exact hne (by rw [← hpx]; simpa [heq] using e)
    · have h1 : lt x.k out[i].k = true := by
        have := List.pairwise_iff_getElem.1 h (pos Rc.k out r.k) i hpl hi hgt
        rw [hpx] at this
        exact this
      have h2 : lt x.k r.k = false := pos_behind (k := Rc.k) h (Nat.le_refl _) hp
      have h3 := lt_total h2 hne
      exact (lt_ne (lt_trans h3 h1)).symm)
  unfold put1
  rw [hno]
  exact ins_at out r
theorem at_key {out : List Rc} {r x : Rc} (h : Up Rc.k out) (hp : out[pos Rc.k out r.k]? = some x) (he : x.k = r.k) : fnd out r.k = some x := fnd_of h (List.mem_of_getElem? hp) he
theorem put1_old {out : List Rc} {r x : Rc} (h : Up Rc.k out) (hp : out[pos Rc.k out r.k]? = some x) (he : x.k = r.k) (hq : ¬ x.q ≤ r.q) : put1 out r = out := by
  unfold put1
  rw [at_key h hp he]
  simp [hq]
theorem put1_over {out : List Rc} {r x : Rc} (h : Up Rc.k out) (hp : out[pos Rc.k out r.k]? = some x) (he : x.k = r.k) (hq : x.q ≤ r.q) : put1 out r = out.set (pos Rc.k out r.k) r := by
  obtain ⟨hpl, hpx⟩ := List.getElem?_eq_some_iff.1 hp
  have e1 : out = out.take (pos Rc.k out r.k) ++ x :: out.drop (pos Rc.k out r.k + 1) := by
    rw [← hpx, List.getElem_cons_drop, List.take_append_drop]
  have h2 := again_mid (k := Rc.k) (c := x) (x := r) he.symm (out.take (pos Rc.k out r.k)) (out.drop (pos Rc.k out r.k + 1)) (by rw [← e1]; exact h)
  rw [← e1] at h2
  unfold put1
  rw [at_key h hp he]
  simp only [hq, if_true]
  rw [← he, h2, he, List.set_eq_take_append_cons_drop, if_pos hpl]
end Go.Proofs.Ytfcfleeiffmjdaa.G
