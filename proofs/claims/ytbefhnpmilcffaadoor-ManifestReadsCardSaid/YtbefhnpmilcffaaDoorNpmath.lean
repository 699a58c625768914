/- What is read so far is a beginning of the one manifest that it can be. -/
import Derived.Test.YtbefhnpmilcffaaDoorNpseg
namespace Go.Proofs.YtbefhnpmilcffaaDoor.J
set_option linter.unusedVariables false

theorem flat_pre : ∀ (l A : List Sg) (R : List Nat), (∀ s ∈ A, 0 ≤ s.n ∧ 0 ≤ s.size) → (∀ s ∈ l, 0 ≤ s.n ∧ 0 ≤ s.size) → A.flatMap snums = l.flatMap snums ++ R → ∃ l', A = l ++ l' ∧ R = l'.flatMap snums
  | [], A, R, _, _, h => ⟨A, rfl, by simpa using h.symm⟩
  | x :: l, [], R, _, _, h => by simp [snums] at h
  | x :: l, y :: A, R, hA, hl, h => by
    rw [List.flatMap_cons, List.flatMap_cons] at h
    have hx := hl x (List.mem_cons_self ..)
    have hy := hA y (List.mem_cons_self ..)
    simp only [snums, List.cons_append, List.nil_append, List.cons.injEq] at h
    obtain ⟨e1, e2, e3, h⟩ := h
    obtain ⟨l', rfl, hR⟩ := flat_pre l A R (fun s hs => hA s (List.mem_cons_of_mem _ hs)) (fun s hs => hl s (List.mem_cons_of_mem _ hs)) h
    refine ⟨l', ?_, hR⟩
    obtain ⟨n, z, c⟩ := x
    obtain ⟨n', z', c'⟩ := y
    simp only at e1 e2 e3 hx hy
    simp only [List.cons_append, List.cons.injEq, Sg.mk.injEq, and_true]
    omega
/-- A segment's numbers are in their bounds. -/
def okN (s : Sg) : Prop := (0 ≤ s.n ∧ s.n ≤ 999999) ∧ (0 ≤ s.size ∧ s.size ≤ 1048576) ∧ s.sum < 4294967296
theorem okN_lt {s : Sg} (h : okN s) : ∀ x ∈ snums s, x < M64 := by
  obtain ⟨h1, h2, h3⟩ := h
  intro x hx
  simp only [snums, List.mem_cons, List.not_mem_nil, or_false] at hx
  unfold M64
  rcases hx with rfl | rfl | rfl <;> omega
theorem must1 {m : Mf} {s : List UInt8} (hr : Right m) (hw : m.wf) (he : enc m = s) : ∃ r, tk s = (m.ver.toNat, r, 0) ∧ m.ver.toNat ≤ 999999 ∧ r = put m.segs.length ++ puts (m.segs.flatMap snums) ∧ m.segs.length ≤ 200 := by
  refine ⟨_, ?_, by have := hr.1; omega, rfl, hr.2.1⟩
  rw [← he]
  show tk (puts (m.ver.toNat :: m.segs.length :: m.segs.flatMap snums)) = _
  rw [puts_cons, puts_cons]
  exact tk_put (by have := hr.1; unfold M64; omega) _
theorem must {m : Mf} {v c : Nat} {l : List Sg} {rest s : List UInt8} (hr : Right m) (hw : m.wf) (he : enc m = s) (hv : v ≤ 999999) (hc : c ≤ 200) (hl : ∀ x ∈ l, okN x) (hs : s = put v ++ (put c ++ (puts (l.flatMap snums) ++ rest))) :
    m.ver = v ∧ m.segs.length = c ∧ ∃ l', m.segs = l ++ l' ∧ rest = puts (l'.flatMap snums) := by
  have h1 := mnums_lt hr hw
  obtain ⟨R, hR, hrest⟩ := puts_split (v :: c :: l.flatMap snums) (mnums m) rest (fun x hx => by have := h1 x hx; unfold M64; omega)
    (fun x hx => by
      simp only [List.mem_cons, List.mem_flatMap] at hx
      rcases hx with rfl | rfl | ⟨y, hy, hx⟩
      · unfold M64; omega
      · unfold M64; omega
      · exact okN_lt (hl y hy) x hx)
    (by show enc m = _; rw [he, hs, puts_cons, puts_cons]; simp)
  unfold mnums at hR
  simp only [List.cons_append, List.cons.injEq] at hR
  obtain ⟨e1, e2, e3⟩ := hR
  obtain ⟨l', e4, rfl⟩ := flat_pre l m.segs R (fun s hs => by have := sok_mem hr.2.2 hs; exact ⟨this.1.1, this.2.1⟩) (fun s hs => ⟨(hl s hs).1.1, (hl s hs).2.1.1⟩) e3
  exact ⟨by have := hr.1; omega, e2, l', e4, hrest⟩
theorem s3_of {x : Sg} (h : okN x) (r : List UInt8) : S3 (puts (snums x) ++ r) x r := by
  have hk := okN_lt h
  obtain ⟨h1, h2, h3⟩ := h
  have t1 := tk_put (n := x.n.toNat) (hk _ (by simp [snums])) (put x.size.toNat ++ (put x.sum ++ r))
  have t2 := tk_put (n := x.size.toNat) (hk _ (by simp [snums])) (put x.sum ++ r)
  have t3 := tk_put (n := x.sum) (hk _ (by simp [snums])) r
  refine ⟨_, _, _, _, _, by rw [show puts (snums x) ++ r = put x.n.toNat ++ (put x.size.toNat ++ (put x.sum ++ r)) by simp [puts, snums]]; exact t1, by omega, t2, by omega, t3, by omega, ?_⟩
  obtain ⟨n, z, c⟩ := x
  simp only [Sg.mk.injEq, and_true]
  simp only at h1 h2
  omega
/-- Where a segment can't be read there is no manifest. -/
theorem no_seg {v c : Nat} {l : List Sg} {rest s : List UInt8} (hv : v ≤ 999999) (hc : c ≤ 200) (hl : ∀ x ∈ l, okN x) (hs : s = put v ++ (put c ++ (puts (l.flatMap snums) ++ rest))) (hi : l.length < c) (h : ∀ x r, ¬ S3 rest x r) :
    ∀ m, Right m → m.wf → enc m ≠ s := by
  intro m hr hw he
  obtain ⟨_, h2, l', h3, h4⟩ := must hr hw he hv hc hl hs
  cases l' with
  | nil => rw [h3, List.append_nil] at h2; omega
  | cons x l'' =>
    have hx : x ∈ m.segs := by rw [h3]; simp
    have hb := sok_mem hr.2.2 hx
    refine h x (puts (l''.flatMap snums)) ?_
    rw [h4, List.flatMap_cons, puts_append]
    exact s3_of ⟨hb.1, hb.2, hw x hx⟩ _
theorem no_end {v c : Nat} {l : List Sg} {rest s : List UInt8} (hv : v ≤ 999999) (hc : c ≤ 200) (hl : ∀ x ∈ l, okN x) (hs : s = put v ++ (put c ++ (puts (l.flatMap snums) ++ rest))) (hi : l.length = c) (h : rest ≠ [] ∨ ¬ Right ⟨v, l⟩) :
    ∀ m, Right m → m.wf → enc m ≠ s := by
  intro m hr hw he
  obtain ⟨h1, h2, l', h3, h4⟩ := must hr hw he hv hc hl hs
  have hl0 : l'.length = 0 := by rw [h3, List.length_append] at h2; omega
  have e := List.eq_nil_of_length_eq_zero hl0
  subst e
  rw [List.append_nil] at h3
  rcases h with h | h
  · exact h (by rw [h4]; rfl)
  · refine h ?_
    obtain ⟨mv, ms⟩ := m
    simp only at h1 h3
    subst h1; subst h3
    exact hr
theorem yes_end {v c : Nat} {l : List Sg} {s : List UInt8} (hs : s = put v ++ (put c ++ (puts (l.flatMap snums) ++ []))) (hi : l.length = c) : enc ⟨v, l⟩ = s := by
  rw [hs, ← hi]
  show puts (((v : Int)).toNat :: l.length :: l.flatMap snums) = _
  rw [puts_cons, puts_cons, List.append_nil, Int.toNat_natCast]
theorem no_ver {s : List UInt8} (h : ¬ nok s 999999) : ∀ m, Right m → m.wf → enc m ≠ s := by
  intro m hr hw he
  obtain ⟨r, h1, h2, _⟩ := must1 hr hw he
  exact h ⟨by rw [h1], by rw [h1]; exact h2⟩
theorem no_cnt {s r : List UInt8} {v : Nat} (hv : tk s = (v, r, 0)) (h : ¬ nok r 200) : ∀ m, Right m → m.wf → enc m ≠ s := by
  intro m hr hw he
  obtain ⟨r', h1, h2, h3, h4⟩ := must1 hr hw he
  rw [h1] at hv
  simp only [Prod.mk.injEq, and_true] at hv
  obtain ⟨_, rfl⟩ := hv
  have h5 := tk_put (n := m.segs.length) (by unfold M64; omega) (puts (m.segs.flatMap snums))
  rw [← h3] at h5
  exact h ⟨by rw [h5], by rw [h5]; exact h4⟩
end Go.Proofs.YtbefhnpmilcffaaDoor.J
