/- Plain facts on numbers of variable length: what base-128 groups are, that they come back, and what a row of bytes begins with. Nothing of the program is used here. -/
namespace Go.Proofs.YtbefhnpmilcffaaDoor

def M64 : Nat := 18446744073709551616

/-- The groups of seven bits, the lowest first; 128 is added to each but the last. -/
def put (n : Nat) : List UInt8 :=
  if n < 128 then [UInt8.ofNat n] else UInt8.ofNat (128 + n % 128) :: put (n / 128)
termination_by n
decreasing_by omega

theorem put_lo {n : Nat} (h : n < 128) : put n = [UInt8.ofNat n] := by rw [put, if_pos h]
theorem put_hi {n : Nat} (h : ¬ n < 128) : put n = UInt8.ofNat (128 + n % 128) :: put (n / 128) := by rw [put, if_neg h]

theorem put_pos (n : Nat) : 0 < (put n).length := by
  rw [put]; split <;> simp

theorem put_len : ∀ (k n : Nat), n < 128 ^ (k + 1) → (put n).length ≤ k + 1
  | 0, n, h => by rw [put_lo (by simpa using h)]; simp
  | k + 1, n, h => by
    by_cases hn : n < 128
    · rw [put_lo hn]; simp
    · rw [put_hi hn]
      have := put_len k (n / 128) (by rw [Nat.div_lt_iff_lt_mul (by omega)]; rw [Nat.pow_succ] at h; exact h)
      simp; omega

theorem put_ten {n : Nat} (h : n < M64) : (put n).length ≤ 10 :=
  put_len 9 n (Nat.lt_of_lt_of_le h (by unfold M64; decide))

/-- What the groups come to. -/
def val : List UInt8 → Nat
  | [] => 0
  | c :: l => c.toNat % 128 + 128 * val l

theorem toNat_lo {n : Nat} (h : n < 128) : (UInt8.ofNat n).toNat = n := by
  rw [UInt8.toNat_ofNat']; omega
theorem toNat_hi (n : Nat) : (UInt8.ofNat (128 + n % 128)).toNat = 128 + n % 128 := by
  rw [UInt8.toNat_ofNat']; omega

theorem val_put (n : Nat) : val (put n) = n := by
  induction n using Nat.strongRecOn with
  | _ n ih =>
    by_cases hn : n < 128
    · rw [put_lo hn, val, val, toNat_lo hn]; omega
    · rw [put_hi hn, val, toNat_hi, ih (n / 128) (by omega)]; omega

/-- Of a number's bytes the last one alone is less than 128. -/
theorem put_byte : ∀ (n i : Nat) (h : i < (put n).length), (put n)[i].toNat < 128 ↔ i + 1 = (put n).length := by
  intro n
  induction n using Nat.strongRecOn with
  | _ n ih =>
    intro i h
    by_cases hn : n < 128
    · simp only [put_lo hn] at h ⊢
      have : i = 0 := by simpa using h
      subst this
      simp [toNat_lo hn, hn]
    · simp only [put_hi hn] at h ⊢
      have hp := put_pos (n / 128)
      cases i with
      | zero =>
        simp only [List.getElem_cons_zero, toNat_hi, List.length_cons]
        omega
      | succ j =>
        simp only [List.getElem_cons_succ, List.length_cons] at h ⊢
        rw [ih (n / 128) (by omega) j (by omega)]
        omega

/-- How many bytes there are up to the first one that is less than 128, among the first ten; 0 if there is none. -/
def sz (l : List UInt8) : Nat :=
  match (l.take 10).findIdx? (fun c => decide (c.toNat < 128)) with
  | some i => i + 1
  | none => 0

theorem sz_some {l : List UInt8} {i : Nat} (h10 : i < 10) (hi : i < l.length) (h : l[i].toNat < 128) (hb : ∀ j (hj : j < i), ¬ (l[j]'(by omega)).toNat < 128) : sz l = i + 1 := by
  have e : (l.take 10).findIdx? (fun c => decide (c.toNat < 128)) = some i := by
    rw [List.findIdx?_eq_some_iff_getElem]
    refine ⟨by simp; omega, by simpa using h, fun j hj => ?_⟩
    have := hb j hj
    simpa using this
  rw [sz, e]

theorem sz_none {l : List UInt8} (hb : ∀ j (hj : j < l.length), j < 10 → ¬ (l[j]).toNat < 128) : sz l = 0 := by
  have e : (l.take 10).findIdx? (fun c => decide (c.toNat < 128)) = none := by
    rw [List.findIdx?_eq_none_iff]
    intro x hx
    obtain ⟨j, hj, rfl⟩ := List.mem_iff_getElem.1 hx
    have hj' : j < 10 ∧ j < l.length := by simp at hj; omega
    have := hb j hj'.2 hj'.1
    simpa using this
  rw [sz, e]

theorem sz_le (l : List UInt8) : sz l ≤ l.length ∧ sz l ≤ 10 := by
  unfold sz
  split
  · rename_i i h
    rw [List.findIdx?_eq_some_iff_getElem] at h
    obtain ⟨h, _⟩ := h
    simp at h
    omega
  · omega

theorem sz_put {n : Nat} (h : n < M64) (r : List UInt8) : sz (put n ++ r) = (put n).length := by
  have h10 := put_ten h
  have hp := put_pos n
  have := sz_some (l := put n ++ r) (i := (put n).length - 1) (by omega) (by simp; omega) ?_ ?_
  · omega
  · rw [List.getElem_append_left (by omega), put_byte]; omega
  · intro j hj
    rw [List.getElem_append_left (by omega), put_byte]; omega

/-- The groups' number, modulo 2^64. -/
def valM (l : List UInt8) : Nat := val l % M64
theorem valM_lt (l : List UInt8) : valM l < M64 := Nat.mod_lt _ (by unfold M64; omega)

/-- What a row of bytes begins with: the number, what is behind it, the error. -/
def tk (l : List UInt8) : Nat × List UInt8 × Nat :=
  if sz l = 0 then (if l.length < 10 then (0, [], 3) else (0, [], 2))
  else if put (valM (l.take (sz l))) = l.take (sz l) then (valM (l.take (sz l)), l.drop (sz l), 0) else (0, [], 2)

theorem tk_short {l : List UInt8} (h : sz l = 0) (hl : l.length < 10) : tk l = (0, [], 3) := by rw [tk, if_pos h, if_pos hl]
theorem tk_long {l : List UInt8} (h : sz l = 0) (hl : ¬ l.length < 10) : tk l = (0, [], 2) := by rw [tk, if_pos h, if_neg hl]
theorem tk_yes {l : List UInt8} (h : ¬ sz l = 0) (hp : put (valM (l.take (sz l))) = l.take (sz l)) : tk l = (valM (l.take (sz l)), l.drop (sz l), 0) := by rw [tk, if_neg h, if_pos hp]
theorem tk_no {l : List UInt8} (h : ¬ sz l = 0) (hp : ¬ put (valM (l.take (sz l))) = l.take (sz l)) : tk l = (0, [], 2) := by rw [tk, if_neg h, if_neg hp]

/-- The ways that it can go. -/
theorem tk_cases (l : List UInt8) : (tk l = (0, [], 3) ∧ sz l = 0 ∧ l.length < 10) ∨ tk l = (0, [], 2) ∨ ∃ n r, tk l = (n, r, 0) ∧ n < M64 ∧ l = put n ++ r := by
  by_cases h : sz l = 0
  · by_cases hl : l.length < 10
    · exact .inl ⟨tk_short h hl, h, hl⟩
    · exact .inr (.inl (tk_long h hl))
  · by_cases hp : put (valM (l.take (sz l))) = l.take (sz l)
    · refine .inr (.inr ⟨_, _, tk_yes h hp, valM_lt _, ?_⟩)
      rw [hp, List.take_append_drop]
    · exact .inr (.inl (tk_no h hp))

theorem tk_put {n : Nat} (h : n < M64) (r : List UInt8) : tk (put n ++ r) = (n, r, 0) := by
  have hp := put_pos n
  have hs := sz_put h r
  have ht : (put n ++ r).take (sz (put n ++ r)) = put n := by rw [hs, List.take_left]
  have hd : (put n ++ r).drop (sz (put n ++ r)) = r := by rw [hs, List.drop_left]
  have hv : valM ((put n ++ r).take (sz (put n ++ r))) = n := by rw [ht, valM, val_put, Nat.mod_eq_of_lt h]
  have := tk_yes (l := put n ++ r) (by omega) (by rw [hv, ht])
  rw [this, hv, hd]

/-- A beginning of a number's bytes is too short. -/
theorem tk_cut {n k : Nat} (h : n < M64) (hk : k < (put n).length) : tk ((put n).take k) = (0, [], 3) := by
  have h10 := put_ten h
  refine tk_short (sz_none fun j hj _ => ?_) (by simp; omega)
  have hj' : j < k := by simp at hj; omega
  rw [List.getElem_take, put_byte]
  omega

/-- A text with its length ahead, taken: the text, what is behind it, the error. -/
def ot (l : List UInt8) : List UInt8 × List UInt8 × Nat :=
  if (tk l).2.2 ≠ 0 then ([], [], (tk l).2.2)
  else if (tk l).2.1.length < (tk l).1 then ([], [], 3)
  else ((tk l).2.1.take (tk l).1, (tk l).2.1.drop (tk l).1, 0)

theorem ot_err {l : List UInt8} {n : Nat} {r : List UInt8} {e : Nat} (h : tk l = (n, r, e)) (he : e ≠ 0) : ot l = ([], [], e) := by
  rw [ot, h, if_pos he]
theorem ot_short {l : List UInt8} {n : Nat} {r : List UInt8} (h : tk l = (n, r, 0)) (hr : r.length < n) : ot l = ([], [], 3) := by
  rw [ot, h, if_neg (by simp), if_pos hr]
theorem ot_yes {l : List UInt8} {n : Nat} {r : List UInt8} (h : tk l = (n, r, 0)) (hr : ¬ r.length < n) : ot l = (r.take n, r.drop n, 0) := by
  rw [ot, h, if_neg (by simp), if_neg hr]

theorem ot_text {s r : List UInt8} (h : s.length < M64) : ot (put s.length ++ s ++ r) = (s, r, 0) := by
  rw [List.append_assoc, ot_yes (tk_put h (s ++ r)) (by simp), List.take_left, List.drop_left]

theorem ot_cut {s : List UInt8} {k : Nat} (h : s.length < M64) (hk : k < (put s.length ++ s).length) : ot ((put s.length ++ s).take k) = ([], [], 3) := by
  by_cases hp : k < (put s.length).length
  · rw [List.take_append_of_le_length (by omega)]
    exact ot_err (tk_cut h hp) (by omega)
  · have e : (put s.length ++ s).take k = put s.length ++ s.take (k - (put s.length).length) := by
      rw [List.take_append, List.take_of_length_le (by omega)]
    rw [e]
    refine ot_short (tk_put h _) ?_
    simp at hk ⊢
    omega

/-- A number with a sign as one without. -/
def zig (a : Int) : Int := if a < 0 then -2 * a - 1 else 2 * a
def zag (n : Int) : Int := if n % 2 = 0 then n / 2 else -(n / 2) - 1

theorem zag_zig (a : Int) : zag (zig a) = a := by unfold zag zig; split <;> split <;> omega
theorem zig_zag (n : Int) (h : 0 ≤ n) : zig (zag n) = n := by unfold zag zig; split <;> split <;> omega
theorem zig_bd (a : Int) (h0 : -9223372036854775808 ≤ a) (h1 : a ≤ 9223372036854775807) : 0 ≤ zig a ∧ zig a ≤ 18446744073709551615 := by unfold zig; split <;> omega
theorem zag_bd (n : Int) (h0 : 0 ≤ n) (h1 : n ≤ 18446744073709551615) : -9223372036854775808 ≤ zag n ∧ zag n ≤ 9223372036854775807 := by unfold zag; split <;> omega

end Go.Proofs.YtbefhnpmilcffaaDoor
