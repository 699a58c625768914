/- Plain facts on names and numbers: what a name of digits tells, the map of names that were met, numbers in order. -/
import Derived.Test.YtmekkbhblghbmaaGreatDoorSmath
import Derived.Shelf.SlIter.AllValues
import Derived.Maps.OwnSet
namespace Go.Proofs.YtmekkbhblghbmaaGreatDoor
open Go.RowKit Go.Maps Go.Sort
set_option linter.unusedVariables false

/-! ### digits -/
def dig (c : UInt8) : Prop := 48 ≤ c.toNat ∧ c.toNat ≤ 57
theorem dg_dig (n : Nat) : ∀ k, ∀ c ∈ dg n k, dig c
  | 0, c, h => by simp [dg] at h
  | k + 1, c, h => by
    rw [dg, List.mem_cons] at h
    rcases h with rfl | h
    · unfold dig; rw [digit_toNat]; omega
    · exact dg_dig n k c h
theorem dg_last (n : Nat) : ∀ k, dg n (k + 1) = dg (n / 10) k ++ [UInt8.ofNat (48 + n % 10)]
  | 0 => by simp [dg]
  | k + 1 => by
    rw [dg, dg_last n k, dg, List.cons_append, Nat.pow_succ, Nat.mul_comm, ← Nat.div_div_eq_div_mul]
theorem dg_dval : ∀ (k : Nat) (t : List UInt8), t.length = k → (∀ c ∈ t, dig c) → 0 ≤ dval t ∧ dval t < 10 ^ k ∧ dg (dval t).toNat k = t
  | 0, t, hl, _ => by
    obtain rfl := List.eq_nil_of_length_eq_zero hl
    exact ⟨by simp [dval], by simp [dval], rfl⟩
  | k + 1, t, hl, hd => by
    rcases List.eq_nil_or_concat t with rfl | ⟨r, c, rfl⟩
    · simp at hl
    · rw [List.concat_eq_append] at hl hd ⊢
      have hc : dig c := hd c (by simp)
      obtain ⟨i1, i2, i3⟩ := dg_dval k r (by simpa using hl) (fun x hx => hd x (by simp [hx]))
      obtain ⟨c1, c2⟩ := hc
      have hp : (10 : Int) ^ (k + 1) = 10 ^ k * 10 := Int.pow_succ _ _
      rw [dval_snoc, hp]
      obtain ⟨v, hv⟩ : ∃ v : Nat, dval r = v := ⟨(dval r).toNat, by omega⟩
      rw [hv] at i1 i2 i3 ⊢
      rw [Int.toNat_natCast] at i3
      refine ⟨by omega, by omega, ?_⟩
      have e : (10 * (v : Int) + ((c.toNat : Int) - 48)).toNat = 10 * v + (c.toNat - 48) := by omega
      rw [e, dg_last, show (10 * v + (c.toNat - 48)) / 10 = v by omega, i3, show 48 + (10 * v + (c.toNat - 48)) % 10 = c.toNat by omega, UInt8.ofNat_toNat]

/-- A name of the letter and six signs is one, if these are digits. -/
theorem isNum_six {t : List UInt8} (h : t.length = 6) : isNum (115 :: t) = true ↔ ∀ c ∈ t, dig c := by
  have hn : numOf (115 :: t) = dval t := by
    unfold numOf
    rw [List.drop_one, List.tail_cons, List.take_of_length_le (by omega)]
  constructor
  · intro hi
    obtain ⟨h1, h2⟩ := isNum_ok hi
    rw [nameOf_ok h1] at h2
    injection h2 with _ h3
    rw [← h3]
    exact dg_dig _ _
  · intro hd
    obtain ⟨i1, i2, i3⟩ := dg_dval 6 t h hd
    unfold isNum
    rw [hn]
    have hs : segOk (dval t) := ⟨i1, by omega⟩
    rw [nameOf_ok hs, i3]
    simp
theorem numOf_six {t : List UInt8} (h : t.length = 6) : numOf (115 :: t) = dval t := by
  unfold numOf
  rw [List.drop_one, List.tail_cons, List.take_of_length_le (by omega)]
theorem isNum_len {l : List UInt8} (h : isNum l = true) : ∃ t, l = 115 :: t ∧ t.length = 6 := by
  obtain ⟨h1, h2⟩ := isNum_ok h
  rw [nameOf_ok h1] at h2
  exact ⟨_, h2.symm, dg_len _ _⟩

/-! ### the map of names -/
def stepD (D : DataW Unit) (x : List UInt8) : DataW Unit := if isNum x = true then D.put (.string x) (.lit (.int .i64 (numOf x))) else D
def numD (l : List (List UInt8)) : DataW Unit := l.foldl stepD (.map [])
theorem numD_snoc (l : List (List UInt8)) (x : List UInt8) : numD (l ++ [x]) = stepD (numD l) x := by simp [numD]
theorem stepD_map {D : DataW Unit} (h : IsMap D) (x : List UInt8) : IsMap (stepD D x) := by
  unfold stepD
  split
  · exact h.put _ _
  · exact h
theorem fold_has : ∀ (l : List (List UInt8)) (D : DataW Unit), IsMap D → ∀ x, Maps.has (l.foldl stepD D) (.string x) = (Maps.has D (.string x) || decide (x ∈ l ∧ isNum x = true))
  | [], D, _, x => by simp
  | y :: l, D, h, x => by
    rw [List.foldl_cons, fold_has l _ (stepD_map h y) x]
    have e : Maps.has (stepD D y) (.string x) = (Maps.has D (.string x) || decide (x = y ∧ isNum x = true)) := by
      unfold stepD
      by_cases hy : isNum y = true
      · rw [if_pos hy]
        by_cases hxy : x = y
        · subst hxy
          rw [has_put_same h (k := .string x) trivial]
          simp [hy]
        · rw [has_put_other (by intro e; injection e with e; exact hxy e)]
          simp [hxy]
      · rw [if_neg hy]
        by_cases hxy : x = y
        · subst hxy; simp [hy]
        · simp [hxy]
    rw [e, Bool.or_assoc]
    congr 1
    by_cases h1 : isNum x = true <;> simp [h1]
theorem numD_has (l : List (List UInt8)) (x : List UInt8) : Maps.has (numD l) (.string x) = decide (x ∈ l ∧ isNum x = true) := by
  unfold numD
  rw [fold_has l _ isMap_empty x]
  simp [Maps.has]
theorem fold_at {x : List UInt8} (hn : isNum x = true) (z : DataW Unit) : ∀ (l : List (List UInt8)) (D : DataW Unit), IsMap D → (x ∈ l ∨ D.atKey (.string x) z = .lit (.int .i64 (numOf x))) → (l.foldl stepD D).atKey (.string x) z = .lit (.int .i64 (numOf x))
  | [], D, _, h => by rcases h with h | h; · simp at h
                      · exact h
  | y :: l, D, hD, h => by
    rw [List.foldl_cons]
    refine fold_at hn z l _ (stepD_map hD y) ?_
    by_cases hxy : x = y
    · subst hxy
      right
      unfold stepD
      rw [if_pos hn, atKey_put_same hD (k := .string x) trivial]
    · rcases h with h | h
      · rcases List.mem_cons.1 h with h | h
        · exact absurd h hxy
        · exact Or.inl h
      · right
        unfold stepD
        split
        · rw [atKey_put_other (by intro e; injection e with e; exact hxy e)]; exact h
        · exact h
theorem numD_at {l : List (List UInt8)} {x : List UInt8} (hx : x ∈ l) (hn : isNum x = true) (z : DataW Unit) : (numD l).atKey (.string x) z = .lit (.int .i64 (numOf x)) := fold_at hn z l _ isMap_empty (Or.inl hx)

/-- All keys are strings, none twice. -/
def Ks (D : DataW Unit) : Prop := ∃ es, D = .map es ∧ es.Pairwise (fun p q => p.1 ≠ q.1) ∧ ∀ p ∈ es, ∃ x, p.1 = .string x
theorem insert_mem (x : Lit × DataW Unit) : ∀ (l : List (Lit × DataW Unit)) (p : Lit × DataW Unit), p ∈ DataW.insert x l → p = x ∨ p ∈ l
  | [], p, h => by simp [DataW.insert] at h; exact Or.inl h
  | y :: l, p, h => by
    unfold DataW.insert at h
    split at h
    · rcases List.mem_cons.1 h with h | h
      · exact Or.inl h
      · exact Or.inr h
    · rcases List.mem_cons.1 h with h | h
      · exact Or.inr (by simp [h])
      · rcases insert_mem x l p h with h | h
        · exact Or.inl h
        · exact Or.inr (by simp [h])
theorem Ks.put {D : DataW Unit} (h : Ks D) (x : List UInt8) (d : DataW Unit) : Ks (D.put (.string x) d) := by
  obtain ⟨es, rfl, h1, h2⟩ := h
  obtain ⟨es', e', h1'⟩ := (Tidy.put (D := .map es) ⟨es, rfl, h1⟩ (k := .string x) trivial d)
  refine ⟨es', e', h1', fun p hp => ?_⟩
  have e2 : es' = DataW.insert (.string x, d) (es.filter fun p => !p.1.sameKey (.string x)) := by
    have : (DataW.map es' : DataW Unit) = .map (DataW.insert (.string x, d) (es.filter fun p => !p.1.sameKey (.string x))) := e'.symm
    injection this
  rw [e2] at hp
  rcases insert_mem _ _ _ hp with rfl | hp
  · exact ⟨x, rfl⟩
  · exact h2 p (List.mem_filter.1 hp).1
theorem ks_fold : ∀ (l : List (List UInt8)) (D : DataW Unit), Ks D → Ks (l.foldl stepD D)
  | [], D, h => h
  | y :: l, D, h => by
    rw [List.foldl_cons]
    refine ks_fold l _ ?_
    unfold stepD
    split
    · exact h.put _ _
    · exact h
theorem numD_keys (l : List (List UInt8)) : (strKeys (numD l)).Nodup := by
  obtain ⟨es, he, h1, h2⟩ := ks_fold l (.map []) ⟨[], rfl, List.Pairwise.nil, by simp⟩
  unfold numD
  rw [he]
  show (es.map fun p => strOf p.1).Nodup
  unfold List.Nodup
  rw [List.pairwise_map]
  refine h1.imp_of_mem ?_
  intro p q hp hq hpq e
  obtain ⟨x, hx⟩ := h2 p hp
  obtain ⟨y, hy⟩ := h2 q hq
  rw [hx, hy] at hpq e
  exact hpq (by rw [show x = y from e])

/-- The values that come out of the map, in whatever order. -/
theorem numD_values {l : List (List UInt8)} {ps : List (List UInt8 × Int)} (hnd : l.Nodup) (h : AnyY.AllOf (numD l) ps) : (ps.map (·.2)).Perm ((l.filter isNum).map numOf) := by
  obtain ⟨h1, h2, h3⟩ := h
  have hm : ∀ p ∈ ps, p.1 ∈ l ∧ isNum p.1 = true := fun p hp => by
    have := (h2 p.1).1 (List.mem_map_of_mem (f := (·.1)) hp)
    rw [numD_has] at this
    simpa using this
  have hv : ps.map (·.2) = (ps.map (·.1)).map numOf := by
    rw [List.map_map]
    refine List.map_congr_left fun p hp => ?_
    obtain ⟨a1, a2⟩ := hm p hp
    have := h3 p hp (.lit (.int .i64 0))
    rw [numD_at a1 a2] at this
    injection this with this
    injection this with _ this
    exact this.symm
  rw [hv]
  refine List.Perm.map numOf ?_
  refine (List.perm_ext_iff_of_nodup (h1.nodup_iff.2 (numD_keys l)) (hnd.filter _)).2 fun x => ?_
  rw [h2, numD_has, List.mem_filter]
  simp

/-! ### in order -/
theorem dg_less : ∀ (k n m : Nat), Op.bytesLess (dg n k) (dg m k) = true → n % 10 ^ k < m % 10 ^ k
  | 0, n, m, h => by simp [dg, Op.bytesLess] at h
  | k + 1, n, m, h => by
    rw [dg, dg] at h
    unfold Op.bytesLess at h
    rw [Nat.pow_succ, Nat.mod_mul, Nat.mod_mul]
    have hp : 0 < 10 ^ k := Nat.pow_pos (by omega)
    have a1 := Nat.mod_lt n hp
    have a2 := Nat.mod_lt m hp
    rw [Bool.or_eq_true] at h
    rcases h with h | h
    · have h1 : UInt8.ofNat (48 + n / 10 ^ k % 10) < UInt8.ofNat (48 + m / 10 ^ k % 10) := by simpa using h
      rw [UInt8.lt_iff_toNat_lt, digit_toNat, digit_toNat] at h1
      have h2 : n / 10 ^ k % 10 + 1 ≤ m / 10 ^ k % 10 := by omega
      have h3 := Nat.mul_le_mul_left (10 ^ k) h2
      rw [Nat.mul_add, Nat.mul_one] at h3
      omega
    · rw [Bool.and_eq_true] at h
      obtain ⟨e, h⟩ := h
      have e1 : UInt8.ofNat (48 + n / 10 ^ k % 10) = UInt8.ofNat (48 + m / 10 ^ k % 10) := by simpa using e
      have e2 : n / 10 ^ k % 10 = m / 10 ^ k % 10 := by
        have := congrArg UInt8.toNat e1
        rw [digit_toNat, digit_toNat] at this
        omega
      have := dg_less k n m h
      rw [e2]
      omega
theorem name_less {a b : List UInt8} (ha : isNum a = true) (hb : isNum b = true) (h : lt a b = true) : numOf a < numOf b := by
  obtain ⟨a1, a2⟩ := isNum_ok ha
  obtain ⟨b1, b2⟩ := isNum_ok hb
  rw [nameOf_ok a1] at a2
  rw [nameOf_ok b1] at b2
  unfold lt at h
  rw [← a2, ← b2] at h
  unfold Op.bytesLess at h
  have h1 : Op.bytesLess (dg (numOf a).toNat 6) (dg (numOf b).toNat 6) = true := by simpa using h
  have := dg_less 6 _ _ h1
  unfold segOk at a1 b1
  omega
theorem alL_sorted {S : D.St} (h : D.Good S) : (alL S).Pairwise (· ≤ ·) := by
  unfold alL
  rw [List.pairwise_map]
  have hu : (S.fs.map D.Fl.nm).Pairwise (fun a b => lt a b = true) := by
    rw [List.pairwise_map]; exact h.up
  refine (hu.filter isNum).imp_of_mem ?_
  intro a b ha hb hab
  exact Int.le_of_lt (name_less (List.mem_filter.1 ha).2 (List.mem_filter.1 hb).2 hab)
theorem names_nodup {S : D.St} (h : D.Good S) : (S.fs.map D.Fl.nm).Nodup := by
  unfold List.Nodup
  rw [List.pairwise_map]
  exact h.up.imp fun hab => lt_ne hab
/-- What the library sorts them to. -/
theorem sorted_is {S : D.St} (h : D.Good S) {xs : List Int} (hp : xs.Perm (alL S)) : xs.mergeSort (fun x y => decide (x ≤ y)) = alL S := by
  refine List.Perm.eq_of_pairwise (le := (· ≤ ·)) (fun a b _ _ h1 h2 => Int.le_antisymm h1 h2) ?_ (alL_sorted h) ((List.mergeSort_perm xs _).trans hp)
  have := List.pairwise_mergeSort (le := fun x y : Int => decide (x ≤ y)) (fun a b c h1 h2 => by simp at h1 h2 ⊢; omega) (fun a b => by simp; omega) xs
  exact this.imp fun h => by simpa using h
end Go.Proofs.YtmekkbhblghbmaaGreatDoor
