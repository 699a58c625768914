/- Plain facts on batches as rows of bytes: what a batch's bytes are, what a row of bytes begins with, that they undo one another, that of rows that are cut just the whole ones are told, and that a turned bit is told. Nothing of the program is used here. -/
import Derived.Test.YtdifecclldkhpaaRlist
import Derived.Test.YtdifecclldkhpaaCmath
namespace Go.Proofs.Ytdifecclldkhpaa

theorem rds_len_le (b : List UInt8) : (rds b).1.length ≤ b.length := by
  have key : ∀ (n : Nat) (l : List UInt8) (acc : List Rc), (rdsF n l acc).1.length ≤ acc.length + l.length := by
    intro n
    induction n with
    | zero => intro l acc; simp [rdsF]
    | succ n ih =>
      intro l acc
      by_cases hl : l = []
      · subst hl; rw [rdsF_nil]; simp
      · obtain ⟨r, s, e, hrd⟩ : ∃ r s e, rd l = (r, s, e) := ⟨_, _, _, rfl⟩
        by_cases he : e = 0
        · subst he
          obtain ⟨hg, hxe⟩ := rd_ok hrd
          have h1 := enc_len hg
          rw [rdsF_next hl hrd]
          have := ih s (acc ++ [r])
          have h2 : l.length = (enc r).length + s.length := by rw [hxe, List.length_append]
          simp at this
          omega
        · rw [rdsF_err hl hrd he]; simp
  have := key (b.length + 1) b []
  simpa [rds] using this

/-- A batch's bytes. -/
def fbs (l : List Rc) : List UInt8 := txt (seal4 (encs l))

/-- May a batch be? -/
def fits16 (l : List Rc) : Bool := decide (1 ≤ l.length) && decide (l.length ≤ 16)
def good (l : List Rc) : Bool := fits16 l && rights l

theorem good_iff (l : List Rc) : good l = true ↔ (1 ≤ l.length ∧ l.length ≤ 16) ∧ rights l = true := by
  simp [good, fits16]

/-- The batch that a row of bytes begins with: the records, how many bytes, the error. -/
def ft (b : List UInt8) : List Rc × Nat × Nat :=
  if (ot b).2.2 ≠ 0 then ([], 0, (ot b).2.2)
  else if (opn (ot b).1).2 = false then ([], 0, 4)
  else if (rds (opn (ot b).1).1).2 ≠ 0 then ([], 0, 2)
  else if fits16 (rds (opn (ot b).1).1).1 = false then ([], 0, 2)
  else ((rds (opn (ot b).1).1).1, b.length - (ot b).2.1.length, 0)

section
variable {b s r c : List UInt8} {e : Nat} {l : List Rc}
theorem ft_err (h : ot b = (s, r, e)) (he : e ≠ 0) : ft b = ([], 0, e) := by rw [ft, h, if_pos he]
theorem ft_sum (h : ot b = (s, r, 0)) (h2 : opn s = (c, false)) : ft b = ([], 0, 4) := by
  rw [ft, h, if_neg (by simp)]
  simp only [h2]
  rw [if_pos trivial]
theorem ft_form (h : ot b = (s, r, 0)) (h2 : opn s = (c, true)) (h3 : rds c = (l, e)) (he : e ≠ 0) : ft b = ([], 0, 2) := by
  rw [ft, h, if_neg (by simp)]
  simp only [h2]
  rw [if_neg (by simp)]
  simp only [h3]
  rw [if_pos he]
theorem ft_many (h : ot b = (s, r, 0)) (h2 : opn s = (c, true)) (h3 : rds c = (l, 0)) (hl : fits16 l = false) : ft b = ([], 0, 2) := by
  rw [ft, h, if_neg (by simp)]
  simp only [h2]
  rw [if_neg (by simp)]
  simp only [h3]
  rw [if_neg (by simp), if_pos hl]
theorem ft_yes (h : ot b = (s, r, 0)) (h2 : opn s = (c, true)) (h3 : rds c = (l, 0)) (hl : fits16 l = true) : ft b = (l, b.length - r.length, 0) := by
  rw [ft, h, if_neg (by simp)]
  simp only [h2]
  rw [if_neg (by simp)]
  simp only [h3]
  rw [if_neg (by simp), if_neg (by simp [hl])]
end

theorem seal_len (l : List UInt8) : (seal4 l).length = 4 + l.length := by rw [seal4, List.length_append, four_length]

theorem good_len {l : List Rc} (h : good l = true) : (encs l).length ≤ 5920 ∧ 3 ≤ (encs l).length := by
  obtain ⟨⟨h1, h2⟩, h3⟩ := (good_iff l).1 h
  have := encs_len l h3
  refine ⟨by omega, ?_⟩
  match l, h1 with
  | r :: l, _ =>
    simp only [rights, List.all_cons, Bool.and_eq_true] at h3
    rw [encs_cons, List.length_append]
    obtain ⟨q1, q2, q3, q4, q5, q6⟩ := (right_iff r).1 h3.1
    have a := put_pos r.k.length
    cases hg : r.g with
    | true =>
      have := put_pos (2 * r.q + 1)
      rw [enc_gone hg, List.length_append, txt, List.length_append]; omega
    | false =>
      have := put_pos (2 * r.q)
      rw [enc_here hg, List.length_append, List.length_append, txt, List.length_append]; omega

theorem fbs_len {l : List Rc} (h : good l = true) : 8 ≤ (fbs l).length ∧ (fbs l).length ≤ 6000 := by
  obtain ⟨h1, h2⟩ := good_len h
  have := put_pos (seal4 (encs l)).length
  have h3 := put_ten (n := (seal4 (encs l)).length) (lt64 (by rw [seal_len]; omega))
  rw [fbs, txt, List.length_append, seal_len] at *
  omega

/-- What was laid is taken, with whatever behind it. -/
theorem ft_bytes {l : List Rc} (h : good l = true) (r : List UInt8) : ft (fbs l ++ r) = (l, (fbs l).length, 0) := by
  obtain ⟨h1, h2⟩ := good_len h
  have hg := (good_iff l).1 h
  have h3 := ot_txt (s := seal4 (encs l)) (r := r) (lt64 (by rw [seal_len]; omega))
  rw [← fbs] at h3
  rw [ft_yes h3 (opn_seal _) (rds_encs hg.2) (by simp [fits16, hg.1]), List.length_append]
  simp

/-- A beginning of a batch's bytes is too short. -/
theorem ft_cut {l : List Rc} (h : good l = true) {k : Nat} (hk : k < (fbs l).length) : ft ((fbs l).take k) = ([], 0, 3) := by
  obtain ⟨h1, h2⟩ := good_len h
  exact ft_err (ot_cut (s := seal4 (encs l)) (lt64 (by rw [seal_len]; omega)) hk) (by omega)

theorem ot_le3 (u : List UInt8) : (ot u).2.2 ≤ 3 := by
  rcases tk_cases u with ⟨e, _⟩ | e | ⟨n, q, e, _⟩
  · rw [ot_err e (by omega)]; simp
  · rw [ot_err e (by omega)]; simp
  · by_cases hs : q.length < n
    · rw [ot_short e hs]; simp
    · rw [ot_yes e hs]; simp

/-- The ways that it can go. -/
theorem ft_cases (b : List UInt8) : (∃ e, e ≠ 0 ∧ e ≤ 4 ∧ ft b = ([], 0, e)) ∨ ∃ l n, ft b = (l, n, 0) ∧ fits16 l = true ∧ 0 < n ∧ n ≤ b.length := by
  obtain ⟨s, r, e, h⟩ : ∃ s r e, ot b = (s, r, e) := ⟨_, _, _, rfl⟩
  by_cases he : e = 0
  · subst he
    obtain ⟨c, ok, h2⟩ : ∃ c ok, opn s = (c, ok) := ⟨_, _, rfl⟩
    cases ok with
    | false => exact .inl ⟨4, by omega, by omega, ft_sum h h2⟩
    | true =>
      obtain ⟨l, e, h3⟩ : ∃ l e, rds c = (l, e) := ⟨_, _, rfl⟩
      by_cases he : e = 0
      · subst he
        cases hl : fits16 l with
        | false => exact .inl ⟨2, by omega, by omega, ft_many h h2 h3 hl⟩
        | true =>
          have hb := (ot_ok h).1
          have hp := txt_pos s
          have hz : b.length = (txt s).length + r.length := by rw [hb, List.length_append]
          exact .inr ⟨l, _, ft_yes h h2 h3 hl, hl, by omega, by omega⟩
      · exact .inl ⟨2, by omega, by omega, ft_form h h2 h3 he⟩
  · have := ot_le3 b
    rw [h] at this
    exact .inl ⟨e, he, by simp at this; omega, ft_err h he⟩

/-- The batches that a row of bytes begins with, behind those so far, and their length in bytes. -/
def fsF : Nat → List UInt8 → List (List Rc) → Nat → List (List Rc) × Nat
  | 0, _, acc, k => (acc, k)
  | n + 1, b, acc, k => if (ft b).2.2 ≠ 0 then (acc, k) else fsF n (b.drop (ft b).2.1) (acc ++ [(ft b).1]) (k + (ft b).2.1)

def fs (b : List UInt8) : List (List Rc) × Nat := fsF (b.length + 1) b [] 0

theorem fsF_end {n k : Nat} {b : List UInt8} {acc : List (List Rc)} {l : List Rc} {m e : Nat} (h : ft b = (l, m, e)) (he : e ≠ 0) : fsF (n + 1) b acc k = (acc, k) := by
  rw [fsF, h, if_pos he]
theorem fsF_next {n k : Nat} {b : List UInt8} {acc : List (List Rc)} {l : List Rc} {m : Nat} (h : ft b = (l, m, 0)) : fsF (n + 1) b acc k = fsF n (b.drop m) (acc ++ [l]) (k + m) := by
  rw [fsF, h, if_neg (by simp)]

theorem ft_nil : ft [] = ([], 0, 3) := by
  refine ft_err (ot_err (tk_short (sz_none fun j hj => by simp at hj) (by simp)) (by omega)) (by omega)

theorem fsF_nil (n k : Nat) (acc : List (List Rc)) : fsF (n + 1) [] acc k = (acc, k) := fsF_end ft_nil (by omega)

/-- Batches' bytes, one behind the other. -/
def cat (ls : List (List Rc)) : List UInt8 := ls.flatMap fbs
theorem cat_nil : cat [] = [] := rfl
theorem cat_cons (l : List Rc) (ls : List (List Rc)) : cat (l :: ls) = fbs l ++ cat ls := by simp [cat]
theorem cat_snoc (ls : List (List Rc)) (l : List Rc) : cat (ls ++ [l]) = cat ls ++ fbs l := by simp [cat]

theorem fsF_cat : ∀ (ls : List (List Rc)) (r : List UInt8) (n k : Nat) (acc : List (List Rc)) (_ : ∀ l ∈ ls, good l = true) (_ : (cat ls ++ r).length < n) {x : List Rc} {m e : Nat} (_ : ft r = (x, m, e)) (_ : e ≠ 0),
    fsF n (cat ls ++ r) acc k = (acc ++ ls, k + (cat ls).length)
  | [], r, n, k, acc, _, hn, x, m, e, h, he => by
    obtain ⟨n, rfl⟩ : ∃ m, n = m + 1 := ⟨n - 1, by omega⟩
    rw [cat_nil, List.nil_append, fsF_end h he]
    simp
  | l :: ls, r, n, k, acc, hg, hn, x, m, e, h, he => by
    obtain ⟨n, rfl⟩ : ∃ m, n = m + 1 := ⟨n - 1, by omega⟩
    have hl := fbs_len (hg l (by simp))
    rw [cat_cons, List.append_assoc] at hn ⊢
    rw [List.length_append] at hn
    rw [fsF_next (ft_bytes (hg l (by simp)) _), List.drop_left, fsF_cat ls r n _ _ (fun y hy => hg y (by simp [hy])) (by omega) h he]
    simp [Nat.add_assoc]

theorem fs_cat (ls : List (List Rc)) (r : List UInt8) (hg : ∀ l ∈ ls, good l = true) {x : List Rc} {m e : Nat} (h : ft r = (x, m, e)) (he : e ≠ 0) : fs (cat ls ++ r) = (ls, (cat ls).length) := by
  rw [fs, fsF_cat ls r _ 0 [] hg (by omega) h he]
  simp

/-- Of batches' bytes that are cut, just the whole ones are told. -/
theorem fs_cut (ls : List (List Rc)) (hg : ∀ l ∈ ls, good l = true) (k j : Nat) (hj : j ≤ ls.length) (hlo : (cat (ls.take j)).length ≤ k) (hhi : j < ls.length → k < (cat (ls.take (j + 1))).length) (hk : k ≤ (cat ls).length) :
    fs ((cat ls).take k) = (ls.take j, (cat (ls.take j)).length) := by
  by_cases h : j < ls.length
  · have hh := hhi h
    have e : cat ls = cat (ls.take j) ++ (fbs ls[j] ++ cat (ls.drop (j + 1))) := by
      rw [← cat_cons, List.getElem_cons_drop, cat, cat, cat, ← List.flatMap_append, List.take_append_drop]
    rw [List.take_succ_eq_append_getElem h, cat_snoc, List.length_append] at hh
    rw [e, List.take_append, List.take_of_length_le hlo, List.take_append_of_le_length (by omega)]
    exact fs_cat _ _ (fun l hl => hg l (List.mem_of_mem_take hl)) (ft_cut (hg _ (List.getElem_mem h)) (by omega)) (by omega)
  · have ej : j = ls.length := by omega
    subst ej
    rw [List.take_length] at hlo ⊢
    have ek : k = (cat ls).length := by omega
    subst ek
    rw [List.take_length]
    have := fs_cat ls [] hg ft_nil (by omega)
    rwa [List.append_nil] at this

/-- With a byte turned, what was sealed is not opened. -/
theorem opn_byte (l : List UInt8) (j : Nat) (x : UInt8) (hj : j < (seal4 l).length) (hx : x ≠ (seal4 l)[j]) : opn ((seal4 l).set j x) = ([], false) := by
  have hz := seal_len l
  by_cases h4 : j < 4
  · have hd : ((seal4 l).set j x).drop 4 = l := by rw [List.drop_set_of_lt h4]; rfl
    refine opn_no (by rw [List.length_set]; omega) ?_
    rw [hd]
    intro e
    have h1 : ((seal4 l).set j x)[j]'(by rw [List.length_set]; omega) = x := List.getElem_set_self _
    have h2 : (((seal4 l).set j x).take 4)[j]'(by simp; omega) = x := by rw [List.getElem_take]; exact h1
    have h3 : (seal4 l)[j] = (four (sum l))[j]'(by rw [four_length]; exact h4) := List.getElem_append_left (by rw [four_length]; exact h4)
    apply hx
    rw [h3, ← h2]
    simp only [e]
  · obtain ⟨i, rfl⟩ : ∃ i, j = 4 + i := ⟨j - 4, by omega⟩
    have hi : i < l.length := by omega
    have e : (seal4 l).set (4 + i) x = four (sum l) ++ l.set i x := by
      rw [seal4, List.set_append_right (4 + i) x (by rw [four_length]; omega), four_length, Nat.add_sub_cancel_left]
    have h3 : (seal4 l)[4 + i] = l[i] := by
      have h0 : (four (sum l) ++ l)[4 + i]? = l[i]? := by rw [List.getElem?_append_right (by rw [four_length]; omega), four_length, Nat.add_sub_cancel_left]
      rw [← seal4, List.getElem?_eq_getElem hj, List.getElem?_eq_getElem hi] at h0
      exact Option.some.inj h0
    rw [e]
    refine opn_turned l _ ?_
    have e1 : l = l.take i ++ [l[i]] ++ l.drop (i + 1) := by rw [List.append_assoc, List.singleton_append, List.getElem_cons_drop, List.take_append_drop]
    have e2 : l.set i x = l.take i ++ [x] ++ l.drop (i + 1) := by rw [List.set_eq_take_append_cons_drop, if_pos hi, List.append_assoc, List.singleton_append]
    rw [e2]
    have := sum_ne (l.take i) [l[i]] [x] (l.drop (i + 1)) rfl (by simp) (by simp; rw [← h3]; exact fun h => hx h.symm)
    rwa [← e1] at this

theorem ft_byte {l : List Rc} (h : good l = true) (r : List UInt8) (k : Nat) (x : UInt8) (h1 : (put (seal4 (encs l)).length).length ≤ k) (hk : k < (fbs l).length) (hx : x ≠ (fbs l)[k]) : ft ((fbs l).set k x ++ r) = ([], 0, 4) := by
  obtain ⟨z1, z2⟩ := good_len h
  have hz := seal_len (encs l)
  have hbl : (fbs l).length = (put (seal4 (encs l)).length).length + (seal4 (encs l)).length := by rw [fbs, txt, List.length_append]
  have e : (fbs l).set k x = txt ((seal4 (encs l)).set (k - (put (seal4 (encs l)).length).length) x) := by
    rw [fbs, txt, List.set_append_right k x h1, txt, List.length_set]
  have h3 : (fbs l)[k] = (seal4 (encs l))[k - (put (seal4 (encs l)).length).length]'(by omega) := List.getElem_append_right h1
  rw [e]
  refine ft_sum (ot_txt (lt64 (by rw [List.length_set]; omega))) (opn_byte _ _ _ (by omega) ?_)
  rw [← h3]; exact hx

/-- How many bytes the length of a batch has. -/
theorem put_one {l : List Rc} (h : good l = true) : (put (seal4 (encs l)).length).length = if 129 < (fbs l).length then 2 else 1 := by
  obtain ⟨z1, z2⟩ := good_len h
  have hz := seal_len (encs l)
  have hbl : (fbs l).length = (put (seal4 (encs l)).length).length + (seal4 (encs l)).length := by rw [fbs, txt, List.length_append]
  rw [hbl]
  generalize (seal4 (encs l)).length = n at *
  by_cases hn : n < 128
  · rw [put_lo hn, if_neg (by simp; omega)]; rfl
  · rw [put_hi hn, put_lo (n := n / 128) (by omega), if_pos (by simp; omega)]; rfl

theorem bit_ne (x : UInt8) (k : Nat) (h : k < 8) : x ^^^ UInt8.ofNat (2 ^ k) ≠ x := by
  intro e
  have h2 : UInt8.ofNat (2 ^ k) = 0 := by
    have h3 := congrArg (x ^^^ ·) e
    simp only [← UInt8.xor_assoc, UInt8.xor_self, UInt8.zero_xor] at h3
    exact h3
  rcases (by omega : k = 0 ∨ k = 1 ∨ k = 2 ∨ k = 3 ∨ k = 4 ∨ k = 5 ∨ k = 6 ∨ k = 7) with rfl | rfl | rfl | rfl | rfl | rfl | rfl | rfl <;> exact absurd h2 (by decide)

end Go.Proofs.Ytdifecclldkhpaa
