/- Merged out of 6 texts, in build order: Fmath, Fbytes, Ftake, Fscan, Frefs, Flight. -/
import Derived.Test.YtmekkbhblghbmaaGreatDoorRb
import Derived.Test.YtmekkbhblghbmaaGreatDoorCb
import Derived.WalkMore
import Derived.ScopeJumps

/- Plain facts on batches as rows of bytes: what a batch's bytes are, what a row of bytes begins with, that they undo one another, that of rows that are cut just the whole ones are told, and that a turned bit is told. Nothing of the program is used here. -/
namespace Go.Proofs.YtmekkbhblghbmaaGreatDoor

theorem rds_len_le (b : List UInt8) : (rds b).1.length ≤ b.length := by
  have key : ∀ (n : Nat) (l : List UInt8) (acc : List Rc), (rdsF n l acc).1.length ≤ acc.length + l.length := by
    intro n
    induction n with
    | zero => intro l acc; simp [rdsF]
    | succ n ih =>
      intro l acc
      by_cases hl : l = []
      · subst hl; rw [rdsF_nil]; simp
      · obtain ⟨r, s, e, hrd⟩ : ∃ r s e, rd l = (r, s, e) := ⟨_, _, _, rfl⟩
        by_cases he : e = 0
        · subst he
          obtain ⟨hg, hxe⟩ := rd_ok hrd
          have h1 := enc_len hg
          rw [rdsF_next hl hrd]
          have := ih s (acc ++ [r])
          have h2 : l.length = (enc r).length + s.length := by rw [hxe, List.length_append]
          simp at this
          omega
        · rw [rdsF_err hl hrd he]; simp
  have := key (b.length + 1) b []
  simpa [rds] using this

/-- A batch's bytes. -/
def fbs (l : List Rc) : List UInt8 := txt (seal4 (encs l))

/-- May a batch be? -/
def fits16 (l : List Rc) : Bool := decide (1 ≤ l.length) && decide (l.length ≤ 16)
def good (l : List Rc) : Bool := fits16 l && rights l

theorem good_iff (l : List Rc) : good l = true ↔ (1 ≤ l.length ∧ l.length ≤ 16) ∧ rights l = true := by
  simp [good, fits16]

/-- The batch that a row of bytes begins with: the records, how many bytes, the error. -/
def ft (b : List UInt8) : List Rc × Nat × Nat :=
  if (ot b).2.2 ≠ 0 then ([], 0, (ot b).2.2)
  else if (opn (ot b).1).2 = false then ([], 0, 4)
  else if (rds (opn (ot b).1).1).2 ≠ 0 then ([], 0, 2)
  else if fits16 (rds (opn (ot b).1).1).1 = false then ([], 0, 2)
  else ((rds (opn (ot b).1).1).1, b.length - (ot b).2.1.length, 0)

section
variable {b s r c : List UInt8} {e : Nat} {l : List Rc}
theorem ft_err (h : ot b = (s, r, e)) (he : e ≠ 0) : ft b = ([], 0, e) := by rw [ft, h, if_pos he]
theorem ft_sum (h : ot b = (s, r, 0)) (h2 : opn s = (c, false)) : ft b = ([], 0, 4) := by
  rw [ft, h, if_neg (by simp)]
  simp only [h2]
  rw [if_pos trivial]
theorem ft_form (h : ot b = (s, r, 0)) (h2 : opn s = (c, true)) (h3 : rds c = (l, e)) (he : e ≠ 0) : ft b = ([], 0, 2) := by
  rw [ft, h, if_neg (by simp)]
  simp only [h2]
  rw [if_neg (by simp)]
  simp only [h3]
  rw [if_pos he]
theorem ft_many (h : ot b = (s, r, 0)) (h2 : opn s = (c, true)) (h3 : rds c = (l, 0)) (hl : fits16 l = false) : ft b = ([], 0, 2) := by
  rw [ft, h, if_neg (by simp)]
  simp only [h2]
  rw [if_neg (by simp)]
  simp only [h3]
  rw [if_neg (by simp), if_pos hl]
theorem ft_yes (h : ot b = (s, r, 0)) (h2 : opn s = (c, true)) (h3 : rds c = (l, 0)) (hl : fits16 l = true) : ft b = (l, b.length - r.length, 0) := by
  rw [ft, h, if_neg (by simp)]
  simp only [h2]
  rw [if_neg (by simp)]
  simp only [h3]
  rw [if_neg (by simp), if_neg (by simp [hl])]
end

theorem seal_len (l : List UInt8) : (seal4 l).length = 4 + l.length := by rw [seal4, List.length_append, four_length]

theorem good_len {l : List Rc} (h : good l = true) : (encs l).length ≤ 5920 ∧ 3 ≤ (encs l).length := by
  obtain ⟨⟨h1, h2⟩, h3⟩ := (good_iff l).1 h
  have := encs_len l h3
  refine ⟨by omega, ?_⟩
  match l, h1 with
  | r :: l, _ =>
    simp only [rights, List.all_cons, Bool.and_eq_true] at h3
    rw [encs_cons, List.length_append]
    obtain ⟨q1, q2, q3, q4, q5, q6⟩ := (right_iff r).1 h3.1
    have a := put_pos r.k.length
    cases hg : r.g with
    | true =>
      have := put_pos (2 * r.q + 1)
      rw [enc_gone hg, List.length_append, txt, List.length_append]; omega
    | false =>
      have := put_pos (2 * r.q)
      rw [enc_here hg, List.length_append, List.length_append, txt, List.length_append]; omega

theorem fbs_len {l : List Rc} (h : good l = true) : 8 ≤ (fbs l).length ∧ (fbs l).length ≤ 6000 := by
  obtain ⟨h1, h2⟩ := good_len h
  have := put_pos (seal4 (encs l)).length
  have h3 := put_ten (n := (seal4 (encs l)).length) (lt64 (by rw [seal_len]; omega))
  rw [fbs, txt, List.length_append, seal_len] at *
  omega

/-- What was laid is taken, with whatever behind it. -/
theorem ft_bytes {l : List Rc} (h : good l = true) (r : List UInt8) : ft (fbs l ++ r) = (l, (fbs l).length, 0) := by
  obtain ⟨h1, h2⟩ := good_len h
  have hg := (good_iff l).1 h
  have h3 := ot_txt (s := seal4 (encs l)) (r := r) (lt64 (by rw [seal_len]; omega))
  rw [← fbs] at h3
  rw [ft_yes h3 (opn_seal _) (rds_encs hg.2) (by simp [fits16, hg.1]), List.length_append]
  simp

/-- A beginning of a batch's bytes is too short. -/
theorem ft_cut {l : List Rc} (h : good l = true) {k : Nat} (hk : k < (fbs l).length) : ft ((fbs l).take k) = ([], 0, 3) := by
  obtain ⟨h1, h2⟩ := good_len h
  exact ft_err (ot_cut (s := seal4 (encs l)) (lt64 (by rw [seal_len]; omega)) hk) (by omega)

theorem ot_le3 (u : List UInt8) : (ot u).2.2 ≤ 3 := by
  rcases tk_cases u with ⟨e, _⟩ | e | ⟨n, q, e, _⟩
  · rw [ot_err e (by omega)]; simp
  · rw [ot_err e (by omega)]; simp
  · by_cases hs : q.length < n
    · rw [ot_short e hs]; simp
    · rw [ot_yes e hs]; simp

/-- The ways that it can go. -/
theorem ft_cases (b : List UInt8) : (∃ e, e ≠ 0 ∧ e ≤ 4 ∧ ft b = ([], 0, e)) ∨ ∃ l n, ft b = (l, n, 0) ∧ fits16 l = true ∧ 0 < n ∧ n ≤ b.length := by
  obtain ⟨s, r, e, h⟩ : ∃ s r e, ot b = (s, r, e) := ⟨_, _, _, rfl⟩
  by_cases he : e = 0
  · subst he
    obtain ⟨c, ok, h2⟩ : ∃ c ok, opn s = (c, ok) := ⟨_, _, rfl⟩
    cases ok with
    | false => exact .inl ⟨4, by omega, by omega, ft_sum h h2⟩
    | true =>
      obtain ⟨l, e, h3⟩ : ∃ l e, rds c = (l, e) := ⟨_, _, rfl⟩
      by_cases he : e = 0
      · subst he
        cases hl : fits16 l with
        | false => exact .inl ⟨2, by omega, by omega, ft_many h h2 h3 hl⟩
        | true =>
          have hb := (ot_ok h).1
          have hp := txt_pos s
          have hz : b.length = (txt s).length + r.length := by rw [hb, List.length_append]
          exact .inr ⟨l, _, ft_yes h h2 h3 hl, hl, by omega, by omega⟩
      · exact .inl ⟨2, by omega, by omega, ft_form h h2 h3 he⟩
  · have := ot_le3 b
    rw [h] at this
    exact .inl ⟨e, he, by simp at this; omega, ft_err h he⟩

/-- The batches that a row of bytes begins with, behind those so far, and their length in bytes. -/
def fsF : Nat → List UInt8 → List (List Rc) → Nat → List (List Rc) × Nat
  | 0, _, acc, k => (acc, k)
  | n + 1, b, acc, k => if (ft b).2.2 ≠ 0 then (acc, k) else fsF n (b.drop (ft b).2.1) (acc ++ [(ft b).1]) (k + (ft b).2.1)

def fs (b : List UInt8) : List (List Rc) × Nat := fsF (b.length + 1) b [] 0

theorem fsF_end {n k : Nat} {b : List UInt8} {acc : List (List Rc)} {l : List Rc} {m e : Nat} (h : ft b = (l, m, e)) (he : e ≠ 0) : fsF (n + 1) b acc k = (acc, k) := by
  rw [fsF, h, if_pos he]
theorem fsF_next {n k : Nat} {b : List UInt8} {acc : List (List Rc)} {l : List Rc} {m : Nat} (h : ft b = (l, m, 0)) : fsF (n + 1) b acc k = fsF n (b.drop m) (acc ++ [l]) (k + m) := by
  rw [fsF, h, if_neg (by simp)]

theorem ft_nil : ft [] = ([], 0, 3) := by
  refine ft_err (ot_err (tk_short (sz_none fun j hj => by simp at hj) (by simp)) (by omega)) (by omega)

theorem fsF_nil (n k : Nat) (acc : List (List Rc)) : fsF (n + 1) [] acc k = (acc, k) := fsF_end ft_nil (by omega)

/-- Batches' bytes, one behind the other. -/
def cat (ls : List (List Rc)) : List UInt8 := ls.flatMap fbs
theorem cat_nil : cat [] = [] := rfl
theorem cat_cons (l : List Rc) (ls : List (List Rc)) : cat (l :: ls) = fbs l ++ cat ls := by simp [cat]
theorem cat_snoc (ls : List (List Rc)) (l : List Rc) : cat (ls ++ [l]) = cat ls ++ fbs l := by simp [cat]

theorem fsF_cat : ∀ (ls : List (List Rc)) (r : List UInt8) (n k : Nat) (acc : List (List Rc)) (_ : ∀ l ∈ ls, good l = true) (_ : (cat ls ++ r).length < n) {x : List Rc} {m e : Nat} (_ : ft r = (x, m, e)) (_ : e ≠ 0),
    fsF n (cat ls ++ r) acc k = (acc ++ ls, k + (cat ls).length)
  | [], r, n, k, acc, _, hn, x, m, e, h, he => by
    obtain ⟨n, rfl⟩ : ∃ m, n = m + 1 := ⟨n - 1, by omega⟩
    rw [cat_nil, List.nil_append, fsF_end h he]
    simp
  | l :: ls, r, n, k, acc, hg, hn, x, m, e, h, he => by
    obtain ⟨n, rfl⟩ : ∃ m, n = m + 1 := ⟨n - 1, by omega⟩
    have hl := fbs_len (hg l (by simp))
    rw [cat_cons, List.append_assoc] at hn ⊢
    rw [List.length_append] at hn
    rw [fsF_next (ft_bytes (hg l (by simp)) _), List.drop_left, fsF_cat ls r n _ _ (fun y hy => hg y (by simp [hy])) (by omega) h he]
    simp [Nat.add_assoc]

theorem fs_cat (ls : List (List Rc)) (r : List UInt8) (hg : ∀ l ∈ ls, good l = true) {x : List Rc} {m e : Nat} (h : ft r = (x, m, e)) (he : e ≠ 0) : fs (cat ls ++ r) = (ls, (cat ls).length) := by
  rw [fs, fsF_cat ls r _ 0 [] hg (by omega) h he]
  simp

/-- Of batches' bytes that are cut, just the whole ones are told. -/
theorem fs_cut (ls : List (List Rc)) (hg : ∀ l ∈ ls, good l = true) (k j : Nat) (hj : j ≤ ls.length) (hlo : (cat (ls.take j)).length ≤ k) (hhi : j < ls.length → k < (cat (ls.take (j + 1))).length) (hk : k ≤ (cat ls).length) :
    fs ((cat ls).take k) = (ls.take j, (cat (ls.take j)).length) := by
  by_cases h : j < ls.length
  · have hh := hhi h
    have e : cat ls = cat (ls.take j) ++ (fbs ls[j] ++ cat (ls.drop (j + 1))) := by
      rw [← cat_cons, List.getElem_cons_drop, cat, cat, cat, ← List.flatMap_append, List.take_append_drop]
    rw [List.take_succ_eq_append_getElem h, cat_snoc, List.length_append] at hh
    rw [e, List.take_append, List.take_of_length_le hlo, List.take_append_of_le_length (by omega)]
    exact fs_cat _ _ (fun l hl => hg l (List.mem_of_mem_take hl)) (ft_cut (hg _ (List.getElem_mem h)) (by omega)) (by omega)
  · have ej : j = ls.length := by omega
    subst ej
    rw [List.take_length] at hlo ⊢
    have ek : k = (cat ls).length := by omega
    subst ek
    rw [List.take_length]
    have := fs_cat ls [] hg ft_nil (by omega)
    rwa [List.append_nil] at this

/-- With a byte turned, what was sealed is not opened. -/
theorem opn_byte (l : List UInt8) (j : Nat) (x : UInt8) (hj : j < (seal4 l).length) (hx : x ≠ (seal4 l)[j]) : opn ((seal4 l).set j x) = ([], false) := by
  have hz := seal_len l
  by_cases h4 : j < 4
  · have hd : ((seal4 l).set j x).drop 4 = l := by rw [List.drop_set_of_lt h4]; rfl
    refine opn_no (by rw [List.length_set]; omega) ?_
    rw [hd]
    intro e
    have h1 : ((seal4 l).set j x)[j]'(by rw [List.length_set]; omega) = x := List.getElem_set_self _
    have h2 : (((seal4 l).set j x).take 4)[j]'(by simp; omega) = x := by rw [List.getElem_take]; exact h1
    have h3 : (seal4 l)[j] = (four (sum l))[j]'(by rw [four_length]; exact h4) := List.getElem_append_left (by rw [four_length]; exact h4)
    apply hx
    rw [h3, ← h2]
    simp only [e]
  · obtain ⟨i, rfl⟩ : ∃ i, j = 4 + i := ⟨j - 4, by omega⟩
    have hi : i < l.length := by omega
    have e : (seal4 l).set (4 + i) x = four (sum l) ++ l.set i x := by
      rw [seal4, List.set_append_right (4 + i) x (by rw [four_length]; omega), four_length, Nat.add_sub_cancel_left]
    have h3 : (seal4 l)[4 + i] = l[i] := by
      have h0 : (four (sum l) ++ l)[4 + i]? = l[i]? := by rw [List.getElem?_append_right (by rw [four_length]; omega), four_length, Nat.add_sub_cancel_left]
      rw [← seal4, List.getElem?_eq_getElem hj, List.getElem?_eq_getElem hi] at h0
      exact Option.some.inj h0
    rw [e]
    refine opn_turned l _ ?_
    have e1 : l = l.take i ++ [l[i]] ++ l.drop (i + 1) := by rw [List.append_assoc, List.singleton_append, List.getElem_cons_drop, List.take_append_drop]
    have e2 : l.set i x = l.take i ++ [x] ++ l.drop (i + 1) := by rw [List.set_eq_take_append_cons_drop, if_pos hi, List.append_assoc, List.singleton_append]
    rw [e2]
    have := sum_ne (l.take i) [l[i]] [x] (l.drop (i + 1)) rfl (by simp) (by simp; rw [← h3]; exact fun h => hx h.symm)
    rwa [← e1] at this

theorem ft_byte {l : List Rc} (h : good l = true) (r : List UInt8) (k : Nat) (x : UInt8) (h1 : (put (seal4 (encs l)).length).length ≤ k) (hk : k < (fbs l).length) (hx : x ≠ (fbs l)[k]) : ft ((fbs l).set k x ++ r) = ([], 0, 4) := by
  obtain ⟨z1, z2⟩ := good_len h
  have hz := seal_len (encs l)
  have hbl : (fbs l).length = (put (seal4 (encs l)).length).length + (seal4 (encs l)).length := by rw [fbs, txt, List.length_append]
  have e : (fbs l).set k x = txt ((seal4 (encs l)).set (k - (put (seal4 (encs l)).length).length) x) := by
    rw [fbs, txt, List.set_append_right k x h1, txt, List.length_set]
  have h3 : (fbs l)[k] = (seal4 (encs l))[k - (put (seal4 (encs l)).length).length]'(by omega) := List.getElem_append_right h1
  rw [e]
  refine ft_sum (ot_txt (lt64 (by rw [List.length_set]; omega))) (opn_byte _ _ _ (by omega) ?_)
  rw [← h3]; exact hx

/-- How many bytes the length of a batch has. -/
theorem put_one {l : List Rc} (h : good l = true) : (put (seal4 (encs l)).length).length = if 129 < (fbs l).length then 2 else 1 := by
  obtain ⟨z1, z2⟩ := good_len h
  have hz := seal_len (encs l)
  have hbl : (fbs l).length = (put (seal4 (encs l)).length).length + (seal4 (encs l)).length := by rw [fbs, txt, List.length_append]
  rw [hbl]
  generalize (seal4 (encs l)).length = n at *
  by_cases hn : n < 128
  · rw [put_lo hn, if_neg (by simp; omega)]; rfl
  · rw [put_hi hn, put_lo (n := n / 128) (by omega), if_pos (by simp; omega)]; rfl

theorem bit_ne (x : UInt8) (k : Nat) (h : k < 8) : x ^^^ UInt8.ofNat (2 ^ k) ≠ x := by
  intro e
  have h2 : UInt8.ofNat (2 ^ k) = 0 := by
    have h3 := congrArg (x ^^^ ·) e
    simp only [← UInt8.xor_assoc, UInt8.xor_self, UInt8.zero_xor] at h3
    exact h3
  rcases (by omega : k = 0 ∨ k = 1 ∨ k = 2 ∨ k = 3 ∨ k = 4 ∨ k = 5 ∨ k = 6 ∨ k = 7) with rfl | rfl | rfl | rfl | rfl | rfl | rfl | rfl <;> exact absurd h2 (by decide)

end Go.Proofs.YtmekkbhblghbmaaGreatDoor

/- What the calls rightSize, Bytes and Take of package frame return. -/
namespace Go.Proofs.YtmekkbhblghbmaaGreatDoor
open Go.RowKit

set_option maxRecDepth 100000 in
set_option maxHeartbeats 400000 in
theorem size16_any (n : Nat) (a : Option Addr) (cap : Nat) (w : World) (hn : n ≤ 9223372036854775807) :
    Calls Tryz.prog 86 #[.slice a n cap] w fun e w' => e = .returned (.bool (decide (1 ≤ n) && decide (n ≤ 16))) ∧ w = w' := by
  by_cases h1 : 1 ≤ n
  · by_cases h2 : n ≤ 16
    all_goals
      have h1i : (1 : Int) ≤ (n : Int) := by omega
      go_enter Tryz.func86, Tryz.ntmps86
      go_wp2
      go_ret
      exact ⟨ret_bool (by rw [decide_eq_true h1, Bool.true_and, decide_eq_decide]; omega), rfl⟩
  · obtain rfl : n = 0 := by omega
    go_enter Tryz.func86, Tryz.ntmps86
    go_wp2
    go_ret
    exact ⟨ret_bool (by simp), rfl⟩

/-- What Bytes returns. -/
def fbV (l : List Rc) : Value := if good l = true then .tuple #[.string (bs (fbs l)), .int .i64 0] else .tuple #[.string ⟨#[]⟩, .int .i64 1]
theorem fbV_yes {l : List Rc} (h : good l = true) : fbV l = .tuple #[.string (bs (fbs l)), .int .i64 0] := by rw [fbV, if_pos h]
theorem fbV_no {l : List Rc} (h : ¬ good l = true) : fbV l = .tuple #[.string ⟨#[]⟩, .int .i64 1] := by rw [fbV, if_neg h]

set_option maxRecDepth 100000 in
set_option maxHeartbeats 400000 in
theorem fbytes_any (l : List Rc) (a : Option Addr) (cap : Nat) (w : World) (hl : l.length ≤ 9223372036854775807) (hr : Recs w a l) (hf : Fits l) :
    Calls Tryz.prog 53 #[.slice a l.length cap] w fun e w' => e = .returned (fbV l) ∧ Below w.heap.size w w' := by
  have hs := fun W => size16_any l.length a cap W hl
  cases hsz : fits16 l with
  | false =>
    rw [show (decide (1 ≤ l.length) && decide (l.length ≤ 16)) = false from hsz] at hs
    have HE := Lib.hid (fbV_no (l := l) (by simp [good, hsz]))
    have HS := Lib.hid hs
    clear hs hsz
    go_enter Tryz.func53, Tryz.ntmps53
    go_wp2_with fail
    (with_reducible refine (HS.out _).mono ?_)
    rintro e w1 ⟨rfl, rfl⟩
    go_wp2_with fail
    go_ret2
    exact ⟨HE.out.symm ▸ rfl, Below.refl _ _⟩
  | true =>
    rw [show (decide (1 ≤ l.length) && decide (l.length ≤ 16)) = true from hsz] at hs
    have h16 : l.length ≤ 16 := by simp [fits16] at hsz; exact hsz.2
    have h1 := fun W (hW : Below w.heap.size w W) => all_any l a cap W (by omega) (hr.later hW (Nat.le_refl _)) hf
    cases hg : rights l with
    | false =>
      rw [allV_no (by simp [hg])] at h1
      have HE := Lib.hid (fbV_no (l := l) (by simp [good, hg]))
      have HS := Lib.hid hs
      have H1 := Lib.hid h1
      clear hs hsz h1 hr hf hg
      go_enter Tryz.func53, Tryz.ntmps53
      go_wp2_with fail
      (with_reducible refine (HS.out _).mono ?_)
      rintro e w1 ⟨rfl, rfl⟩
      go_wp2_with fail
      (with_reducible refine (H1.out _ (Below.refl _ _)).mono ?_)
      rintro e w1 ⟨rfl, b1⟩
      go_wp2_with fail
      go_ret2
      exact ⟨HE.out.symm ▸ rfl, b1⟩
    | true =>
      rw [allV_yes hg] at h1
      have hgood : good l = true := by simp [good, hg, hsz]
      obtain ⟨z1, z2⟩ := good_len hgood
      have HE := Lib.hid (fbV_yes hgood)
      have h2 := fun W => seal_any (bs (encs l)) W (by rw [bs_size]; omega)
      have h3 := fun W => text_any (bs (seal4 (encs l))) W (by rw [bs_size, seal_len]; omega)
      rw [bs_list] at h2
      rw [bs_list, bs_size] at h3
      rw [show put (seal4 (encs l)).length ++ seal4 (encs l) = fbs l from rfl] at h3
      have HS := Lib.hid hs
      have H1 := Lib.hid h1
      have H2 := Lib.hid h2
      have H3 := Lib.hid h3
      clear hs hsz h1 h2 h3 hr hf hg hgood
      generalize bs (encs l) = X at *
      generalize bs (seal4 (encs l)) = Y at *
      generalize bs (fbs l) = Z at *
      go_enter Tryz.func53, Tryz.ntmps53
      go_wp2_with fail
      (with_reducible refine (HS.out _).mono ?_)
      rintro e w1 ⟨rfl, rfl⟩
      go_wp2_with fail
      (with_reducible refine (H1.out _ (Below.refl _ _)).mono ?_)
      rintro e w1 ⟨rfl, b1⟩
      go_wp2_with fail
      (with_reducible refine (H2.out _).mono ?_)
      rintro e w2 ⟨rfl, b2⟩
      go_wp2_with fail
      (with_reducible refine (H3.out _).mono ?_)
      rintro e w3 ⟨rfl, b3⟩
      go_wp2_with fail
      go_ret2
      have s1 := b1.size
      have s2 := b2.size
      exact ⟨HE.out.symm ▸ rfl, b1.trans ((b2.mono s1).trans (b3.mono (by omega)))⟩

end Go.Proofs.YtmekkbhblghbmaaGreatDoor

/- What the call Take of package frame returns. -/
namespace Go.Proofs.YtmekkbhblghbmaaGreatDoor
open Go.RowKit

/-- What Take leaves. -/
def FtPost (w : World) (x : List Rc × Nat × Nat) (e : Ending) (w' : World) : Prop :=
  ∃ a cap, e = .returned (.tuple #[.slice a x.1.length cap, .int .i64 ((x.2.1 : Nat) : Int), .int .i64 ((x.2.2 : Nat) : Int)]) ∧ RecsT w' a x.1 ∧ Below w.heap.size w w'

theorem FtPost.no {w w' : World} {x : List Rc × Nat × Nat} {n : Nat} (h : x = ([], 0, n)) (hb : Below w.heap.size w w') : FtPost w x (.returned (.tuple #[.slice none 0 0, .int .i64 0, .int .i64 (n : Int)])) w' := by
  subst h
  exact ⟨none, 0, rfl, ⟨fun h => by simp at h, Tag.none _⟩, hb⟩

theorem opens_of (s : List UInt8) (hs : s.length ≤ 9223372036854775807) (c : List UInt8) (ok : Bool) (h : opn s = (c, ok)) (w : World) :
    Calls Tryz.prog 113 #[.string (bs s)] w fun e w' => e = .returned (.tuple #[.string (bs c), .bool ok]) ∧ Below w.heap.size w w' := by
  have := open_any (bs s) w (by rw [bs_size]; exact hs)
  rw [bs_list, opnV, h] at this
  exact this

theorem opn_le {s c : List UInt8} {ok : Bool} (h : opn s = (c, ok)) : c.length ≤ s.length := by
  unfold opn at h
  split at h
  · cases h; simp
  · split at h
    · cases h; simp
    · cases h; simp

set_option maxRecDepth 100000 in
set_option maxHeartbeats 1000000 in
theorem ftake_any (b : List UInt8) (w : World) (hb : b.length ≤ 2000000) :
    Calls Tryz.prog 127 #[.string (bs b)] w (FtPost w (ft b)) := by
  obtain ⟨s, r, e, h⟩ : ∃ s r e, ot b = (s, r, e) := ⟨_, _, _, rfl⟩
  have H1 := Lib.hid (oftext_of b (by omega) s r e h)
  by_cases he : e = 0
  · subst he
    obtain ⟨hr1, hs1⟩ := ot_rest_le h
    obtain ⟨c, ok, h2⟩ : ∃ c ok, opn s = (c, ok) := ⟨_, _, rfl⟩
    have hc := opn_le h2
    have H2 := Lib.hid (opens_of s (by omega) c ok h2)
    cases ok with
    | false =>
      have HE := Lib.hid (ft_sum h h2)
      clear h h2
      generalize bs b = B at *
      generalize bs s = S at *
      generalize bs r = R at *
      generalize bs c = C at *
      go_enter Tryz.func127, Tryz.ntmps127
      go_wp2_with fail
      (with_reducible refine (H1.out _).mono ?_)
      rintro e w1 ⟨rfl, b1⟩
      go_wp2_with fail
      (with_reducible refine (H2.out _).mono ?_)
      rintro e w2 ⟨rfl, b2⟩
      go_wp2_with fail
      go_ret3
      exact FtPost.no HE.out (b1.trans (b2.mono b1.size))
    | true =>
      obtain ⟨l, e, h3⟩ : ∃ l e, rds c = (l, e) := ⟨_, _, rfl⟩
      have h3' := fun W => list_any c W (by omega)
      rw [h3] at h3'
      have H3 := Lib.hid h3'
      clear h3'
      by_cases he : e = 0
      · subst he
        have h4 := fun a cap W (hz : l.length ≤ 9223372036854775807) => size16_any l.length a cap W hz
        cases hl : fits16 l with
        | false =>
          rw [show (decide (1 ≤ l.length) && decide (l.length ≤ 16)) = false from hl] at h4
          have HE := Lib.hid (ft_many h h2 h3 hl)
          have hll : l.length ≤ 9223372036854775807 := by have := rds_len_le c; rw [h3] at this; simp at this; omega
          have H4 := Lib.hid h4
          clear h h2 h3 h4 hl
          generalize bs b = B at *
          generalize bs s = S at *
          generalize bs r = R at *
          generalize bs c = C at *
          go_enter Tryz.func127, Tryz.ntmps127
          go_wp2_with fail
          (with_reducible refine (H1.out _).mono ?_)
          rintro e w1 ⟨rfl, b1⟩
          go_wp2_with fail
          (with_reducible refine (H2.out _).mono ?_)
          rintro e w2 ⟨rfl, b2⟩
          go_wp2_with fail
          (with_reducible refine (H3.out _).mono ?_)
          rintro e w3 ⟨a, cap, rfl, r3, b3⟩
          go_wp2_with fail
          (with_reducible refine (H4.out _ _ _ hll).mono ?_)
          rintro e w4 ⟨rfl, rfl⟩
          go_wp2_with fail
          go_ret3
          have s1 := b1.size
          have s2 := b2.size
          exact FtPost.no HE.out (b1.trans ((b2.mono s1).trans (b3.mono (by omega))))
        | true =>
          rw [show (decide (1 ≤ l.length) && decide (l.length ≤ 16)) = true from hl] at h4
          have HE := Lib.hid (ft_yes h h2 h3 hl)
          have hll : l.length ≤ 9223372036854775807 := by simp [fits16] at hl; omega
          have H4 := Lib.hid h4
          have hB := bs_size b
          have hR := bs_size r
          have hBR : (bs r).size ≤ (bs b).size ∧ (bs b).size ≤ 2000000 := by omega
          have HN : Hid (((b.length - r.length : Nat) : Int) = (bs b).size - (bs r).size) := Lib.hid (by omega)
          clear h h2 h3 h4 hl hB hR
          generalize bs b = B at *
          generalize bs s = S at *
          generalize bs r = R at *
          generalize bs c = C at *
          obtain ⟨hBR1, hBR2⟩ := hBR
          go_enter Tryz.func127, Tryz.ntmps127
          go_wp2_with fail
          (with_reducible refine (H1.out _).mono ?_)
          rintro e w1 ⟨rfl, b1⟩
          go_wp2_with fail
          (with_reducible refine (H2.out _).mono ?_)
          rintro e w2 ⟨rfl, b2⟩
          go_wp2_with fail
          (with_reducible refine (H3.out _).mono ?_)
          rintro e w3 ⟨a, cap, rfl, r3, b3⟩
          go_wp2_with fail
          (with_reducible refine (H4.out _ _ _ hll).mono ?_)
          rintro e w4 ⟨rfl, rfl⟩
          go_wp2_with fail
          go_ret3
          have s1 := b1.size
          have s2 := b2.size
          rw [HE.out]
          exact ⟨a, cap, by simp only [HN.out]; rfl, r3, b1.trans ((b2.mono s1).trans (b3.mono (by omega)))⟩
      · have HE := Lib.hid (ft_form h h2 h3 he)
        have hb0 : ((e : Int) != 0) = true := by rw [bne_iff_ne]; omega
        clear h h2 h3
        generalize bs b = B at *
        generalize bs s = S at *
        generalize bs r = R at *
        generalize bs c = C at *
        go_enter Tryz.func127, Tryz.ntmps127
        go_wp2_with fail
        (with_reducible refine (H1.out _).mono ?_)
        rintro e w1 ⟨rfl, b1⟩
        go_wp2_with fail
        (with_reducible refine (H2.out _).mono ?_)
        rintro e w2 ⟨rfl, b2⟩
        go_wp2_with fail
        (with_reducible refine (H3.out _).mono ?_)
        rintro e w3 ⟨a, cap, rfl, r3, b3⟩
        go_wp2_with fail
        go_ret3
        have s1 := b1.size
        have s2 := b2.size
        exact FtPost.no HE.out (b1.trans ((b2.mono s1).trans (b3.mono (by omega))))
  · have HE := Lib.hid (ft_err h he)
    have hb0 : ((e : Int) != 0) = true := by rw [bne_iff_ne]; omega
    clear h
    generalize bs b = B at *
    generalize bs s = S at *
    generalize bs r = R at *
    go_enter Tryz.func127, Tryz.ntmps127
    go_wp2_with fail
    (with_reducible refine (H1.out _).mono ?_)
    rintro e w1 ⟨rfl, b1⟩
    go_wp2_with fail
    go_ret3
    exact FtPost.no HE.out b1

end Go.Proofs.YtmekkbhblghbmaaGreatDoor

/- What the call Scan of package frame returns. -/
namespace Go.Proofs.YtmekkbhblghbmaaGreatDoor
open Go.RowKit

/-- The slices of a list of batches: each has its batch's records. -/
def Rows2 (w : World) (vs : List Value) (ll : List (List Rc)) : Prop :=
  vs.length = ll.length ∧ ∀ i (h : i < ll.length), ∃ a cap, vs[i]? = some (.slice a ll[i].length cap) ∧ RecsT w a ll[i]

theorem Rows2.nil (w : World) : Rows2 w [] [] := ⟨rfl, fun i h => by simp at h⟩
theorem Rows2.later {w w' : World} {vs : List Value} {ll : List (List Rc)} (h : Rows2 w vs ll) {B : Nat} (hb : Below B w w') (hB : w.heap.size ≤ B) : Rows2 w' vs ll :=
  ⟨h.1, fun i hi => by obtain ⟨a, cap, h1, h2⟩ := h.2 i hi; exact ⟨a, cap, h1, h2.later hb hB⟩⟩
theorem Rows2.snoc {w : World} {vs : List Value} {ll : List (List Rc)} (h : Rows2 w vs ll) {a : Option Addr} {cap : Nat} {l : List Rc} (hl : RecsT w a l) : Rows2 w (vs ++ [.slice a l.length cap]) (ll ++ [l]) := by
  refine ⟨by simp [h.1], fun i hi => ?_⟩
  by_cases e : i < ll.length
  · obtain ⟨a', cap', h1, h2⟩ := h.2 i e
    refine ⟨a', cap', ?_, ?_⟩
    · rw [List.getElem?_append_left (by rw [h.1]; exact e), List.getElem_append_left e]; exact h1
    · rw [List.getElem_append_left e]; exact h2
  · have : i = ll.length := by simp at hi; omega
    subst this
    refine ⟨a, cap, ?_, ?_⟩
    · rw [List.getElem?_append_right (by rw [h.1]; exact Nat.le_refl _), h.1]; simp
    · simpa using hl

/-- A block of records stays where an own row of slices grows. -/
theorem RecsT.grown {w w' : World} {a : Option Addr} {l : List Rc} (h : RecsT w a l) {base n : Nat} {v : Value} {xs : List Value} (ho : w.ownsRow base 31 1 v n xs) (hg : w.grownBy w' v.ownBlock) : RecsT w' a l := by
  have key : ∀ ad, a = some ad → w'.heap[ad.block]? = w.heap[ad.block]? := fun ad e => by
    obtain ⟨cs, z, hh⟩ := h.2 ad e
    refine hg.block _ (h.2.lt e) ?_
    intro e2
    rcases ho.2 with ⟨rfl, _⟩ | ⟨g, cap, cur, rfl, _, hgg, _⟩
    · cases e2
    · simp [Value.ownBlock] at e2
      rw [e2, hgg] at hh
      injection hh with hh
      injection hh with _ hh
      exact absurd hh (by decide)
  refine ⟨fun h0 => ?_, fun ad e => ?_⟩
  · obtain ⟨b, off, e, hlt, hc⟩ := h.1 h0
    have hk := key _ e
    refine ⟨b, off, e, Nat.lt_of_lt_of_le hlt hg.size, fun i hi => ?_⟩
    obtain ⟨c0, c1, c2, c3⟩ := hc i hi
    have hk' : ∀ o, w'.cell? ⟨b, o, none⟩ = w.cell? ⟨b, o, none⟩ := fun o => World.cell?_of_block (a := ⟨b, o, none⟩) hk
    exact ⟨(hk' _).trans c0, (hk' _).trans c1, (hk' _).trans c2, (hk' _).trans c3⟩
  · obtain ⟨cs, z, hh⟩ := h.2 ad e
    exact ⟨cs, z, by rw [key ad e]; exact hh⟩

theorem Rows2.grown {w w' : World} {vs : List Value} {ll : List (List Rc)} (h : Rows2 w vs ll) {base n : Nat} {v : Value} {xs : List Value} (ho : w.ownsRow base 31 1 v n xs) (hg : w.grownBy w' v.ownBlock) : Rows2 w' vs ll :=
  ⟨h.1, fun i hi => by obtain ⟨a, cap, h1, h2⟩ := h.2 i hi; exact ⟨a, cap, h1, h2.grown ho hg⟩⟩

/-- A slice of batches in memory. -/
def Bats (w : World) (a : Option Addr) (ll : List (List Rc)) : Prop :=
  0 < ll.length → ∃ b off, a = some ⟨b, off, none⟩ ∧ b < w.heap.size ∧ ∀ i (h : i < ll.length), ∃ a' cap', w.cell? ⟨b, off + i, none⟩ = some (.slice a' ll[i].length cap') ∧ Recs w a' ll[i]

theorem Bats.later {w w' : World} {a : Option Addr} {ll : List (List Rc)} (h : Bats w a ll) {B : Nat} (hb : Below B w w') (hB : w.heap.size ≤ B) : Bats w' a ll := by
  intro h0
  obtain ⟨b, off, e, hlt, hc⟩ := h h0
  refine ⟨b, off, e, Nat.lt_of_lt_of_le hlt hb.size, fun i hi => ?_⟩
  obtain ⟨a', cap', c, hr⟩ := hc i hi
  exact ⟨a', cap', (hb.cell (p := ⟨b, _, none⟩) (by show b < B; omega)).trans c, hr.later hb hB⟩

theorem owns_bats {w : World} {base : Nat} {v : Value} {vs : List Value} {ll : List (List Rc)} (h : w.ownsRow base 31 1 v ll.length vs) (hr : Rows2 w vs ll) : ∃ a cap, v = .slice a ll.length cap ∧ Bats w a ll := by
  have hl := h.lt
  have hc := fun g hg => h.cells (g := g) hg
  rcases h.2 with ⟨rfl, h0⟩ | ⟨g, cap, cur, rfl, hbg, hg, rest⟩
  · exact ⟨none, 0, by rw [h0], fun h1 => by omega⟩
  · refine ⟨_, cap, rfl, fun _ => ⟨g, 0, rfl, (hl g rfl).2, fun i hi => ?_⟩⟩
    obtain ⟨a', cap', h1, h2⟩ := hr.2 i hi
    have := hc g rfl i _ h1
    rw [show (⟨g, 0, none⟩ : Addr).add i = ⟨g, 0 + i, none⟩ from by simp [Addr.add]; try omega] at this
    exact ⟨a', cap', this, h2.1⟩

/-- What Scan leaves. -/
def FsPost (w : World) (x : List (List Rc) × Nat) (e : Ending) (w' : World) : Prop :=
  ∃ a cap, e = .returned (.tuple #[.slice a x.1.length cap, .int .i64 ((x.2 : Nat) : Int)]) ∧ Bats w' a x.1 ∧ Below w.heap.size w w'

theorem infoSlice : (Tryz.prog.info? 31).map (fun i => (i.zero, i.size, i.bytes)) = some (some (.slice none 0 0), 1, 24) := by kernel_rfl

theorem ext_of (b : List UInt8) (k : Nat) : (bs b).extract k (bs b).size = bs (b.drop k) := by rw [ext_from, bs_list]

theorem cell_one_new (w : World) (c0 : Value) (t : TypeId) : ∀ j u, [c0][j]? = some u → (w.alloc (.cells #[c0] t)).cell? ((⟨w.heap.size, 0, none⟩ : Addr).add j) = some u := by
  intro j u hu
  rw [show (⟨w.heap.size, 0, none⟩ : Addr).add j = ⟨w.heap.size, j, none⟩ from by simp [Addr.add]; omega, World.cell?_alloc_mark]
  simpa using hu

set_option maxRecDepth 100000 in
set_option maxHeartbeats 1000000 in
theorem fscan_any (b : List UInt8) (w : World) (hb : b.length ≤ 2000000) :
    Calls Tryz.prog 90 #[.string (bs b)] w (FsPost w (fs b)) := by
  obtain ⟨i0, hi, hz0, hz1, hz2⟩ := info_parts infoSlice
  have HI := Lib.hid (And.intro hi (And.intro hz0 (And.intro hz1 hz2)))
  clear hi hz0 hz1 hz2
  have hB := bs_size b
  have HX := Lib.hid (fun k => ext_of b k)
  generalize bs b = B at *
  have HB := Lib.hid hB
  rw [← hB] at hb
  clear hB
  go_enter Tryz.func90, Tryz.ntmps90
  go_wp2_with fail
  go_step3
  go_wp2_with fail
  go_step3
  go_wp2_with fail
  go_loopw [4, 5] (fun v i wr => ∃ (acc : List (List Rc)) (n k : Nat) (vs : List Value), i = .int .i64 k ∧ k ≤ B.size ∧ B.size - k < n ∧ acc.length ≤ k ∧ fsF n (b.drop k) acc k = fs b ∧ wr.ownsRow w.heap.size 31 1 v acc.length vs ∧ Rows2 wr vs acc ∧ Below w.heap.size w wr) (fun _ i _ => B.size - (intOf i).toNat)
  case atStart => exact ⟨[], b.length + 1, 0, [], rfl, by omega, by have := HB.out; omega, by simp, rfl, World.ownsRow_nil _ _ _ _, Rows2.nil _, Below.refl _ _⟩
  case round =>
    obtain ⟨acc, n, k, vs, rfl, hk, hn, hak, hr, hown, hrows, hbw⟩ := hrel
    obtain ⟨m, rfl⟩ : ∃ m, n = m + 1 := ⟨n - 1, by omega⟩
    have HR := Lib.hid hr
    have HO := Lib.hid hown
    have HV := Lib.hid hrows
    clear hr hown hrows
    by_cases hlt : k < B.size
    · have hlti : (k : Int) < (B.size : Int) := by omega
      have h1 := fun W => ftake_any (b.drop k) W (by rw [List.length_drop, ← HB.out]; omega)
      rw [← HX.out] at h1
      rcases ft_cases (b.drop k) with ⟨e, he, he4, h⟩ | ⟨l, j, h, hl, hj, hjl⟩
      · rw [h] at h1
        have H1 := Lib.hid h1
        have HE : Hid (fs b = (acc, k)) := Lib.hid (by rw [← HR.out, fsF_end h he])
        have hb0 : ((e : Int) == 0) = false := by rw [beq_eq_false_iff_ne]; omega
        clear h1 h
        go_wp2_with fail
        (with_reducible refine (H1.out _).mono ?_)
        rintro e w1 ⟨a1, cap1, rfl, r1, b1⟩
        obtain ⟨a, cap, rfl, hrec⟩ := owns_bats HO.out HV.out
        have HC := Lib.hid hrec
        clear hrec r1
        go_wp2_with fail
        (try rw [Exit.noGoto_ret])
        go_ret2
        exact ⟨a, cap, by rw [HE.out]; rfl, by rw [HE.out]; exact HC.out.later b1 (Nat.le_refl _), hbw.trans (b1.mono hbw.size)⟩
      · rw [h] at h1
        have H1 := Lib.hid h1
        have HN : Hid (fsF m (b.drop (k + j)) (acc ++ [l]) (k + j) = fs b) := Lib.hid (by rw [← HR.out, fsF_next h, List.drop_drop])
        rw [List.length_drop, ← HB.out] at hjl
        clear h1 h
        go_wp2_with fail
        (with_reducible refine (H1.out _).mono ?_)
        rintro e w1 ⟨a1, cap1, rfl, r1, b1⟩
        have hbz := hbw.size
        have hb1z := b1.size
        have R1 := Lib.hid r1
        have O1 := Lib.hid (owns_later HO.out b1)
        have V1 := Lib.hid (HV.out.later b1 (Nat.le_refl _))
        have B1 := Lib.hid (hbw.trans (b1.mono hbz))
        clear b1 HO HV hbw r1
        go_wp2_with (at_builtin; refine wpList_append_own _ rfl _ _ 36 rfl w.heap.size 31 i0 (.slice none 0 0) 1 24 Tryz.underlying36 HI.out.1 HI.out.2.1 HI.out.2.2.1 HI.out.2.2.2 rfl (by decide) _ _ _ rfl (O1.out.alloc _) ⟨w1.heap.size, 0, none⟩ 1 1 [.slice a1 l.length cap1] rfl rfl ?c1 (fun x hx => by simp at hx; rcases hx with rfl; rfl) (by unfold maxLen; omega) (by omega) (by simp; omega) ?_)
        case c1 => exact cell_one_new w1 _ _
        intro v' w3 hown' hgrow _
        have G1 : Hid (Rows2 w3 (vs ++ [.slice a1 l.length cap1]) (acc ++ [l])) := by
          have ha := (Below.refl w1.heap.size w1).alloc (Nat.le_refl _) (.cells #[.slice a1 l.length cap1] 31)
          exact Lib.hid ((((V1.out.later ha (Nat.le_refl _)).snoc (R1.out.later ha (Nat.le_refl _)))).grown (O1.out.alloc _) hgrow)
        have B3 : Hid (Below w.heap.size w w3) := Lib.hid (Below.grown (B1.out.alloc (by omega) _) hgrow (by simp; omega) (fun j hj => (O1.out.lt _ hj).1))
        have O3 := Lib.hid hown'
        clear hown' hgrow
        go_wp2_with fail
        go_roundw
        case rel => exact ⟨acc ++ [l], m, k + j, _, by go_num, by omega, by omega, by simp; omega, HN.out, by rw [List.length_append]; exact O3.out, G1.out, B3.out⟩
        case measure => simp [intOf]; omega
    · obtain rfl : k = B.size := by omega
      have HE : Hid (fs b = (acc, B.size)) := Lib.hid (by rw [← HR.out, List.drop_of_length_le (by rw [HB.out]; omega), fsF_nil])
      obtain ⟨a, cap, rfl, hrec⟩ := owns_bats HO.out HV.out
      have HC := Lib.hid hrec
      clear hrec
      go_wp2_with fail
      (try rw [Exit.noGoto_ret])
      go_ret2
      exact ⟨a, cap, by rw [HE.out]; rfl, by rw [HE.out]; exact HC.out, hbw⟩

end Go.Proofs.YtmekkbhblghbmaaGreatDoor

/- What the document's own Bytes, Take and Scan of layer 4 return. -/
namespace Go.Proofs.YtmekkbhblghbmaaGreatDoor
open Go.RowKit

set_option maxRecDepth 100000 in
set_option maxHeartbeats 400000 in
theorem reffbytes_any (l : List Rc) (a : Option Addr) (cap : Nat) (w : World) (hl : l.length ≤ 9223372036854775807) (hr : Recs w a l) (hf : Fits l) :
    Calls Tryz.prog 56 #[.slice a l.length cap] w fun e w' => e = .returned (fbV l) ∧ Below w.heap.size w w' := by
  by_cases h0 : l.length < 1
  · have HE := Lib.hid (fbV_no (l := l) (by simp [good, fits16]; omega))
    have h0i : (l.length : Int) < 1 := by omega
    clear h0
    go_enter Tryz.func56, Tryz.ntmps56
    go_wp2_with fail
    go_ret2
    exact ⟨HE.out.symm ▸ rfl, Below.refl _ _⟩
  by_cases h16 : 16 < l.length
  · have HE := Lib.hid (fbV_no (l := l) (by simp [good, fits16]; omega))
    have h0i : ¬ (l.length : Int) < 1 := by omega
    have h16i : (16 : Int) < (l.length : Int) := by omega
    go_enter Tryz.func56, Tryz.ntmps56
    go_wp2_with fail
    go_ret2
    exact ⟨HE.out.symm ▸ rfl, Below.refl _ _⟩
  have h0i : ¬ (l.length : Int) < 1 := by omega
  have h16i : ¬ (16 : Int) < (l.length : Int) := by omega
  have h1 := fun W (hW : Below w.heap.size w W) => refall_any l a cap W (by omega) (hr.later hW (Nat.le_refl _)) hf
  cases hg : rights l with
  | false =>
    rw [allV_no (by simp [hg])] at h1
    have HE := Lib.hid (fbV_no (l := l) (by simp [good, hg]))
    have H1 := Lib.hid h1
    clear h1 hr hf hg
    go_enter Tryz.func56, Tryz.ntmps56
    go_wp2_with fail
    (with_reducible refine (H1.out _ (Below.refl _ _)).mono ?_)
    rintro e w1 ⟨rfl, b1⟩
    go_wp2_with fail
    go_ret2
    exact ⟨HE.out.symm ▸ rfl, b1⟩
  | true =>
    rw [allV_yes hg] at h1
    have hgood : good l = true := by simp [good, hg, fits16]; omega
    obtain ⟨z1, z2⟩ := good_len hgood
    have HE := Lib.hid (fbV_yes hgood)
    have h2 := fun W => refseal_any (bs (encs l)) W (by rw [bs_size]; omega)
    have h3 := fun W => reftext_of (seal4 (encs l)) W (by rw [seal_len]; omega)
    rw [bs_list] at h2
    rw [← fbs] at h3
    have H1 := Lib.hid h1
    have H2 := Lib.hid h2
    have H3 := Lib.hid h3
    clear h1 h2 h3 hr hf hg hgood
    generalize bs (encs l) = X at *
    generalize bs (seal4 (encs l)) = Y at *
    generalize bs (fbs l) = Z at *
    go_enter Tryz.func56, Tryz.ntmps56
    go_wp2_with fail
    (with_reducible refine (H1.out _ (Below.refl _ _)).mono ?_)
    rintro e w1 ⟨rfl, b1⟩
    go_wp2_with fail
    (with_reducible refine (H2.out _).mono ?_)
    rintro e w2 ⟨rfl, b2⟩
    go_wp2_with fail
    (with_reducible refine (H3.out _).mono ?_)
    rintro e w3 ⟨rfl, b3⟩
    go_wp2_with fail
    go_ret2
    have s1 := b1.size
    have s2 := b2.size
    exact ⟨HE.out.symm ▸ rfl, b1.trans ((b2.mono s1).trans (b3.mono (by omega)))⟩

theorem refopens_of (s : List UInt8) (hs : s.length ≤ 281474976710656) (c : List UInt8) (ok : Bool) (h : opn s = (c, ok)) (w : World) :
    Calls Tryz.prog 104 #[.string (bs s)] w fun e w' => e = .returned (.tuple #[.string (bs c), .bool ok]) ∧ Below w.heap.size w w' := by
  have := refopen_any (bs s) w (by rw [bs_size]; exact hs)
  rw [bs_list, opnV, h] at this
  exact this

set_option maxRecDepth 100000 in
set_option maxHeartbeats 1000000 in
theorem refftake_any (b : List UInt8) (w : World) (hb : b.length ≤ 2000000) :
    Calls Tryz.prog 130 #[.string (bs b)] w (FtPost w (ft b)) := by
  obtain ⟨s, r, e, h⟩ : ∃ s r e, ot b = (s, r, e) := ⟨_, _, _, rfl⟩
  have H1 := Lib.hid (refoftext_of b (by omega) s r e h)
  by_cases he : e = 0
  · subst he
    obtain ⟨hr1, hs1⟩ := ot_rest_le h
    obtain ⟨c, ok, h2⟩ : ∃ c ok, opn s = (c, ok) := ⟨_, _, rfl⟩
    have hc := opn_le h2
    have H2 := Lib.hid (refopens_of s (by omega) c ok h2)
    cases ok with
    | false =>
      have HE := Lib.hid (ft_sum h h2)
      clear h h2
      generalize bs b = B at *
      generalize bs s = S at *
      generalize bs r = R at *
      generalize bs c = C at *
      go_enter Tryz.func130, Tryz.ntmps130
      go_wp2_with fail
      (with_reducible refine (H1.out _).mono ?_)
      rintro e w1 ⟨rfl, b1⟩
      go_wp2_with fail
      (with_reducible refine (H2.out _).mono ?_)
      rintro e w2 ⟨rfl, b2⟩
      go_wp2_with fail
      go_ret3
      exact FtPost.no HE.out (b1.trans (b2.mono b1.size))
    | true =>
      obtain ⟨l, e, h3⟩ : ∃ l e, rds c = (l, e) := ⟨_, _, rfl⟩
      have h3' := fun W => reflist_any c W (by omega)
      rw [h3] at h3'
      have H3 := Lib.hid h3'
      clear h3'
      by_cases he : e = 0
      · subst he
        have hll : l.length ≤ 2000000 := by have := rds_len_le c; rw [h3] at this; simp at this; omega
        cases hl : fits16 l with
        | false =>
          have HE := Lib.hid (ft_many h h2 h3 hl)
          have hl2 : l.length < 1 ∨ 16 < l.length := by simp [fits16] at hl; omega
          clear h h2 h3 hl
          generalize bs b = B at *
          generalize bs s = S at *
          generalize bs r = R at *
          generalize bs c = C at *
          rcases hl2 with hl2 | hl2
          · have hl2i : (l.length : Int) < 1 := by omega
            clear hl2
            go_enter Tryz.func130, Tryz.ntmps130
            go_wp2_with fail
            (with_reducible refine (H1.out _).mono ?_)
            rintro e w1 ⟨rfl, b1⟩
            go_wp2_with fail
            (with_reducible refine (H2.out _).mono ?_)
            rintro e w2 ⟨rfl, b2⟩
            go_wp2_with fail
            (with_reducible refine (H3.out _).mono ?_)
            rintro e w3 ⟨a, cap, rfl, r3, b3⟩
            go_wp2_with fail
            go_ret3
            have s1 := b1.size
            have s2 := b2.size
            exact FtPost.no HE.out (b1.trans ((b2.mono s1).trans (b3.mono (by omega))))
          · have hl2i : (16 : Int) < (l.length : Int) := by omega
            have hl3i : ¬ (l.length : Int) < 1 := by omega
            go_enter Tryz.func130, Tryz.ntmps130
            go_wp2_with fail
            (with_reducible refine (H1.out _).mono ?_)
            rintro e w1 ⟨rfl, b1⟩
            go_wp2_with fail
            (with_reducible refine (H2.out _).mono ?_)
            rintro e w2 ⟨rfl, b2⟩
            go_wp2_with fail
            (with_reducible refine (H3.out _).mono ?_)
            rintro e w3 ⟨a, cap, rfl, r3, b3⟩
            go_wp2_with fail
            go_ret3
            have s1 := b1.size
            have s2 := b2.size
            exact FtPost.no HE.out (b1.trans ((b2.mono s1).trans (b3.mono (by omega))))
        | true =>
          have HE := Lib.hid (ft_yes h h2 h3 hl)
          have hl2 : 1 ≤ l.length ∧ l.length ≤ 16 := by simpa [fits16] using hl
          have hl2i : ¬ (l.length : Int) < 1 := by omega
          have hl3i : ¬ (16 : Int) < (l.length : Int) := by omega
          have hB := bs_size b
          have hR := bs_size r
          have hBR : (bs r).size ≤ (bs b).size ∧ (bs b).size ≤ 2000000 := by omega
          have HN : Hid (((b.length - r.length : Nat) : Int) = (bs b).size - (bs r).size) := Lib.hid (by omega)
          clear h h2 h3 hl hB hR hl2
          generalize bs b = B at *
          generalize bs s = S at *
          generalize bs r = R at *
          generalize bs c = C at *
          obtain ⟨hBR1, hBR2⟩ := hBR
          go_enter Tryz.func130, Tryz.ntmps130
          go_wp2_with fail
          (with_reducible refine (H1.out _).mono ?_)
          rintro e w1 ⟨rfl, b1⟩
          go_wp2_with fail
          (with_reducible refine (H2.out _).mono ?_)
          rintro e w2 ⟨rfl, b2⟩
          go_wp2_with fail
          (with_reducible refine (H3.out _).mono ?_)
          rintro e w3 ⟨a, cap, rfl, r3, b3⟩
          go_wp2_with fail
          go_ret3
          have s1 := b1.size
          have s2 := b2.size
          rw [HE.out]
          exact ⟨a, cap, by simp only [HN.out]; rfl, r3, b1.trans ((b2.mono s1).trans (b3.mono (by omega)))⟩
      · have HE := Lib.hid (ft_form h h2 h3 he)
        have hb0 : ((e : Int) != 0) = true := by rw [bne_iff_ne]; omega
        clear h h2 h3
        generalize bs b = B at *
        generalize bs s = S at *
        generalize bs r = R at *
        generalize bs c = C at *
        go_enter Tryz.func130, Tryz.ntmps130
        go_wp2_with fail
        (with_reducible refine (H1.out _).mono ?_)
        rintro e w1 ⟨rfl, b1⟩
        go_wp2_with fail
        (with_reducible refine (H2.out _).mono ?_)
        rintro e w2 ⟨rfl, b2⟩
        go_wp2_with fail
        (with_reducible refine (H3.out _).mono ?_)
        rintro e w3 ⟨a, cap, rfl, r3, b3⟩
        go_wp2_with fail
        go_ret3
        have s1 := b1.size
        have s2 := b2.size
        exact FtPost.no HE.out (b1.trans ((b2.mono s1).trans (b3.mono (by omega))))
  · have HE := Lib.hid (ft_err h he)
    have hb0 : ((e : Int) != 0) = true := by rw [bne_iff_ne]; omega
    clear h
    generalize bs b = B at *
    generalize bs s = S at *
    generalize bs r = R at *
    go_enter Tryz.func130, Tryz.ntmps130
    go_wp2_with fail
    (with_reducible refine (H1.out _).mono ?_)
    rintro e w1 ⟨rfl, b1⟩
    go_wp2_with fail
    go_ret3
    exact FtPost.no HE.out b1

set_option maxRecDepth 100000 in
set_option maxHeartbeats 1000000 in
theorem reffscan_any (b : List UInt8) (w : World) (hb : b.length ≤ 2000000) :
    Calls Tryz.prog 98 #[.string (bs b)] w (FsPost w (fs b)) := by
  obtain ⟨i0, hi, hz0, hz1, hz2⟩ := info_parts infoSlice
  have HI := Lib.hid (And.intro hi (And.intro hz0 (And.intro hz1 hz2)))
  clear hi hz0 hz1 hz2
  have hB := bs_size b
  have HX := Lib.hid (fun k => ext_of b k)
  generalize bs b = B at *
  have HB := Lib.hid hB
  rw [← hB] at hb
  clear hB
  go_enter Tryz.func98, Tryz.ntmps98
  go_wp2_with fail
  go_loopw [4, 5] (fun v i wr => ∃ (acc : List (List Rc)) (n k : Nat) (vs : List Value), i = .int .i64 k ∧ k ≤ B.size ∧ B.size - k < n ∧ acc.length ≤ k ∧ fsF n (b.drop k) acc k = fs b ∧ wr.ownsRow w.heap.size 31 1 v acc.length vs ∧ Rows2 wr vs acc ∧ Below w.heap.size w wr) (fun _ i _ => B.size - (intOf i).toNat)
  case atStart => exact ⟨[], b.length + 1, 0, [], rfl, by omega, by have := HB.out; omega, by simp, rfl, World.ownsRow_nil _ _ _ _, Rows2.nil _, Below.refl _ _⟩
  case round =>
    obtain ⟨acc, n, k, vs, rfl, hk, hn, hak, hr, hown, hrows, hbw⟩ := hrel
    obtain ⟨m, rfl⟩ : ∃ m, n = m + 1 := ⟨n - 1, by omega⟩
    have HR := Lib.hid hr
    have HO := Lib.hid hown
    have HV := Lib.hid hrows
    clear hr hown hrows
    have hki : (k : Int) ≤ (B.size : Int) := by omega
    have h1 := fun W => refftake_any (b.drop k) W (by rw [List.length_drop, ← HB.out]; omega)
    rw [← HX.out] at h1
    rcases ft_cases (b.drop k) with ⟨e, he, he4, h⟩ | ⟨l, j, h, hl, hj, hjl⟩
    · rw [h] at h1
      have H1 := Lib.hid h1
      have HE : Hid (fs b = (acc, k)) := Lib.hid (by rw [← HR.out, fsF_end h he])
      have hb0 : ((e : Int) != 0) = true := by rw [bne_iff_ne]; omega
      clear h1 h
      go_wp2_with fail
      (with_reducible refine (H1.out _).mono ?_)
      rintro e w1 ⟨a1, cap1, rfl, r1, b1⟩
      obtain ⟨a, cap, rfl, hrec⟩ := owns_bats HO.out HV.out
      have HC := Lib.hid hrec
      clear hrec r1
      go_wp2_with fail
      go_ret2
      exact ⟨a, cap, by rw [HE.out]; rfl, by rw [HE.out]; exact HC.out.later b1 (Nat.le_refl _), hbw.trans (b1.mono hbw.size)⟩
    · rw [h] at h1
      have H1 := Lib.hid h1
      have HN : Hid (fsF m (b.drop (k + j)) (acc ++ [l]) (k + j) = fs b) := Lib.hid (by rw [← HR.out, fsF_next h, List.drop_drop])
      rw [List.length_drop, ← HB.out] at hjl
      clear h1 h
      go_wp2_with fail
      (with_reducible refine (H1.out _).mono ?_)
      rintro e w1 ⟨a1, cap1, rfl, r1, b1⟩
      have hbz := hbw.size
      have hb1z := b1.size
      have R1 := Lib.hid r1
      have O1 := Lib.hid (owns_later HO.out b1)
      have V1 := Lib.hid (HV.out.later b1 (Nat.le_refl _))
      have B1 := Lib.hid (hbw.trans (b1.mono hbz))
      clear b1 HO HV hbw r1
      go_wp2_with (at_builtin; refine wpList_append_own _ rfl _ _ 36 rfl w.heap.size 31 i0 (.slice none 0 0) 1 24 Tryz.underlying36 HI.out.1 HI.out.2.1 HI.out.2.2.1 HI.out.2.2.2 rfl (by decide) _ _ _ rfl (O1.out.alloc _) ⟨w1.heap.size, 0, none⟩ 1 1 [.slice a1 l.length cap1] rfl rfl ?c1 (fun x hx => by simp at hx; rcases hx with rfl; rfl) (by unfold maxLen; omega) (by omega) (by simp; omega) ?_)
      case c1 => exact cell_one_new w1 _ _
      intro v' w3 hown' hgrow _
      have G1 : Hid (Rows2 w3 (vs ++ [.slice a1 l.length cap1]) (acc ++ [l])) := by
        have ha := (Below.refl w1.heap.size w1).alloc (Nat.le_refl _) (.cells #[.slice a1 l.length cap1] 31)
        exact Lib.hid ((((V1.out.later ha (Nat.le_refl _)).snoc (R1.out.later ha (Nat.le_refl _)))).grown (O1.out.alloc _) hgrow)
      have B3 : Hid (Below w.heap.size w w3) := Lib.hid (Below.grown (B1.out.alloc (by omega) _) hgrow (by simp; omega) (fun j hj => (O1.out.lt _ hj).1))
      have O3 := Lib.hid hown'
      clear hown' hgrow
      go_wp2_with fail
      go_roundw
      case rel => exact ⟨acc ++ [l], m, k + j, _, by go_num, by omega, by omega, by simp; omega, HN.out, by rw [List.length_append]; exact O3.out, G1.out, B3.out⟩
      case measure => simp [intOf]; omega

end Go.Proofs.YtmekkbhblghbmaaGreatDoor

/- What the document's small test on lists of batches returns: Light. -/
namespace Go.Proofs.YtmekkbhblghbmaaGreatDoor
open Go.RowKit

theorem bat_of {w : World} {a : Option Addr} {ll : List (List Rc)} (h : Bats w a ll) (k : Nat) (hk : k < ll.length) : ∃ b off a' cap', a = some ⟨b, off, none⟩ ∧ b < w.heap.size ∧ w.cell? ⟨b, off + k, none⟩ = some (.slice a' ll[k].length cap') ∧ Recs w a' ll[k] := by
  obtain ⟨b, off, ha, hb, hc⟩ := h (by omega)
  obtain ⟨a', cap', c, hr⟩ := hc k hk
  exact ⟨b, off, a', cap', ha, hb, c, hr⟩

/-- No record of any batch is greater than a machine's, and no batch. -/
def Fits2 (ll : List (List Rc)) : Prop := ∀ l ∈ ll, Fits l ∧ l.length ≤ 9223372036854775807

/-- What Light leaves. -/
def Light2Post (w : World) (ll : List (List Rc)) (e : Ending) (w' : World) : Prop := ∃ b : Bool, e = .returned (.bool b) ∧ (b = true → ll.length ≤ 20 ∧ ∀ l ∈ ll, l.length ≤ 40) ∧ Below w.heap.size w w'

theorem all_next {ll : List (List Rc)} {k : Nat} (h : ∀ i (hi : i < ll.length), i < k → ll[i].length ≤ 40) (hk : k < ll.length) (h2 : ll[k].length ≤ 40) : ∀ i (hi : i < ll.length), i < k + 1 → ll[i].length ≤ 40 := fun i hi hik => by
  by_cases e : i = k
  · subst e; exact h2
  · exact h i hi (by omega)

set_option maxRecDepth 100000 in
set_option maxHeartbeats 400000 in
theorem light2_any (ll : List (List Rc)) (a : Option Addr) (cap : Nat) (w : World) (hl : ll.length ≤ 9223372036854775807) (hr : Bats w a ll) (hf : Fits2 ll) :
    Calls Tryz.prog 10 #[.slice a ll.length cap] w (Light2Post w ll) := by
  have HR := Lib.hid hr
  have HF := Lib.hid hf
  clear hr hf
  obtain ⟨n, hn⟩ : ∃ n, n = ll.length := ⟨_, rfl⟩
  have HN := Lib.hid hn
  rw [← hn] at hl ⊢
  clear hn
  go_enter Tryz.func10, Tryz.ntmps10
  go_wp2_with fail
  go_loopw [3, 4] (fun s i wr => ∃ k x : Nat, k ≤ n ∧ k ≤ 30 ∧ x ≤ 40 * k ∧ i = .int .i64 k ∧ s = .int .i64 x ∧ (∀ i (hi : i < ll.length), i < k → ll[i].length ≤ 40) ∧ Below w.heap.size w wr) (fun _ i _ => 30 - (intOf i).toNat)
  case atStart => exact ⟨0, 0, by omega, by omega, by omega, rfl, rfl, fun i _ h => by omega, Below.refl _ _⟩
  case round =>
    obtain ⟨k, x, hk, hk1, hx, rfl, rfl, hall, hbw⟩ := hrel
    have HL := Lib.hid hall
    clear hall
    by_cases hlt : k < n
    · by_cases h30 : k < 30
      · obtain ⟨g1, off1, a1, cap1, rfl, hbl1, c1, r1⟩ := bat_of HR.out k (by rw [← HN.out]; exact hlt)
        obtain ⟨hf1, hll⟩ := HF.out _ (List.getElem_mem (by rw [← HN.out]; exact hlt : k < ll.length))
        rw [← hbw.cell (p := ⟨g1, _, none⟩) hbl1] at c1
        have h1 := fun W (hW : Below w.heap.size w W) => light_any _ a1 cap1 W hll (r1.later hW (Nat.le_refl _)) hf1
        have H1 := Lib.hid h1
        have HW := Lib.hid hbw
        have hbz := hbw.size
        have HA := Lib.hid (all_next HL.out (by rw [← HN.out]; exact hlt))
        clear h1 r1 hf1
        generalize ll[k]'(by rw [← HN.out]; exact hlt) = r at *
        have hlti : (k : Int) < (n : Int) := by omega
        go_wp2_with fail
        (with_reducible refine (H1.out _ HW.out).mono ?_)
        rintro e w1 ⟨ok, rfl, h40, b1⟩
        have c2 := (b1.cell (p := ⟨g1, off1 + k, none⟩) (by show g1 < wr.heap.size; omega)).trans c1
        have B1 := Lib.hid (HW.out.trans (b1.mono hbz))
        clear c1 b1 hbw HW
        cases ok with
        | false =>
          clear h40
          go_wp2_with fail
          go_ret
          exact ⟨false, rfl, fun h => by simp at h, B1.out⟩
        | true =>
          have hq : r.length ≤ 40 := h40 rfl
          clear h40
          have hwr := IntWalk.i64_in ((x : Int) + (r.length : Int)) ⟨by omega, by omega⟩
          go_wp2_with fail
          exact ⟨⟨k + 1, x + r.length, by omega, by omega, by omega, by go_num, by go_num, HA.out hq, B1.out⟩, by simp [intOf]; omega⟩
      · have e30 : k = 30 := by omega
        subst e30
        go_wp2_with fail
        go_ret
        exact ⟨_, rfl, fun h => by first | (simp at h; done) | (simp at h; omega), hbw⟩
    · have e : k = n := by omega
      subst e
      have HQ : Hid (k ≤ 20 → ll.length ≤ 20 ∧ ∀ l ∈ ll, l.length ≤ 40) := Lib.hid fun h => ⟨by rw [← HN.out]; exact h, fun l hl => by
        obtain ⟨i, hi, rfl⟩ := List.mem_iff_getElem.1 hl
        exact HL.out i hi (by rw [HN.out]; exact hi)⟩
      by_cases c20 : k ≤ 20
      · by_cases c60 : x ≤ 60
        all_goals
          go_wp2_with fail
          go_ret
          exact ⟨_, rfl, fun _ => HQ.out c20, hbw⟩
      · go_wp2_with fail
        go_ret
        exact ⟨_, rfl, fun h => by first | (simp at h; done) | (simp at h; omega), hbw⟩

end Go.Proofs.YtmekkbhblghbmaaGreatDoor
