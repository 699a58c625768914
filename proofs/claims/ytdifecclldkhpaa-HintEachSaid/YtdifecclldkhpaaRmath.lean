/- Plain facts on records as rows of bytes: what a record's bytes are, what a row of bytes begins with, that they undo one another, and that a beginning is too short. Nothing of the program is used here. -/
import Derived.Test.YtdifecclldkhpaaVmath
namespace Go.Proofs.Ytdifecclldkhpaa

/-- A record: number, key, value, is it gone? -/
structure Rc where
  q : Nat
  k : List UInt8
  v : List UInt8
  g : Bool

theorem Rc.ext' {a b : Rc} (h1 : a.q = b.q) (h2 : a.k = b.k) (h3 : a.v = b.v) (h4 : a.g = b.g) : a = b := by
  cases a; cases b; simp_all

def Rc.z : Rc := ⟨0, [], [], false⟩

/-- May a record be? -/
def right (r : Rc) : Bool := decide (1 ≤ r.q) && decide (r.q ≤ 1099511627776) && decide (1 ≤ r.k.length) && decide (r.k.length ≤ 40) && decide (r.v.length ≤ 300) && (!r.g || r.v.isEmpty)

theorem right_iff (r : Rc) : right r = true ↔ 1 ≤ r.q ∧ r.q ≤ 1099511627776 ∧ 1 ≤ r.k.length ∧ r.k.length ≤ 40 ∧ r.v.length ≤ 300 ∧ (r.g = true → r.v = []) := by
  unfold right
  cases r.g <;> simp [and_assoc]

/-- A text with its length ahead. -/
def txt (s : List UInt8) : List UInt8 := put s.length ++ s

/-- A record's bytes. -/
def enc (r : Rc) : List UInt8 := if r.g then put (2 * r.q + 1) ++ txt r.k else put (2 * r.q) ++ txt r.k ++ txt r.v

theorem enc_gone {r : Rc} (h : r.g = true) : enc r = put (2 * r.q + 1) ++ txt r.k := by rw [enc, if_pos h]
theorem enc_here {r : Rc} (h : r.g = false) : enc r = put (2 * r.q) ++ txt r.k ++ txt r.v := by rw [enc, if_neg (by simp [h])]

/-- What a row of bytes begins with, whether it may be or not. -/
def pt (l : List UInt8) : Rc × List UInt8 × Nat :=
  if (tk l).2.2 ≠ 0 then (Rc.z, [], (tk l).2.2)
  else if (ot (tk l).2.1).2.2 ≠ 0 then (Rc.z, [], (ot (tk l).2.1).2.2)
  else if (tk l).1 % 2 = 1 then (⟨(tk l).1 / 2, (ot (tk l).2.1).1, [], true⟩, (ot (tk l).2.1).2.1, 0)
  else (⟨(tk l).1 / 2, (ot (tk l).2.1).1, (ot (ot (tk l).2.1).2.1).1, false⟩, (ot (ot (tk l).2.1).2.1).2.1, (ot (ot (tk l).2.1).2.1).2.2)

theorem pt_num {l : List UInt8} {n : Nat} {r : List UInt8} {e : Nat} (h : tk l = (n, r, e)) (he : e ≠ 0) : pt l = (Rc.z, [], e) := by
  rw [pt, h, if_pos he]
theorem pt_key {l : List UInt8} {n : Nat} {r k s : List UInt8} {e : Nat} (h : tk l = (n, r, 0)) (h2 : ot r = (k, s, e)) (he : e ≠ 0) : pt l = (Rc.z, [], e) := by
  rw [pt, h, if_neg (by simp)]
  simp only [h2]
  rw [if_pos he]
theorem pt_gone {l : List UInt8} {n : Nat} {r k s : List UInt8} (h : tk l = (n, r, 0)) (h2 : ot r = (k, s, 0)) (hn : n % 2 = 1) : pt l = (⟨n / 2, k, [], true⟩, s, 0) := by
  rw [pt, h, if_neg (by simp)]
  simp only [h2]
  rw [if_neg (by simp), if_pos hn]
theorem pt_here {l : List UInt8} {n : Nat} {r k s v u : List UInt8} {e : Nat} (h : tk l = (n, r, 0)) (h2 : ot r = (k, s, 0)) (hn : ¬ n % 2 = 1) (h3 : ot s = (v, u, e)) : pt l = (⟨n / 2, k, v, false⟩, u, e) := by
  rw [pt, h, if_neg (by simp)]
  simp only [h2]
  rw [if_neg (by simp), if_neg hn]
  simp only [h3]

/-- The record that a row of bytes begins with. -/
def rd (l : List UInt8) : Rc × List UInt8 × Nat :=
  if (pt l).2.2 ≠ 0 then (Rc.z, [], (pt l).2.2)
  else if right (pt l).1 = true then ((pt l).1, (pt l).2.1, 0) else (Rc.z, [], 2)

theorem rd_err {l : List UInt8} {r : Rc} {s : List UInt8} {e : Nat} (h : pt l = (r, s, e)) (he : e ≠ 0) : rd l = (Rc.z, [], e) := by
  rw [rd, h, if_pos he]
theorem rd_no {l : List UInt8} {r : Rc} {s : List UInt8} (h : pt l = (r, s, 0)) (hr : right r = false) : rd l = (Rc.z, [], 2) := by
  rw [rd, h, if_neg (by simp), if_neg (by simp [hr])]
theorem rd_yes {l : List UInt8} {r : Rc} {s : List UInt8} (h : pt l = (r, s, 0)) (hr : right r = true) : rd l = (r, s, 0) := by
  rw [rd, h, if_neg (by simp), if_pos hr]

/-- What a text with its length ahead is, where it is taken. -/
theorem ot_ok {l s r : List UInt8} (h : ot l = (s, r, 0)) : l = txt s ++ r ∧ s.length < M64 := by
  rcases tk_cases l with ⟨e, _⟩ | e | ⟨n, q, e, hn, hl⟩
  · rw [ot_err e (by omega)] at h; simp at h
  · rw [ot_err e (by omega)] at h; simp at h
  · by_cases hs : q.length < n
    · rw [ot_short e hs] at h; simp at h
    · rw [ot_yes e hs] at h
      simp only [Prod.mk.injEq, and_true] at h
      obtain ⟨rfl, rfl⟩ := h
      have hlen : (q.take n).length = n := by simp; omega
      refine ⟨?_, by omega⟩
      rw [txt, hlen, List.append_assoc, List.take_append_drop]
      exact hl

theorem ot_txt {s r : List UInt8} (h : s.length < M64) : ot (txt s ++ r) = (s, r, 0) := ot_text h

theorem lt64 {n : Nat} (h : n ≤ 9223372036854775807) : n < M64 := by unfold M64; omega

/-- What was laid is read, with whatever behind it. -/
theorem rd_enc {r : Rc} (h : right r = true) (s : List UInt8) : rd (enc r ++ s) = (r, s, 0) := by
  refine rd_yes ?_ h
  obtain ⟨h1, h2, h3, h4, h5, h6⟩ := (right_iff r).1 h
  cases hg : r.g with
  | true =>
    rw [enc_gone hg, List.append_assoc]
    rw [pt_gone (tk_put (lt64 (by omega)) _) (ot_txt (lt64 (by omega))) (by omega)]
    have hv := h6 hg
    refine Prod.ext ?_ rfl
    refine Rc.ext' ?_ rfl hv.symm hg.symm
    show (2 * r.q + 1) / 2 = r.q
    omega
  | false =>
    rw [enc_here hg, List.append_assoc, List.append_assoc]
    rw [pt_here (tk_put (lt64 (by omega)) _) (ot_txt (lt64 (by omega))) (by omega) (ot_txt (lt64 (by omega)))]
    refine Prod.ext ?_ rfl
    refine Rc.ext' ?_ rfl rfl hg.symm
    show 2 * r.q / 2 = r.q
    omega

/-- What is read has just these bytes, and may be. -/
theorem rd_ok {l : List UInt8} {r : Rc} {s : List UInt8} (h : rd l = (r, s, 0)) : right r = true ∧ l = enc r ++ s := by
  obtain ⟨r', s', e', hp⟩ : ∃ r s e, pt l = (r, s, e) := ⟨_, _, _, rfl⟩
  by_cases he : e' = 0
  · subst he
    cases hr : right r' with
    | false => rw [rd_no hp hr] at h; simp at h
    | true =>
      rw [rd_yes hp hr] at h
      simp only [Prod.mk.injEq, and_true] at h
      obtain ⟨rfl, rfl⟩ := h
      refine ⟨hr, ?_⟩
      rcases tk_cases l with ⟨e, _⟩ | e | ⟨n, q, e, hn, hl⟩
      · rw [pt_num e (by omega)] at hp; simp at hp
      · rw [pt_num e (by omega)] at hp; simp at hp
      · obtain ⟨k, u, eu, ho⟩ : ∃ k u e, ot q = (k, u, e) := ⟨_, _, _, rfl⟩
        by_cases hu : eu = 0
        · subst hu
          obtain ⟨ho1, _⟩ := ot_ok ho
          by_cases hn2 : n % 2 = 1
          · rw [pt_gone e ho hn2] at hp
            simp only [Prod.mk.injEq, and_true] at hp
            obtain ⟨rfl, rfl⟩ := hp
            rw [enc_gone rfl, hl, ho1, List.append_assoc, show 2 * (n / 2) + 1 = n from by omega]
          · obtain ⟨v, x, ex, hv⟩ : ∃ k x e, ot u = (k, x, e) := ⟨_, _, _, rfl⟩
            rw [pt_here e ho hn2 hv] at hp
            simp only [Prod.mk.injEq] at hp
            obtain ⟨rfl, rfl, rfl⟩ := hp
            obtain ⟨hv1, _⟩ := ot_ok hv
            rw [enc_here rfl, hl, ho1, hv1, List.append_assoc, List.append_assoc, show 2 * (n / 2) = n from by omega]
        · rw [pt_key e ho hu] at hp; simp at hp; exact absurd hp.2.2 hu
  · rw [rd_err hp he] at h; simp at h; exact absurd h.2.2 he

theorem rd_cases (l : List UInt8) : (∃ e, e ≠ 0 ∧ e ≤ 3 ∧ rd l = (Rc.z, [], e)) ∨ ∃ r s, rd l = (r, s, 0) ∧ right r = true ∧ l = enc r ++ s := by
  obtain ⟨r, s, e, h⟩ : ∃ r s e, rd l = (r, s, e) := ⟨_, _, _, rfl⟩
  by_cases he : e = 0
  · subst he
    exact .inr ⟨r, s, h, rd_ok h⟩
  · refine .inl ?_
    obtain ⟨r', s', e', hp⟩ : ∃ r s e, pt l = (r, s, e) := ⟨_, _, _, rfl⟩
    have hot : ∀ u : List UInt8, (ot u).2.2 ≤ 3 := fun u => by
      rcases tk_cases u with ⟨e, _⟩ | e | ⟨n, q, e, _⟩
      · rw [ot_err e (by omega)]; simp
      · rw [ot_err e (by omega)]; simp
      · by_cases hs : q.length < n
        · rw [ot_short e hs]; simp
        · rw [ot_yes e hs]; simp
    have he3 : e' ≤ 3 := by
      rcases tk_cases l with ⟨e, _⟩ | e | ⟨n, q, e, _⟩
      · rw [pt_num e (by omega)] at hp; simp at hp; omega
      · rw [pt_num e (by omega)] at hp; simp at hp; omega
      · obtain ⟨k, u, eu, ho⟩ : ∃ k u e, ot q = (k, u, e) := ⟨_, _, _, rfl⟩
        have h1 := hot q
        rw [ho] at h1
        by_cases hu : eu = 0
        · subst hu
          by_cases hn2 : n % 2 = 1
          · rw [pt_gone e ho hn2] at hp; simp at hp; omega
          · obtain ⟨v, x, ex, hv⟩ : ∃ k x e, ot u = (k, x, e) := ⟨_, _, _, rfl⟩
            have h2 := hot u
            rw [hv] at h2
            rw [pt_here e ho hn2 hv] at hp; simp at hp h2; omega
        · rw [pt_key e ho hu] at hp; simp at hp h1; omega
    by_cases h0 : e' = 0
    · subst h0
      cases hr : right r' with
      | false => exact ⟨2, by omega, by omega, rd_no hp hr⟩
      | true => rw [rd_yes hp hr] at h; simp at h; omega
    · exact ⟨e', h0, he3, rd_err hp h0⟩

/-- A beginning of a record's bytes is too short. -/
theorem rd_cut {r : Rc} {k : Nat} (h : right r = true) (hk : k < (enc r).length) : rd ((enc r).take k) = (Rc.z, [], 3) := by
  obtain ⟨h1, h2, h3, h4, h5, h6⟩ := (right_iff r).1 h
  have cutTxt : ∀ (s : List UInt8) (j : Nat), s.length ≤ 300 → j < (txt s).length → ot ((txt s).take j) = ([], [], 3) := fun s j hs hj => ot_cut (lt64 (by omega)) hj
  cases hg : r.g with
  | true =>
    rw [enc_gone hg] at hk ⊢
    by_cases hp : k < (put (2 * r.q + 1)).length
    · rw [List.take_append_of_le_length (by omega)]
      exact rd_err (pt_num (tk_cut (lt64 (by omega)) hp) (by omega)) (by omega)
    · rw [List.take_append, List.take_of_length_le (by omega)]
      refine rd_err (pt_key (tk_put (lt64 (by omega)) _) (cutTxt r.k _ (by omega) ?_) (by omega)) (by omega)
      simp at hk
      omega
  | false =>
    rw [enc_here hg] at hk ⊢
    rw [List.append_assoc] at hk ⊢
    by_cases hp : k < (put (2 * r.q)).length
    · rw [List.take_append_of_le_length (by omega)]
      exact rd_err (pt_num (tk_cut (lt64 (by omega)) hp) (by omega)) (by omega)
    · rw [List.take_append, List.take_of_length_le (by omega)]
      generalize hj : k - (put (2 * r.q)).length = j
      have hj2 : j < (txt r.k ++ txt r.v).length := by simp at hk ⊢; omega
      by_cases hq : j < (txt r.k).length
      · rw [List.take_append_of_le_length (by omega)]
        exact rd_err (pt_key (tk_put (lt64 (by omega)) _) (cutTxt r.k _ (by omega) hq) (by omega)) (by omega)
      · rw [List.take_append, List.take_of_length_le (by omega)]
        refine rd_err (pt_here (tk_put (lt64 (by omega)) _) (ot_txt (lt64 (by omega))) (by omega) (cutTxt r.v _ (by omega) ?_)) (by omega)
        simp at hj2
        omega

theorem txt_len {s : List UInt8} (h : s.length ≤ 300) : (txt s).length ≤ 10 + s.length := by
  have := put_ten (lt64 (n := s.length) (by omega))
  rw [txt, List.length_append]; omega
theorem txt_pos (s : List UInt8) : 0 < (txt s).length := by
  have := put_pos s.length
  rw [txt, List.length_append]; omega

theorem enc_len {r : Rc} (h : right r = true) : 0 < (enc r).length ∧ (enc r).length ≤ 370 := by
  obtain ⟨h1, h2, h3, h4, h5, h6⟩ := (right_iff r).1 h
  have a := txt_len (s := r.k) (by omega)
  have b := txt_len (s := r.v) (by omega)
  have c := txt_pos r.k
  cases hg : r.g with
  | true =>
    have d := put_ten (lt64 (n := 2 * r.q + 1) (by omega))
    rw [enc_gone hg, List.length_append]; omega
  | false =>
    have d := put_ten (lt64 (n := 2 * r.q) (by omega))
    rw [enc_here hg, List.length_append, List.length_append]; omega

end Go.Proofs.Ytdifecclldkhpaa
