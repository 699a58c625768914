/- Plain facts on a row in which up to four bytes are turned, one by one; and how memory that holds it is kept. -/
import Derived.Test.YtkodfilbpgnckaaCthree
namespace Go.Proofs.Ytkodfilbpgnckaa
open Go.RowKit

/-- The row behind so many turns: t 0 at place p, t 1 behind it, and so on, as far as the row reaches. -/
def tn (l : List UInt8) (p : Nat) (t : Nat → UInt8) : Nat → List UInt8
  | 0 => l
  | j + 1 => if h : p + j < (tn l p t j).length then (tn l p t j).set (p + j) ((tn l p t j)[p + j] ^^^ t j) else tn l p t j

theorem tn_in {l : List UInt8} {p : Nat} {t : Nat → UInt8} {j : Nat} (h : p + j < (tn l p t j).length) : tn l p t (j + 1) = (tn l p t j).set (p + j) ((tn l p t j)[p + j] ^^^ t j) := by
  rw [tn, dif_pos h]
theorem tn_out {l : List UInt8} {p : Nat} {t : Nat → UInt8} {j : Nat} (h : ¬ p + j < (tn l p t j).length) : tn l p t (j + 1) = tn l p t j := by
  rw [tn, dif_neg h]

theorem tn_length (l : List UInt8) (p : Nat) (t : Nat → UInt8) : ∀ j, (tn l p t j).length = l.length
  | 0 => rfl
  | j + 1 => by
    by_cases h : p + j < (tn l p t j).length
    · rw [tn_in h, List.length_set, tn_length l p t j]
    · rw [tn_out h, tn_length l p t j]

/-- Was one turned that is not 0? -/
def tf (len p : Nat) (t : Nat → UInt8) : Nat → Bool
  | 0 => false
  | j + 1 => if p + j < len then (tf len p t j || t j != 0) else tf len p t j

theorem tf_in {len p : Nat} {t : Nat → UInt8} {j : Nat} (h : p + j < len) : tf len p t (j + 1) = (tf len p t j || t j != 0) := by rw [tf, if_pos h]
theorem tf_out {len p : Nat} {t : Nat → UInt8} {j : Nat} (h : ¬ p + j < len) : tf len p t (j + 1) = tf len p t j := by rw [tf, if_neg h]

theorem tn_get (l : List UInt8) (p : Nat) (t : Nat → UInt8) : ∀ (j i : Nat) (h : i < l.length), (tn l p t j)[i]'(by rw [tn_length]; exact h) = if p ≤ i ∧ i < p + j then l[i] ^^^ t (i - p) else l[i]
  | 0, i, h => by rw [if_neg (by omega)]; rfl
  | j + 1, i, h => by
    have ih := tn_get l p t j i h
    have hl := tn_length l p t j
    by_cases hj : p + j < (tn l p t j).length
    · simp only [tn_in hj, List.getElem_set]
      by_cases e : p + j = i
      · subst e
        rw [if_pos rfl, if_pos ⟨by omega, by omega⟩, ih, if_neg (by omega), show p + j - p = j by omega]
      · rw [if_neg e, ih]
        by_cases h2 : p ≤ i ∧ i < p + j
        · rw [if_pos h2, if_pos (by omega)]
        · rw [if_neg h2, if_neg (by omega)]
    · simp only [tn_out hj]
      rw [ih]
      by_cases h2 : p ≤ i ∧ i < p + j
      · rw [if_pos h2, if_pos (by omega)]
      · rw [if_neg h2, if_neg (by omega)]

theorem tf_false {len p : Nat} {t : Nat → UInt8} : ∀ {j : Nat}, tf len p t j = false → ∀ i, i < j → p + i < len → t i = 0
  | j + 1, h, i, hi, hp => by
    by_cases hj : p + j < len
    · rw [tf_in hj, Bool.or_eq_false_iff] at h
      by_cases e : i = j
      · subst e
        simpa using h.2
      · exact tf_false h.1 i (by omega) hp
    · rw [tf_out hj] at h
      exact tf_false h i (by omega) hp

theorem tf_true {len p : Nat} {t : Nat → UInt8} : ∀ {j : Nat}, tf len p t j = true → ∃ i, i < j ∧ p + i < len ∧ t i ≠ 0
  | 0, h => by simp [tf] at h
  | j + 1, h => by
    by_cases hj : p + j < len
    · rw [tf_in hj, Bool.or_eq_true] at h
      rcases h with h | h
      · obtain ⟨i, a, b, c⟩ := tf_true h
        exact ⟨i, by omega, b, c⟩
      · exact ⟨j, by omega, hj, by simpa using h⟩
    · rw [tf_out hj] at h
      obtain ⟨i, a, b, c⟩ := tf_true h
      exact ⟨i, by omega, b, c⟩

theorem xor_self0 {a b : UInt8} (h : a ^^^ b = a) : b = 0 := by
  have h2 := congrArg UInt8.toNat h
  rw [u8_xor_toNat] at h2
  have h3 : b.toNat = 0 := by
    have := congrArg (a.toNat ^^^ ·) h2
    simp only [← Nat.xor_assoc, Nat.xor_self, Nat.zero_xor] at this
    exact this
  exact UInt8.toNat_inj.1 h3

/-- What was sealed and turned is opened just if nothing was turned. -/
theorem opn_as (l : List UInt8) (p : Nat) (t : Nat → UInt8) (L : List UInt8) (hL : L.length = (seal4 l).length)
    (hg : ∀ i (h : i < (seal4 l).length) (h' : i < L.length), L[i] = if 4 + p ≤ i ∧ i < 4 + p + 4 then (seal4 l)[i] ^^^ t (i - (4 + p)) else (seal4 l)[i]) :
    (opn L).2 = !(tf (l.length + 4) (4 + p) t 4) := by
  have hsl : (seal4 l).length = l.length + 4 := by simp [seal4, four_length]; omega
  -- the first four bytes are as they were
  have hf : L.take 4 = four (sum l) := by
    apply List.ext_getElem
    · simp [four_length]; omega
    · intro i h1 h2
      have h4 : i < 4 := by simpa [four_length] using h2
      rw [List.getElem_take, hg i (by omega) (by omega), if_neg (by omega)]
      simp only [seal4]
      rw [List.getElem_append_left]
  have hd : ∀ i (h : i < l.length) (h' : i < (L.drop 4).length), (L.drop 4)[i] = if p ≤ i ∧ i < p + 4 then l[i] ^^^ t (i - p) else l[i] := by
    intro i h h'
    rw [List.getElem_drop, hg (4 + i) (by omega) (by omega)]
    have e : (seal4 l)[4 + i]'(by omega) = l[i] := by
      simp only [seal4]
      rw [List.getElem_append_right (by rw [four_length]; omega)]
      simp only [four_length, Nat.add_sub_cancel_left]
    rw [e]
    by_cases h2 : p ≤ i ∧ i < p + 4
    · rw [if_pos h2, if_pos (by omega), show 4 + i - (4 + p) = i - p by omega]
    · rw [if_neg h2, if_neg (by omega)]
  have hdl : (L.drop 4).length = l.length := by simp; omega
  have hLe : L = four (sum l) ++ L.drop 4 := by rw [← hf, List.take_append_drop]
  generalize L.drop 4 = M at *
  clear hf hg hL
  subst hLe
  cases hc : tf (l.length + 4) (4 + p) t 4 with
  | false =>
    have hz := tf_false hc
    have e : M = l := by
      apply List.ext_getElem hdl
      intro i h1 h2
      rw [hd i h2 (by omega)]
      by_cases h3 : p ≤ i ∧ i < p + 4
      · rw [if_pos h3, hz (i - p) (by omega) (by omega), UInt8.xor_zero]
      · rw [if_neg h3]
    rw [e]
    have := opn_seal l
    rw [seal4] at this
    rw [this]
    rfl
  | true =>
    obtain ⟨i, hi, hp, ht⟩ := tf_true hc
    have hne : sum l ≠ sum M := by
      have el : l = l.take p ++ (l.drop p).take 4 ++ l.drop (p + 4) := by
        rw [List.append_assoc, ← List.drop_drop, List.take_append_drop, List.take_append_drop]
      have eM : M = M.take p ++ (M.drop p).take 4 ++ M.drop (p + 4) := by
        rw [List.append_assoc, ← List.drop_drop, List.take_append_drop, List.take_append_drop]
      have e1 : M.take p = l.take p := by
        apply List.ext_getElem (by simp [hdl])
        intro k h1 h2
        have hk : k < p ∧ k < l.length := by simp at h2; omega
        rw [List.getElem_take, List.getElem_take, hd k hk.2 (by omega), if_neg (by omega)]
      have e2 : M.drop (p + 4) = l.drop (p + 4) := by
        apply List.ext_getElem (by simp [hdl])
        intro k h1 h2
        have hk : p + 4 + k < l.length := by simp at h2; omega
        rw [List.getElem_drop, List.getElem_drop, hd _ hk (by omega), if_neg (by omega)]
      have := sum_ne (l.take p) ((l.drop p).take 4) ((M.drop p).take 4) (l.drop (p + 4)) (by simp [hdl]) (by simp; omega) (by
        intro e
        have h1 : i < ((l.drop p).take 4).length := by simp; omega
        have h2 : i < ((M.drop p).take 4).length := by simp; omega
        have e3 : ((l.drop p).take 4)[i] = ((M.drop p).take 4)[i] := by simp only [e]
        rw [List.getElem_take, List.getElem_take, List.getElem_drop, List.getElem_drop, hd (p + i) (by omega) (by omega), if_pos (by omega), show p + i - p = i by omega] at e3
        exact ht (xor_self0 e3.symm))
      rw [← el] at this
      rw [eM, e1, e2]
      exact this
    rw [opn_turned l M hne]
    rfl

theorem opn_tn (l : List UInt8) (p : Nat) (t : Nat → UInt8) : (opn (tn (seal4 l) (4 + p) t 4)).2 = !(tf (l.length + 4) (4 + p) t 4) :=
  opn_as l p t _ (tn_length _ _ _ _) fun i h _ => tn_get (seal4 l) (4 + p) t 4 i h

/-! ### Memory -/

/-- Nothing that was there ahead has turned; block tb holds the four bytes t, block cb the row L. -/
def Kp (w0 : World) (tb cb : Nat) (t : Nat → UInt8) (L : List UInt8) (W : World) : Prop :=
  Below w0.heap.size w0 W ∧ tb < W.heap.size ∧ cb < W.heap.size ∧ (∀ j, j < 4 → W.cell? ⟨tb, j, none⟩ = some (.int .u8 ((t j).toNat : Int))) ∧
    (∀ j (h : j < L.length), W.cell? ⟨cb, j, none⟩ = some (.int .u8 (L[j].toNat : Int))) ∧ (∀ j, j < L.length → W.frozen? ⟨cb, j, none⟩ = false)

theorem Kp.drewN {w0 W : World} {tb cb : Nat} {t : Nat → UInt8} {L : List UInt8} (h : Kp w0 tb cb t L W) (d : Nat) : Kp w0 tb cb t L (W.drewN d) := ⟨below_drewN h.1 d, h.2⟩
theorem Kp.call {w0 W W' : World} {tb cb : Nat} {t : Nat → UInt8} {L : List UInt8} (h : Kp w0 tb cb t L W) (b : Below W.heap.size W W') : Kp w0 tb cb t L W' :=
  ⟨h.1.trans (b.mono h.1.size), Nat.lt_of_lt_of_le h.2.1 b.size, Nat.lt_of_lt_of_le h.2.2.1 b.size, fun j hj => by rw [b.cell h.2.1]; exact h.2.2.2.1 j hj,
    fun j hj => by rw [b.cell h.2.2.1]; exact h.2.2.2.2.1 j hj, fun j hj => by rw [b.frozen h.2.2.1]; exact h.2.2.2.2.2 j hj⟩
theorem Kp.store {w0 W : World} {tb cb : Nat} {t : Nat → UInt8} {L : List UInt8} (h : Kp w0 tb cb t L W) (hne : tb ≠ cb) (hcb : w0.heap.size ≤ cb) (k : Nat) (hk : k < L.length) (x : UInt8) :
    Kp w0 tb cb t (L.set k x) (W.setCell ⟨cb, k, none⟩ (.int .u8 (x.toNat : Int))) := by
  refine ⟨h.1.setCell hcb _, by simpa [World.setCell] using h.2.1, by simpa [World.setCell] using h.2.2.1, fun j hj => ?_, fun j hj => ?_, fun j hj => ?_⟩
  · rw [World.cell?_setCell_other (a := ⟨cb, k, none⟩) (b := ⟨tb, j, none⟩) (h := fun e => hne (congrArg Addr.block e).symm)]
    exact h.2.2.2.1 j hj
  · rw [List.length_set] at hj
    by_cases e : k = j
    · subst e
      rw [World.cell?_setCell_same (h := h.2.2.2.2.1 k hk), List.getElem_set_self]
    · rw [World.cell?_setCell_other (a := ⟨cb, k, none⟩) (b := ⟨cb, j, none⟩) (h := fun q => e (congrArg Addr.off q)), List.getElem_set_ne e]
      exact h.2.2.2.2.1 j hj
  · rw [List.length_set] at hj
    rw [World.frozen?_setCell]
    exact h.2.2.2.2.2 j hj

theorem Kp.conv {w0 W : World} {tb cb : Nat} {t : Nat → UInt8} {L : List UInt8} (h : Kp w0 tb cb t L W) (n cap : Nat) (hn : L.length = n) :
    (convert 32 9 (.slice (some ⟨cb, 0, none⟩) n cap)).run Try.prog W = .ok (.string (bs L)) W := by
  subst hn
  refine run_convert_bytes_back W 32 9 5 ⟨cb, 0, none⟩ cap L (by kernel_rfl) (by kernel_rfl) (by kernel_rfl) fun j hj => ?_
  have e : (⟨cb, 0, none⟩ : Addr).add j = ⟨cb, j, none⟩ := by simp [Addr.add]; omega
  rw [e]
  exact h.2.2.2.2.1 j hj

/-- What '[]byte(s)' lays. -/
theorem Kp.made {w0 W : World} {tb : Nat} {t : Nat → UInt8} (hb : Below w0.heap.size w0 W) (htb : tb < W.heap.size) (ht : ∀ j, j < 4 → W.cell? ⟨tb, j, none⟩ = some (.int .u8 ((t j).toNat : Int))) (L : List UInt8) (cap lo hi : Nat) (hlo : (bytesRow (bs L) cap).size ≤ lo) :
    Kp w0 tb W.heap.size t L (W.drew.alloc (.cells (bytesRow (bs L) cap) 5 (lo, hi))) := by
  have hsz : (W.drew.alloc (.cells (bytesRow (bs L) cap) 5 (lo, hi))).heap.size = W.heap.size + 1 := by simp
  have hrow : L.length ≤ (bytesRow (bs L) cap).size := by simp [bytesRow, bs]
  refine ⟨hb.drew.alloc hb.size _, by omega, by omega, fun j hj => ?_, fun j hj => ?_, fun j hj => ?_⟩
  · have := (((Below.refl W.heap.size W).drew).alloc (Nat.le_refl _) (.cells (bytesRow (bs L) cap) 5 (lo, hi))).cell (p := ⟨tb, j, none⟩) htb
    rw [this]; exact ht j hj
  · have := World.cell?_alloc_mark W.drew (bytesRow (bs L) cap) 5 (lo, hi) j
    rw [show W.drew.heap.size = W.heap.size from rfl] at this
    rw [this]
    unfold bytesRow
    rw [Array.getElem?_append_left (by simpa [bs] using hj)]
    simp [bs, hj]
  · have := World.frozen?_alloc_mark W.drew (bytesRow (bs L) cap) 5 lo hi j
    rw [show W.drew.heap.size = W.heap.size from rfl] at this
    rw [this]
    have : ¬ lo ≤ j := by omega
    simp [this]

end Go.Proofs.Ytkodfilbpgnckaa
