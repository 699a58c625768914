/- Plain facts on rows by rising names: one put in, one taken away. Nothing of the program is used here. -/
import Derived.Sort.Walk0
namespace Go.Proofs.Ytfcfleeiffmjdaa

/-- Does the one name stand before the other? -/
def lt (a b : List UInt8) : Bool := Op.bytesLess a b
theorem lt_iff (a b : List UInt8) : lt a b = true ↔ a < b := by unfold lt; rw [bytesLess_eq]; simp
theorem lt_irrefl (a : List UInt8) : lt a a = false := by
  cases h : lt a a
  · rfl
  · exact absurd ((lt_iff a a).1 h) (List.lt_irrefl a)
theorem lt_trans {a b c : List UInt8} (h : lt a b = true) (k : lt b c = true) : lt a c = true := (lt_iff a c).2 (List.lt_trans ((lt_iff a b).1 h) ((lt_iff b c).1 k))
theorem lt_asymm {a b : List UInt8} (h : lt a b = true) : lt b a = false := by
  cases k : lt b a
  · rfl
  · have := lt_trans h k; rw [lt_irrefl] at this; cases this
theorem lt_ne {a b : List UInt8} (h : lt a b = true) : a ≠ b := fun e => by rw [e, lt_irrefl] at h; cases h
theorem lt_total {a b : List UInt8} (h : lt a b = false) (hne : a ≠ b) : lt b a = true := by
  have h' : ¬ a < b := fun e => by rw [(lt_iff a b).2 e] at h; cases h
  rw [lt_iff]
  rcases List.le_iff_lt_or_eq.1 (List.not_lt.1 h') with g | g
  · exact g
  · exact absurd g.symm hne

/-! ### rows by rising names -/
section
variable {α β : Type} (k : α → List UInt8)

/-- By rising names, none twice. -/
def Up (l : List α) : Prop := l.Pairwise (fun a b => lt (k a) (k b) = true)

/-- All but the one of this name. -/
def wo (l : List α) (n : List UInt8) : List α := l.filter (fun c => !(k c == n))

/-- With one more, in its place. -/
def ins (l : List α) (x : α) : List α := l.takeWhile (fun c => lt (k c) (k x)) ++ x :: l.dropWhile (fun c => lt (k c) (k x))

/-- How many stand ahead of a name. -/
def pos (l : List α) (n : List UInt8) : Nat := (l.takeWhile (fun c => lt (k c) n)).length

variable {k}

theorem mem_wo {l : List α} {n : List UInt8} {c : α} : c ∈ wo k l n ↔ c ∈ l ∧ k c ≠ n := by simp [wo]
theorem mem_ins {l : List α} {x c : α} : c ∈ ins k l x ↔ c = x ∨ c ∈ l := by
  unfold ins
  have := List.takeWhile_append_dropWhile (p := fun c => lt (k c) (k x)) (l := l)
  rw [List.mem_append, List.mem_cons]
  constructor
  · rintro (h | h | h)
    · exact Or.inr (List.takeWhile_subset _ h)
    · exact Or.inl h
    · exact Or.inr ((List.dropWhile_suffix _).subset h)
  · rintro (h | h)
    · exact Or.inr (Or.inl h)
    · rw [← this, List.mem_append] at h
      rcases h with h | h
      · exact Or.inl h
      · exact Or.inr (Or.inr h)

theorem up_wo {l : List α} (h : Up k l) (n : List UInt8) : Up k (wo k l n) := h.filter _

theorem up_tail {x : α} {l : List α} (h : Up k (x :: l)) : Up k l := (List.pairwise_cons.1 h).2
theorem up_head {x c : α} {l : List α} (h : Up k (x :: l)) (hc : c ∈ l) : lt (k x) (k c) = true := (List.pairwise_cons.1 h).1 c hc

theorem up_ins {x : α} : ∀ {l : List α}, Up k l → (∀ c ∈ l, k c ≠ k x) → Up k (ins k l x)
  | [], _, _ => by simp [ins, Up]
  | y :: r, h, hne => by
    by_cases hy : lt (k y) (k x) = true
    · have ih := up_ins (x := x) (up_tail h) (fun c hc => hne c (List.mem_cons_of_mem _ hc))
      have e : ins k (y :: r) x = y :: ins k r x := by simp [ins, hy]
      rw [e]
      refine List.pairwise_cons.2 ⟨fun c hc => ?_, ih⟩
      rcases mem_ins.1 hc with rfl | hc
      · exact hy
      · exact up_head h hc
    · have hy' : lt (k y) (k x) = false := by simpa using hy
      have e : ins k (y :: r) x = x :: y :: r := by simp [ins, hy']
      rw [e]
      have hx := lt_total hy' (hne y (List.mem_cons_self ..))
      refine List.pairwise_cons.2 ⟨fun c hc => ?_, h⟩
      rcases List.mem_cons.1 hc with rfl | hc
      · exact hx
      · exact lt_trans hx (up_head h hc)

theorem length_ins (l : List α) (x : α) : (ins k l x).length = l.length + 1 := by
  have := congrArg List.length (List.takeWhile_append_dropWhile (p := fun c => lt (k c) (k x)) (l := l))
  rw [List.length_append] at this
  rw [ins, List.length_append, List.length_cons]
  omega

theorem wo_id {l : List α} {n : List UInt8} (h : ∀ c ∈ l, k c ≠ n) : wo k l n = l := by
  unfold wo
  rw [List.filter_eq_self]
  intro c hc
  simp [h c hc]

theorem map_wo (f : β → α) (l : List β) (n : List UInt8) : (wo (fun b => k (f b)) l n).map f = wo k (l.map f) n := by
  unfold wo
  rw [List.filter_map]
  rfl

theorem map_ins (f : β → α) (l : List β) (x : β) : (ins (fun b => k (f b)) l x).map f = ins k (l.map f) (f x) := by
  unfold ins
  rw [List.map_append, List.map_cons, List.takeWhile_map, List.dropWhile_map]
  rfl

theorem up_map (f : β → α) (l : List β) : Up k (l.map f) ↔ Up (fun b => k (f b)) l := by
  unfold Up
  rw [List.pairwise_map]

/-- Where a name stands, there it is found. -/
theorem up_split {c : α} : ∀ {l : List α}, Up k l → c ∈ l → ∃ t, l = l.takeWhile (fun d => lt (k d) (k c)) ++ c :: t ∧ l.dropWhile (fun d => lt (k d) (k c)) = c :: t ∧ (∀ d ∈ t, lt (k c) (k d) = true)
  | y :: r, h, hc => by
    rcases List.mem_cons.1 hc with rfl | hc
    · refine ⟨r, ?_, ?_, fun d hd => up_head h hd⟩
      · simp [lt_irrefl]
      · simp [lt_irrefl]
    · have hy := up_head h hc
      obtain ⟨t, h1, h2, h3⟩ := up_split (up_tail h) hc
      refine ⟨t, ?_, ?_, h3⟩
      · rw [List.takeWhile_cons, if_pos hy, List.cons_append, ← h1]
      · rw [List.dropWhile_cons, if_pos hy, h2]

theorem up_inj {c d : α} : ∀ {l : List α}, Up k l → c ∈ l → d ∈ l → k c = k d → c = d
  | y :: r, h, hc, hd, e => by
    rcases List.mem_cons.1 hc with rfl | hc <;> rcases List.mem_cons.1 hd with rfl | hd
    · rfl
    · exact absurd e (lt_ne (up_head h ‹_›))
    · exact absurd e.symm (lt_ne (up_head h ‹_›))
    · exact up_inj (up_tail h) hc hd e

theorem mem_takeWhile_lt {l : List α} {n : List UInt8} {c : α} (hc : c ∈ l.takeWhile (fun d => lt (k d) n)) : lt (k c) n = true := by
  have := List.all_takeWhile (p := fun d => lt (k d) n) (l := l)
  rw [List.all_eq_true] at this
  exact this c hc

theorem cut_at {l A B : List α} (h : l = A ++ B) : l.take A.length = A ∧ l.drop A.length = B := by
  subst h; simp

/-- One is taken away: what stood ahead, and what stood behind. -/
theorem wo_at {l : List α} {c : α} (h : Up k l) (hc : c ∈ l) : wo k l (k c) = l.take (pos k l (k c)) ++ l.drop (pos k l (k c) + 1) := by
  obtain ⟨t, h1, _, h3⟩ := up_split h hc
  have e1 : wo k l (k c) = l.takeWhile (fun d => lt (k d) (k c)) ++ t := by
    conv => lhs; rw [h1]
    unfold wo
    rw [List.filter_append, List.filter_cons]
    have a1 : (l.takeWhile (fun d => lt (k d) (k c))).filter (fun d => !(k d == k c)) = l.takeWhile (fun d => lt (k d) (k c)) := by
      rw [List.filter_eq_self]
      intro d hd
      have := lt_ne (mem_takeWhile_lt hd)
      simp [this]
    have a2 : t.filter (fun d => !(k d == k c)) = t := by
      rw [List.filter_eq_self]
      intro d hd
      have := (lt_ne (h3 d hd)).symm
      simp [this]
    rw [a1, a2]
    simp
  have e2 : pos k l (k c) = (l.takeWhile (fun d => lt (k d) (k c))).length := rfl
  have e3 : l.drop (pos k l (k c) + 1) = t := by
    rw [← List.drop_drop, e2, (cut_at h1).2]; rfl
  rw [e1, e3, e2, (cut_at h1).1]

/-- One more, in its place: what stood ahead, it, and what stood from there on. -/
theorem ins_at (l : List α) (x : α) : ins k l x = l.take (pos k l (k x)) ++ [x] ++ l.drop (pos k l (k x)) := by
  have e := List.takeWhile_append_dropWhile (p := fun c => lt (k c) (k x)) (l := l)
  have e2 : pos k l (k x) = (l.takeWhile (fun d => lt (k d) (k x))).length := rfl
  rw [e2, (cut_at e.symm).1, (cut_at e.symm).2, ins]
  simp

theorem pos_le (l : List α) (n : List UInt8) : pos k l n ≤ l.length := (List.takeWhile_sublist _).length_le

theorem pos_lt {l : List α} {c : α} (h : Up k l) (hc : c ∈ l) : pos k l (k c) < l.length := by
  obtain ⟨t, h1, _, _⟩ := up_split h hc
  have := congrArg List.length h1
  rw [List.length_append, List.length_cons] at this
  unfold pos
  omega

theorem pos_before {l : List α} {n : List UInt8} {t : Nat} {c : α} (ht : t < pos k l n) (hc : l[t]? = some c) : lt (k c) n = true := by
  have e := List.takeWhile_append_dropWhile (p := fun c => lt (k c) n) (l := l)
  rw [← e, List.getElem?_append_left ht] at hc
  exact mem_takeWhile_lt (List.mem_of_getElem? hc)

theorem pos_behind {n : List UInt8} : ∀ {l : List α}, Up k l → ∀ {t : Nat} {c : α}, pos k l n ≤ t → l[t]? = some c → lt (k c) n = false
  | y :: r, h, t, c, ht, hc => by
    by_cases hy : lt (k y) n = true
    · have e : pos k (y :: r) n = pos k r n + 1 := by simp [pos, hy]
      rw [e] at ht
      obtain ⟨t', rfl⟩ : ∃ t', t = t' + 1 := ⟨t - 1, by omega⟩
      exact pos_behind (t := t') (up_tail h) (by omega) (by simpa using hc)
    · have hy' : lt (k y) n = false := by simpa using hy
      cases t with
      | zero => simp at hc; subst hc; exact hy'
      | succ t =>
        simp at hc
        have := up_head h (List.mem_of_getElem? hc)
        cases g : lt (k c) n
        · rfl
        · rw [lt_trans this g] at hy'; cases hy'

/-- The names, when one that is there is put in anew. -/
theorem keys_again {l : List α} {c x : α} (h : Up k l) (hc : c ∈ l) (hx : k x = k c) : (ins k (wo k l (k c)) x).map k = l.map k := by
  obtain ⟨t, h1, h2, h3⟩ := up_split h hc
  have e1 : wo k l (k c) = l.takeWhile (fun d => lt (k d) (k c)) ++ t := by
    have e2 : pos k l (k c) = (l.takeWhile (fun d => lt (k d) (k c))).length := rfl
    have e3 : l.drop (pos k l (k c) + 1) = t := by
      rw [← List.drop_drop, e2, (cut_at h1).2]; rfl
    rw [wo_at h hc, e3, e2, (cut_at h1).1]
  have hall : ∀ d ∈ l.takeWhile (fun d => lt (k d) (k c)), lt (k d) (k x) = true := fun d hd => by rw [hx]; exact mem_takeWhile_lt hd
  have hno : ∀ d ∈ t, lt (k d) (k x) = false := fun d hd => by rw [hx]; exact lt_asymm (h3 d hd)
  have t1 : (l.takeWhile (fun d => lt (k d) (k c)) ++ t).takeWhile (fun d => lt (k d) (k x)) = l.takeWhile (fun d => lt (k d) (k c)) := by
    rw [List.takeWhile_append_of_pos hall]
    cases t with
    | nil => simp
    | cons a t => simp [hno a (List.mem_cons_self ..)]
  have t2 : (l.takeWhile (fun d => lt (k d) (k c)) ++ t).dropWhile (fun d => lt (k d) (k x)) = t := by
    rw [List.dropWhile_append_of_pos hall]
    cases t with
    | nil => simp
    | cons a t => simp [hno a (List.mem_cons_self ..)]
  rw [ins, e1, t1, t2]
  conv => rhs; rw [h1]
  simp [hx]

theorem again_mid {c x : α} (hx : k x = k c) : ∀ (A : List α) (t : List α), Up k (A ++ c :: t) → ins k (wo k (A ++ c :: t) (k c)) x = A ++ x :: t
  | [], t, h => by
    have hw : wo k (c :: t) (k c) = t := by
      unfold wo
      rw [List.filter_cons, if_neg (by simp), List.filter_eq_self]
      intro d hd
      have := (lt_ne (up_head h hd)).symm
      simp [this]
    rw [List.nil_append, hw]
    cases t with
    | nil => simp [ins]
    | cons d t =>
      have hd : lt (k d) (k x) = false := by rw [hx]; exact lt_asymm (up_head h (List.mem_cons_self ..))
      simp [ins, hd]
  | a :: A, t, h => by
    have ha : lt (k a) (k c) = true := up_head (l := A ++ c :: t) h (by simp)
    have ih := again_mid hx A t (up_tail (l := A ++ c :: t) h)
    have hne := lt_ne ha
    have e1 : wo k (a :: (A ++ c :: t)) (k c) = a :: wo k (A ++ c :: t) (k c) := by
      unfold wo
      rw [List.filter_cons, if_pos (by simp [hne])]
    have hax : lt (k a) (k x) = true := by rw [hx]; exact ha
    rw [List.cons_append, e1]
    have e2 : ins k (a :: wo k (A ++ c :: t) (k c)) x = a :: ins k (wo k (A ++ c :: t) (k c)) x := by simp [ins, hax]
    rw [e2, ih, List.cons_append]
end
end Go.Proofs.Ytfcfleeiffmjdaa
