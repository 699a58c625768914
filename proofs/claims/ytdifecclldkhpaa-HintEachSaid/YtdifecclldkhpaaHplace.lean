/- Plain facts on the entries of a segment: which they are, that each tells of its record, and that they stand in order. Nothing of the program is used here. -/
import Derived.Test.YtdifecclldkhpaaHmath
namespace Go.Proofs.Ytdifecclldkhpaa

theorem rdsF_ok : ∀ (n : Nat) (s : List UInt8) (acc l : List Rc), s.length < n → rdsF n s acc = (l, 0) → ∃ t, l = acc ++ t ∧ rights t = true ∧ s = encs t
  | 0, s, acc, l, hn, h => by omega
  | n + 1, s, acc, l, hn, h => by
    by_cases hs : s = []
    · subst hs
      rw [rdsF_nil] at h
      simp at h
      subst h
      exact ⟨[], by simp, rfl, rfl⟩
    · obtain ⟨r, u, e, hr⟩ : ∃ r u e, rd s = (r, u, e) := ⟨_, _, _, rfl⟩
      by_cases he : e = 0
      · subst he
        rw [rdsF_next hs hr] at h
        obtain ⟨hg, rfl⟩ := rd_ok hr
        have := enc_len hg
        rw [List.length_append] at hn
        obtain ⟨t, rfl, ht, rfl⟩ := rdsF_ok n _ _ _ (by omega) h
        refine ⟨r :: t, by simp, ?_, ?_⟩
        · simp only [rights, List.all_cons, Bool.and_eq_true]; exact ⟨hg, ht⟩
        · rw [encs_cons]
      · rw [rdsF_err hs hr he] at h
        simp at h
        omega

theorem rds_ok {c : List UInt8} {l : List Rc} (h : rds c = (l, 0)) : rights l = true ∧ c = encs l := by
  obtain ⟨t, rfl, h1, h2⟩ := rdsF_ok _ c [] l (by omega) h
  exact ⟨h1, h2⟩

/-- What is taken has just these bytes. -/
theorem ft_ok {b : List UInt8} {l : List Rc} {n : Nat} (h : ft b = (l, n, 0)) : good l = true ∧ n = (fbs l).length ∧ b = fbs l ++ b.drop n := by
  obtain ⟨s, r, e, h1⟩ : ∃ s r e, ot b = (s, r, e) := ⟨_, _, _, rfl⟩
  by_cases he : e = 0
  · subst he
    obtain ⟨c, ok, h2⟩ : ∃ c ok, opn s = (c, ok) := ⟨_, _, rfl⟩
    cases ok with
    | false => rw [ft_sum h1 h2] at h; simp at h
    | true =>
      obtain ⟨m, e, h3⟩ : ∃ l e, rds c = (l, e) := ⟨_, _, rfl⟩
      by_cases he : e = 0
      · subst he
        cases hl : fits16 m with
        | false => rw [ft_many h1 h2 h3 hl] at h; simp at h
        | true =>
          rw [ft_yes h1 h2 h3 hl] at h
          simp only [Prod.mk.injEq, and_true] at h
          obtain ⟨rfl, rfl⟩ := h
          obtain ⟨g1, g2⟩ := rds_ok h3
          have hb := (ot_ok h1).1
          have hs : s = seal4 (encs m) := by rw [opn_ok h2, g2]
          have hf : txt s = fbs m := by rw [hs]; rfl
          rw [hf] at hb
          have hlen : b.length = (fbs m).length + r.length := by rw [hb, List.length_append]
          refine ⟨by simp [good, hl, g1], by omega, ?_⟩
          have hd : b.drop (b.length - r.length) = r := by rw [hb, List.drop_append_of_le_length (by simp), List.length_append, Nat.add_sub_cancel, List.drop_length, List.nil_append]
          rw [hd]; exact hb
      · rw [ft_form h1 h2 h3 he] at h; simp at h
  · rw [ft_err h1 he] at h; simp at h; omega

theorem fsF_ok : ∀ (n : Nat) (b : List UInt8) (acc ll : List (List Rc)) (k m : Nat), fsF n b acc k = (ll, m) → ∃ t, ll = acc ++ t ∧ (∀ l ∈ t, good l = true) ∧ m = k + (cat t).length ∧ b = cat t ++ b.drop (cat t).length
  | 0, b, acc, ll, k, m, h => by
    simp only [fsF, Prod.mk.injEq] at h
    obtain ⟨rfl, rfl⟩ := h
    exact ⟨[], by simp, by simp, by simp [cat], by simp [cat]⟩
  | n + 1, b, acc, ll, k, m, h => by
    obtain ⟨l, j, e, hf⟩ : ∃ l j e, ft b = (l, j, e) := ⟨_, _, _, rfl⟩
    by_cases he : e = 0
    · subst he
      rw [fsF_next hf] at h
      obtain ⟨t, rfl, hg, rfl, hb⟩ := fsF_ok n _ _ _ _ _ h
      obtain ⟨g1, g2, g3⟩ := ft_ok hf
      refine ⟨l :: t, by simp, ?_, ?_, ?_⟩
      · intro x hx
        rcases List.mem_cons.1 hx with rfl | hx
        · exact g1
        · exact hg x hx
      · rw [cat_cons, List.length_append]; omega
      · rw [cat_cons, List.append_assoc, List.length_append, ← g2, ← List.drop_drop, ← hb]
        exact g3
    · rw [fsF_end hf he] at h
      simp only [Prod.mk.injEq] at h
      obtain ⟨rfl, rfl⟩ := h
      exact ⟨[], by simp, by simp, by simp [cat], by simp [cat]⟩

theorem fs_ok {b : List UInt8} {ll : List (List Rc)} {n : Nat} (h : fs b = (ll, n)) : (∀ l ∈ ll, good l = true) ∧ n = (cat ll).length ∧ b = cat ll ++ b.drop n := by
  obtain ⟨t, rfl, h1, h2, h3⟩ := fsF_ok _ b [] ll 0 n h
  rw [Nat.zero_add] at h2
  exact ⟨h1, h2, by rw [h2]; exact h3⟩

/-- The entry of a record that stands at a place. -/
def ent (off : Nat) (r : Rc) : Et := ⟨r.k, (off : Int), ((enc r).length : Int), r.q, r.g⟩

/-- The entries of records that stand one behind the other, from a place on. -/
def rows : Nat → List Rc → List Et
  | _, [] => []
  | off, r :: l => ent off r :: rows (off + (enc r).length) l

theorem rows_len : ∀ (off : Nat) (l : List Rc), (rows off l).length = l.length
  | _, [] => rfl
  | off, r :: l => by rw [rows, List.length_cons, List.length_cons, rows_len]

theorem rows_append : ∀ (off : Nat) (l m : List Rc), rows off (l ++ m) = rows off l ++ rows (off + (encs l).length) m
  | off, [], m => by simp [rows, encs]
  | off, r :: l, m => by
    rw [List.cons_append, rows, rows_append, rows, encs_cons, List.length_append, Nat.add_assoc]; rfl

theorem rows_next (off : Nat) (l : List Rc) {k : Nat} (hk : k < l.length) : rows off (l.take (k + 1)) = rows off (l.take k) ++ [ent (off + (encs (l.take k)).length) l[k]] := by
  rw [List.take_succ_eq_append_getElem hk, rows_append]; rfl

/-- How many bytes of a batch stand ahead of its records. -/
def head (l : List Rc) : Nat := (fbs l).length - (encs l).length

theorem head_le (l : List Rc) : (fbs l).length = head l + (encs l).length := by
  have : (encs l).length ≤ (fbs l).length := by rw [fbs, txt, List.length_append, seal_len]; omega
  rw [head]; omega

/-- The entries of batches that stand one behind the other, from a place on. -/
def hof : Nat → List (List Rc) → List Et
  | _, [] => []
  | at0, l :: ll => rows (at0 + head l) l ++ hof (at0 + (fbs l).length) ll

theorem hof_append : ∀ (a : Nat) (l m : List (List Rc)), hof a (l ++ m) = hof a l ++ hof (a + (cat l).length) m
  | a, [], m => by simp [hof, cat]
  | a, l :: ll, m => by
    rw [List.cons_append, hof, hof_append, hof, cat_cons, List.length_append, Nat.add_assoc, List.append_assoc]

theorem hof_next (a : Nat) (ll : List (List Rc)) {k : Nat} (hk : k < ll.length) : hof a (ll.take (k + 1)) = hof a (ll.take k) ++ rows (a + (cat (ll.take k)).length + head ll[k]) ll[k] := by
  rw [List.take_succ_eq_append_getElem hk, hof_append, hof, hof, List.append_nil]

theorem hof_len : ∀ (a : Nat) (ll : List (List Rc)), (hof a ll).length = ll.flatten.length
  | _, [] => rfl
  | a, l :: ll => by rw [hof, List.length_append, rows_len, hof_len, List.flatten_cons, List.length_append]

/-- The record that an entry tells of, and the error. -/
def hat (b : List UInt8) (e : Et) : Rc × Nat :=
  if eright e = false ∨ (b.length : Int) < e.o + e.l then (Rc.z, 1)
  else if (rd ((b.drop e.o.toNat).take e.l.toNat)).2.2 = 0 ∧ (rd ((b.drop e.o.toNat).take e.l.toNat)).2.1 = [] ∧ (rd ((b.drop e.o.toNat).take e.l.toNat)).1.k = e.k ∧ (rd ((b.drop e.o.toNat).take e.l.toNat)).1.q = e.q ∧ (rd ((b.drop e.o.toNat).take e.l.toNat)).1.g = e.g then ((rd ((b.drop e.o.toNat).take e.l.toNat)).1, 0)
  else (Rc.z, 2)

theorem hat_arg {b : List UInt8} {e : Et} (h : eright e = false ∨ (b.length : Int) < e.o + e.l) : hat b e = (Rc.z, 1) := by rw [hat, if_pos h]
theorem hat_of {b s : List UInt8} {e : Et} {r : Rc} {er : Nat} (h : eright e = true) (h2 : ¬ (b.length : Int) < e.o + e.l) (h3 : rd ((b.drop e.o.toNat).take e.l.toNat) = (r, s, er)) :
    hat b e = if er = 0 ∧ s = [] ∧ r.k = e.k ∧ r.q = e.q ∧ r.g = e.g then (r, 0) else (Rc.z, 2) := by
  rw [hat, if_neg (by simp [h]; omega), h3]

theorem ent_right {off : Nat} {r : Rc} (h : right r = true) (ho : off ≤ 1048576) : eright (ent off r) = true := by
  obtain ⟨h1, h2, h3, h4, h5, h6⟩ := (right_iff r).1 h
  have h7 := enc_len h
  rw [eright_iff]
  refine ⟨h3, h4, ?_, ?_, ?_, ?_, h1, h2⟩ <;> (simp only [ent]; omega)

theorem hat_ent {b s : List UInt8} {off : Nat} {r : Rc} (h : right r = true) (ho : off ≤ 1048576) (hb : b.drop off = enc r ++ s) : hat b (ent off r) = (r, 0) := by
  have h7 := enc_len h
  have hl : b.length - off = (enc r).length + s.length := by rw [← List.length_drop, hb, List.length_append]
  have hr := rd_enc h []
  rw [List.append_nil] at hr
  rw [hat_of (ent_right h ho) (by simp only [ent]; omega) (r := r) (s := []) (er := 0)]
  · rw [if_pos ⟨rfl, rfl, rfl, rfl, rfl⟩]
  · show rd ((b.drop ((off : Int)).toNat).take (((enc r).length : Int)).toNat) = _
    rw [Int.toNat_natCast, Int.toNat_natCast, hb, List.take_left]
    exact hr

theorem hat_rows : ∀ (l : List Rc) (b s : List UInt8) (off : Nat), rights l = true → off + (encs l).length ≤ 1048576 → b.drop off = encs l ++ s → (rows off l).map (hat b) = l.map (fun r => (r, 0))
  | [], _, _, _, _, _, _ => rfl
  | r :: l, b, s, off, h, ho, hb => by
    simp only [rights, List.all_cons, Bool.and_eq_true] at h
    rw [encs_cons] at ho hb
    rw [List.length_append] at ho
    rw [List.append_assoc] at hb
    rw [rows, List.map_cons, List.map_cons, hat_ent h.1 (by omega) hb, hat_rows l b s _ h.2 (by omega)]
    rw [← List.drop_drop, hb, List.drop_left]

theorem fbs_drop (l : List Rc) (s : List UInt8) : (fbs l ++ s).drop (head l) = encs l ++ s := by
  have : fbs l = (put (seal4 (encs l)).length ++ four (sum (encs l))) ++ encs l := by rw [fbs, txt, seal4, List.append_assoc]
  have hl : (put (seal4 (encs l)).length ++ four (sum (encs l))).length = head l := by
    rw [head, this]
    simp only [List.length_append]
    omega
  rw [this, List.append_assoc, ← hl, List.drop_left]

theorem hat_hof : ∀ (ll : List (List Rc)) (b s : List UInt8) (a : Nat), (∀ l ∈ ll, good l = true) → a + (cat ll).length ≤ 1048576 → b.drop a = cat ll ++ s → (hof a ll).map (hat b) = ll.flatten.map (fun r => (r, 0))
  | [], _, _, _, _, _, _ => rfl
  | l :: ll, b, s, a, h, ho, hb => by
    rw [cat_cons] at ho hb
    rw [List.length_append] at ho
    rw [List.append_assoc] at hb
    have hh := head_le l
    rw [hof, List.map_append, List.flatten_cons, List.map_append, hat_hof ll b s _ (fun x hx => h x (by simp [hx])) (by omega), hat_rows l b (cat ll ++ s) _ ((good_iff l).1 (h l (by simp))).2 (by omega)]
    · rw [← List.drop_drop, hb, fbs_drop]
    · rw [← List.drop_drop, hb, List.drop_left]

theorem hat_at {ll : List (List Rc)} (hg : ∀ l ∈ ll, good l = true) (hl : (cat ll).length ≤ 1048576) {i : Nat} (hi : i < (hof 0 ll).length) : hat (cat ll) (hof 0 ll)[i] = (ll.flatten[i]'(by rw [← hof_len 0]; exact hi), 0) := by
  have := hat_hof ll (cat ll) [] 0 hg (by omega) (by simp)
  have h2 := congrArg (fun x => x[i]?) this
  simp only [List.getElem?_map] at h2
  rw [List.getElem?_eq_getElem hi, List.getElem?_eq_getElem (by rw [← hof_len 0]; exact hi)] at h2
  simpa using h2

/-- Entries stand in order, from a place on, up to another. -/
def inc : Int → Int → List Et → Prop
  | lo, hi, [] => lo ≤ hi
  | lo, hi, e :: l => lo ≤ e.o ∧ inc (e.o + e.l) hi l

theorem inc_append : ∀ (l m : List Et) {lo mid hi : Int}, inc lo mid l → inc mid hi m → inc lo hi (l ++ m)
  | [], [], lo, mid, hi, h1, h2 => by simp only [inc, List.nil_append] at *; omega
  | [], e :: m, lo, mid, hi, h1, h2 => by simp only [inc, List.nil_append] at *; exact ⟨by omega, h2.2⟩
  | e :: l, m, lo, mid, hi, h1, h2 => ⟨h1.1, inc_append l m h1.2 h2⟩

theorem inc_rows : ∀ (l : List Rc) (off : Nat), inc off (off + (encs l).length : Nat) (rows off l)
  | [], off => by simp [inc, rows, encs]
  | r :: l, off => by
    have := inc_rows l (off + (enc r).length)
    rw [rows]
    refine ⟨by simp [ent], ?_⟩
    rw [encs_cons, List.length_append, ← Nat.add_assoc]
    simpa [ent] using this

theorem inc_weaken : ∀ (l : List Et) {lo lo' hi : Int}, lo' ≤ lo → inc lo hi l → inc lo' hi l
  | [], _, _, _, h, h1 => by simp only [inc] at *; omega
  | e :: l, _, _, _, h, h1 => ⟨Int.le_trans h h1.1, h1.2⟩

theorem inc_hof : ∀ (ll : List (List Rc)) (a : Nat), inc a (a + (cat ll).length : Nat) (hof a ll)
  | [], a => by simp [inc, hof, cat]
  | l :: ll, a => by
    have h1 := inc_rows l (a + head l)
    have h2 := inc_hof ll (a + (fbs l).length)
    have hh := head_le l
    rw [hof, cat_cons, List.length_append, ← Nat.add_assoc]
    refine inc_append _ _ (inc_weaken _ (by omega) h1) ?_
    rw [Nat.add_assoc, ← hh]
    exact h2

theorem inc_get : ∀ (l : List Et) {lo hi : Int} (i : Nat) (h : i + 1 < l.length), inc lo hi l → l[i].o + l[i].l ≤ l[i + 1].o
  | [], _, _, i, h, _ => by simp at h
  | [e], _, _, i, h, _ => by simp at h
  | e :: f :: l, _, _, 0, h, h1 => h1.2.1
  | e :: f :: l, _, _, i + 1, h, h1 => inc_get (f :: l) i (by simpa using h) h1.2

theorem hof_order {ll : List (List Rc)} {i : Nat} (h : i + 1 < (hof 0 ll).length) : (hof 0 ll)[i].o + (hof 0 ll)[i].l ≤ (hof 0 ll)[i + 1].o :=
  inc_get _ i h (inc_hof ll 0)

/-- No place is farther than the bytes. -/
theorem hof_le : ∀ (ll : List (List Rc)) (a : Nat), (∀ l ∈ ll, good l = true) → ∀ e ∈ hof a ll, ∃ (off : Nat) (r : Rc), e = ent off r ∧ right r = true ∧ off + (enc r).length ≤ a + (cat ll).length
  | [], _, _, e, he => by simp [hof] at he
  | l :: ll, a, h, e, he => by
    have hh := head_le l
    have key : ∀ (m : List Rc) (off : Nat), rights m = true → ∀ e ∈ rows off m, ∃ (o : Nat) (r : Rc), e = ent o r ∧ right r = true ∧ o + (enc r).length ≤ off + (encs m).length := by
      intro m
      induction m with
      | nil => intro off _ e he; simp [rows] at he
      | cons r m ih =>
        intro off hm e he
        simp only [rights, List.all_cons, Bool.and_eq_true] at hm
        rw [encs_cons, List.length_append]
        rw [rows] at he
        rcases List.mem_cons.1 he with rfl | he
        · exact ⟨off, r, rfl, hm.1, by omega⟩
        · obtain ⟨o, x, h1, h2, h3⟩ := ih _ hm.2 e he
          exact ⟨o, x, h1, h2, by omega⟩
    rw [hof] at he
    rw [cat_cons, List.length_append]
    rcases List.mem_append.1 he with he | he
    · obtain ⟨o, x, h1, h2, h3⟩ := key l _ ((good_iff l).1 (h l (by simp))).2 e he
      exact ⟨o, x, h1, h2, by omega⟩
    · obtain ⟨o, x, h1, h2, h3⟩ := hof_le ll _ (fun x hx => h x (by simp [hx])) e he
      exact ⟨o, x, h1, h2, by omega⟩

end Go.Proofs.Ytdifecclldkhpaa
