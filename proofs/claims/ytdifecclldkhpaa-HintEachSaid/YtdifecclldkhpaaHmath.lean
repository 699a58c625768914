/- Plain facts on indexes of segments as rows of bytes: what an entry's bytes are, what a row of bytes begins with, that they undo one another, which entries a segment has, and the record that an entry tells of. Nothing of the program is used here. -/
import Derived.Test.YtdifecclldkhpaaFmath
namespace Go.Proofs.Ytdifecclldkhpaa

/-- An entry: key, place, how many bytes, number, is it gone? -/
structure Et where
  k : List UInt8
  o : Int
  l : Int
  q : Nat
  g : Bool

theorem Et.ext' {a b : Et} (h1 : a.k = b.k) (h2 : a.o = b.o) (h3 : a.l = b.l) (h4 : a.q = b.q) (h5 : a.g = b.g) : a = b := by
  cases a; cases b; simp_all

/-- May an entry be? -/
def eright (e : Et) : Bool := decide (1 ≤ e.k.length ∧ e.k.length ≤ 40 ∧ 0 ≤ e.o ∧ e.o ≤ 1048576 ∧ 1 ≤ e.l ∧ e.l ≤ 400 ∧ 1 ≤ e.q ∧ e.q ≤ 1099511627776)

theorem eright_iff (e : Et) : eright e = true ↔ 1 ≤ e.k.length ∧ e.k.length ≤ 40 ∧ 0 ≤ e.o ∧ e.o ≤ 1048576 ∧ 1 ≤ e.l ∧ e.l ≤ 400 ∧ 1 ≤ e.q ∧ e.q ≤ 1099511627776 := by
  unfold eright; rw [decide_eq_true_iff]

/-- Its length, and whether it is gone, as one number. -/
def esz (l : Int) (g : Bool) : Nat := 2 * l.toNat + (if g = true then 1 else 0)

/-- An entry's bytes. -/
def eenc (e : Et) : List UInt8 := txt e.k ++ put e.o.toNat ++ put (esz e.l e.g) ++ put e.q

theorem esz_le {e : Et} (h : eright e = true) : esz e.l e.g ≤ 801 := by
  obtain ⟨h1, h2, h3, h4, h5, h6, h7, h8⟩ := (eright_iff e).1 h
  unfold esz; split <;> omega

theorem eenc_len {e : Et} (h : eright e = true) : 4 ≤ (eenc e).length ∧ (eenc e).length ≤ 80 := by
  obtain ⟨h1, h2, h3, h4, h5, h6, h7, h8⟩ := (eright_iff e).1 h
  have hs := esz_le h
  have a := txt_len (s := e.k) (by omega)
  have a1 := txt_pos e.k
  have b := put_ten (lt64 (n := e.o.toNat) (by omega))
  have b1 := put_pos e.o.toNat
  have c := put_ten (lt64 (n := esz e.l e.g) (by omega))
  have c1 := put_pos (esz e.l e.g)
  have d := put_ten (lt64 (n := e.q) (by omega))
  have d1 := put_pos e.q
  rw [eenc, List.length_append, List.length_append, List.length_append]
  omega

/-- All entries' bytes, one behind the other. -/
def eencs (l : List Et) : List UInt8 := l.flatMap eenc
theorem eencs_nil : eencs [] = [] := rfl
theorem eencs_cons (e : Et) (l : List Et) : eencs (e :: l) = eenc e ++ eencs l := by simp [eencs]
theorem eencs_snoc (l : List Et) (e : Et) : eencs (l ++ [e]) = eencs l ++ eenc e := by simp [eencs]

/-- May all be? -/
def erights (l : List Et) : Bool := l.all eright

theorem eencs_len : ∀ (l : List Et), erights l = true → (eencs l).length ≤ 80 * l.length
  | [], _ => by simp [eencs]
  | e :: l, h => by
    simp only [erights, List.all_cons, Bool.and_eq_true] at h
    have h1 := eenc_len h.1
    have h2 := eencs_len l h.2
    rw [eencs_cons, List.length_append, List.length_cons]
    omega

theorem erights_next {l : List Et} {k : Nat} (h : k < l.length) (hg : erights (l.take k) = true) (hr : eright l[k] = true) : erights (l.take (k + 1)) = true := by
  rw [List.take_succ_eq_append_getElem h, erights, List.all_append]
  rw [erights] at hg
  simp [hg, hr]
theorem erights_not {l : List Et} {k : Nat} (h : k < l.length) (hr : eright l[k] = false) : ¬ erights l = true := by
  intro hg
  rw [erights, List.all_eq_true] at hg
  have := hg l[k] (List.getElem_mem h)
  rw [hr] at this
  cases this

/-- An index's bytes, and the error. -/
def hbs (l : List Et) : List UInt8 × Nat := if l.length ≤ 2000 ∧ erights l = true then (seal4 (put l.length ++ eencs l), 0) else ([], 1)

theorem hbs_yes {l : List Et} (h : l.length ≤ 2000) (hr : erights l = true) : hbs l = (seal4 (put l.length ++ eencs l), 0) := by rw [hbs, if_pos ⟨h, hr⟩]
theorem hbs_many {l : List Et} (h : 2000 < l.length) : hbs l = ([], 1) := by rw [hbs, if_neg (by omega)]
theorem hbs_no {l : List Et} (h : ¬ erights l = true) : hbs l = ([], 1) := by rw [hbs, if_neg (fun q => h q.2)]

/-- A number that is at most so great, taken: where it fails, nothing is taken. -/
def nm (most : Nat) (s : List UInt8) : Nat × List UInt8 × Bool := if (tk s).2.2 ≠ 0 ∨ most < (tk s).1 then (0, s, false) else ((tk s).1, (tk s).2.1, true)

theorem nm_err {most : Nat} {s r : List UInt8} {n e : Nat} (h : tk s = (n, r, e)) (he : e ≠ 0) : nm most s = (0, s, false) := by rw [nm, h, if_pos (.inl he)]
theorem nm_big {most : Nat} {s r : List UInt8} {n : Nat} (h : tk s = (n, r, 0)) (hn : most < n) : nm most s = (0, s, false) := by rw [nm, h, if_pos (.inr hn)]
theorem nm_yes {most : Nat} {s r : List UInt8} {n : Nat} (h : tk s = (n, r, 0)) (hn : n ≤ most) : nm most s = (n, r, true) := by
  rw [nm, h, if_neg (by simp; omega)]

theorem nm_put {most n : Nat} (hn : n ≤ most) (hm : most < M64) (r : List UInt8) : nm most (put n ++ r) = (n, r, true) := nm_yes (tk_put (by omega) r) hn

theorem nm_le (most : Nat) (s : List UInt8) : (nm most s).1 ≤ most ∧ (nm most s).2.1.length ≤ s.length := by
  obtain ⟨n, r, e, h⟩ : ∃ n r e, tk s = (n, r, e) := ⟨_, _, _, rfl⟩
  by_cases he : e = 0
  · subst he
    by_cases hn : n ≤ most
    · rw [nm_yes h hn]
      rcases tk_cases s with ⟨q, _⟩ | q | ⟨n', r', q, _, hs⟩
      · rw [h] at q; simp at q
      · rw [h] at q; simp at q
      · rw [h] at q; simp at q; obtain ⟨rfl, rfl⟩ := q
        exact ⟨hn, by rw [hs]; simp⟩
    · rw [nm_big h (by omega)]; exact ⟨by simp, Nat.le_refl _⟩
  · rw [nm_err h he]; exact ⟨by simp, Nat.le_refl _⟩

theorem nm_ok {most n : Nat} {s r : List UInt8} (h : nm most s = (n, r, true)) : s = put n ++ r ∧ n ≤ most := by
  obtain ⟨n', r', e, ht⟩ : ∃ n r e, tk s = (n, r, e) := ⟨_, _, _, rfl⟩
  by_cases he : e = 0
  · subst he
    by_cases hn : n' ≤ most
    · rw [nm_yes ht hn] at h
      simp at h
      obtain ⟨rfl, rfl⟩ := h
      refine ⟨?_, hn⟩
      rcases tk_cases s with ⟨q, _⟩ | q | ⟨n'', r'', q, _, hs⟩
      · rw [ht] at q; simp at q
      · rw [ht] at q; simp at q
      · rw [ht] at q; simp at q; obtain ⟨rfl, rfl⟩ := q; exact hs
    · rw [nm_big ht (by omega)] at h; simp at h
  · rw [nm_err ht he] at h; simp at h

/-- An entry out of its parts. -/
def mk5 (k : List UInt8) (o z q : Nat) : Et := ⟨k, (o : Int), ((z / 2 : Nat) : Int), q, decide (z % 2 = 1)⟩

theorem mk5_of {e : Et} (h : eright e = true) : mk5 e.k e.o.toNat (esz e.l e.g) e.q = e := by
  obtain ⟨h1, h2, h3, h4, h5, h6, h7, h8⟩ := (eright_iff e).1 h
  refine Et.ext' rfl ?_ ?_ rfl ?_
  · show ((e.o.toNat : Nat) : Int) = e.o; omega
  · show ((esz e.l e.g / 2 : Nat) : Int) = e.l
    unfold esz; split <;> omega
  · show decide (esz e.l e.g % 2 = 1) = e.g
    unfold esz
    cases e.g
    · simp
    · simp

theorem esz_mk5 (k : List UInt8) (o z q : Nat) : esz (mk5 k o z q).l (mk5 k o z q).g = z := by
  show 2 * ((z / 2 : Nat) : Int).toNat + (if decide (z % 2 = 1) = true then 1 else 0) = z
  by_cases h : z % 2 = 1
  · rw [if_pos (by simpa using h)]; omega
  · rw [if_neg (by simpa using h)]; omega

/-- The entry that a row of bytes begins with, and what is behind it. -/
def e1 (s : List UInt8) : Option (Et × List UInt8) :=
  if (ot s).2.2 ≠ 0 then none
  else if (nm 1048576 (ot s).2.1).2.2 && (nm 801 (nm 1048576 (ot s).2.1).2.1).2.2 && (nm 1099511627776 (nm 801 (nm 1048576 (ot s).2.1).2.1).2.1).2.2 &&
      eright (mk5 (ot s).1 (nm 1048576 (ot s).2.1).1 (nm 801 (nm 1048576 (ot s).2.1).2.1).1 (nm 1099511627776 (nm 801 (nm 1048576 (ot s).2.1).2.1).2.1).1) then
    some (mk5 (ot s).1 (nm 1048576 (ot s).2.1).1 (nm 801 (nm 1048576 (ot s).2.1).2.1).1 (nm 1099511627776 (nm 801 (nm 1048576 (ot s).2.1).2.1).2.1).1, (nm 1099511627776 (nm 801 (nm 1048576 (ot s).2.1).2.1).2.1).2.1)
  else none

theorem e1_err {s k r : List UInt8} {e : Nat} (h : ot s = (k, r, e)) (he : e ≠ 0) : e1 s = none := by rw [e1, h, if_pos he]

theorem e1_of {s k r r2 r3 r4 : List UInt8} {o z q : Nat} {k1 k2 k3 : Bool} (h : ot s = (k, r, 0)) (h1 : nm 1048576 r = (o, r2, k1)) (h2 : nm 801 r2 = (z, r3, k2)) (h3 : nm 1099511627776 r3 = (q, r4, k3)) :
    e1 s = if k1 && k2 && k3 && eright (mk5 k o z q) then some (mk5 k o z q, r4) else none := by
  rw [e1, h, if_neg (by simp)]
  simp only [h1, h2, h3]

theorem e1_enc {e : Et} (h : eright e = true) (r : List UInt8) : e1 (eenc e ++ r) = some (e, r) := by
  obtain ⟨h1, h2, h3, h4, h5, h6, h7, h8⟩ := (eright_iff e).1 h
  have hs := esz_le h
  have a : ot (eenc e ++ r) = (e.k, put e.o.toNat ++ (put (esz e.l e.g) ++ (put e.q ++ r)), 0) := by
    rw [eenc, List.append_assoc, List.append_assoc, List.append_assoc]
    exact ot_txt (lt64 (by omega))
  rw [e1_of a (nm_put (by omega) (by unfold M64; omega) _) (nm_put hs (by unfold M64; omega) _) (nm_put h8 (by unfold M64; omega) _), mk5_of h, h]
  rfl

theorem e1_ok {s r : List UInt8} {e : Et} (h : e1 s = some (e, r)) : eright e = true ∧ s = eenc e ++ r := by
  obtain ⟨k, r1, er, ho⟩ : ∃ k r e, ot s = (k, r, e) := ⟨_, _, _, rfl⟩
  by_cases he : er = 0
  · subst he
    obtain ⟨o, r2, k1, h1⟩ : ∃ o r k, nm 1048576 r1 = (o, r, k) := ⟨_, _, _, rfl⟩
    obtain ⟨z, r3, k2, h2⟩ : ∃ o r k, nm 801 r2 = (o, r, k) := ⟨_, _, _, rfl⟩
    obtain ⟨q, r4, k3, h3⟩ : ∃ o r k, nm 1099511627776 r3 = (o, r, k) := ⟨_, _, _, rfl⟩
    rw [e1_of ho h1 h2 h3] at h
    by_cases hc : (k1 && k2 && k3 && eright (mk5 k o z q)) = true
    · rw [if_pos hc] at h
      simp only [Option.some.injEq, Prod.mk.injEq] at h
      obtain ⟨rfl, rfl⟩ := h
      simp only [Bool.and_eq_true] at hc
      obtain ⟨⟨⟨rfl, rfl⟩, rfl⟩, hr⟩ := hc
      refine ⟨hr, ?_⟩
      rw [eenc, esz_mk5, (ot_ok ho).1, (nm_ok h1).1, (nm_ok h2).1, (nm_ok h3).1]
      simp [mk5]
    · rw [if_neg hc] at h; cases h
  · rw [e1_err ho he] at h; cases h

/-- So many entries of a row of bytes, behind those so far, and what is behind them. -/
def entsF : Nat → List UInt8 → List Et → Option (List Et × List UInt8)
  | 0, s, acc => some (acc, s)
  | n + 1, s, acc => match e1 s with
    | none => none
    | some (e, r) => entsF n r (acc ++ [e])

theorem entsF_none {n : Nat} {s : List UInt8} {acc : List Et} (h : e1 s = none) : entsF (n + 1) s acc = none := by rw [entsF, h]
theorem entsF_some {n : Nat} {s r : List UInt8} {acc : List Et} {e : Et} (h : e1 s = some (e, r)) : entsF (n + 1) s acc = entsF n r (acc ++ [e]) := by rw [entsF, h]

theorem entsF_encs : ∀ (l : List Et) (r : List UInt8) (acc : List Et), erights l = true → entsF l.length (eencs l ++ r) acc = some (acc ++ l, r)
  | [], r, acc, _ => by simp [entsF, eencs]
  | e :: l, r, acc, h => by
    simp only [erights, List.all_cons, Bool.and_eq_true] at h
    rw [List.length_cons, eencs_cons, List.append_assoc, entsF_some (e1_enc h.1 _), entsF_encs l r _ h.2, List.append_assoc]
    rfl

theorem entsF_ok : ∀ (n : Nat) (s r : List UInt8) (acc l : List Et), entsF n s acc = some (l, r) → ∃ t, l = acc ++ t ∧ t.length = n ∧ erights t = true ∧ s = eencs t ++ r
  | 0, s, r, acc, l, h => by
    simp only [entsF, Option.some.injEq, Prod.mk.injEq] at h
    obtain ⟨rfl, rfl⟩ := h
    exact ⟨[], by simp, rfl, rfl, by simp [eencs]⟩
  | n + 1, s, r, acc, l, h => by
    cases he : e1 s with
    | none => rw [entsF_none he] at h; cases h
    | some p =>
      obtain ⟨e, r1⟩ := p
      rw [entsF_some he] at h
      obtain ⟨t, rfl, ht, hr, rfl⟩ := entsF_ok n _ _ _ _ h
      obtain ⟨hg, rfl⟩ := e1_ok he
      refine ⟨e :: t, by simp, by simp [ht], ?_, ?_⟩
      · simp only [erights, List.all_cons, Bool.and_eq_true]; exact ⟨hg, hr⟩
      · rw [eencs_cons, List.append_assoc]

/-- The entries of the contents of an index, if it is one. -/
def ents (c : List UInt8) : Option (List Et) :=
  if (nm 2000 c).2.2 = true then
    match entsF (nm 2000 c).1 (nm 2000 c).2.1 [] with
    | none => none
    | some (l, r) => if r = [] then some l else none
  else none

theorem ents_no {c r : List UInt8} {n : Nat} (h : nm 2000 c = (n, r, false)) : ents c = none := by rw [ents, h, if_neg (by simp)]
theorem ents_bad {c r : List UInt8} {n : Nat} (h : nm 2000 c = (n, r, true)) (h2 : entsF n r [] = none) : ents c = none := by
  rw [ents, h, if_pos rfl]
  simp only [h2]
theorem ents_of {c r s : List UInt8} {n : Nat} {l : List Et} (h : nm 2000 c = (n, r, true)) (h2 : entsF n r [] = some (l, s)) : ents c = if s = [] then some l else none := by
  rw [ents, h, if_pos rfl]
  simp only [h2]

theorem ents_iff (c : List UInt8) (l : List Et) : ents c = some l ↔ l.length ≤ 2000 ∧ erights l = true ∧ c = put l.length ++ eencs l := by
  constructor
  · intro h
    obtain ⟨n, r, k, hn⟩ : ∃ o r k, nm 2000 c = (o, r, k) := ⟨_, _, _, rfl⟩
    cases k with
    | false => rw [ents_no hn] at h; cases h
    | true =>
      cases he : entsF n r [] with
      | none => rw [ents_bad hn he] at h; cases h
      | some p =>
        obtain ⟨l', s⟩ := p
        rw [ents_of hn he] at h
        by_cases hs : s = []
        · rw [if_pos hs] at h
          cases h
          subst hs
          obtain ⟨t, rfl, ht, hr, hq⟩ := entsF_ok _ _ _ _ _ he
          obtain ⟨hc, hl⟩ := nm_ok hn
          exact ⟨by omega, hr, by rw [hc, hq, ht, List.append_nil]⟩
        · rw [if_neg hs] at h; cases h
  · rintro ⟨hl, hr, rfl⟩
    have h2 := entsF_encs l [] [] hr
    rw [List.append_nil, List.nil_append] at h2
    rw [ents_of (nm_put hl (by unfold M64; omega) _) h2, if_pos rfl]

/-- The entries of a row of bytes, and the error. -/
def hrd (b : List UInt8) : List Et × Nat :=
  if (opn b).2 = false then ([], 4)
  else match ents (opn b).1 with
    | none => ([], 2)
    | some l => (l, 0)

theorem hrd_sum {b c : List UInt8} (h : opn b = (c, false)) : hrd b = ([], 4) := by rw [hrd, h, if_pos rfl]
theorem hrd_form {b c : List UInt8} (h : opn b = (c, true)) (h2 : ents c = none) : hrd b = ([], 2) := by
  rw [hrd, h, if_neg (by simp)]
  simp only [h2]
theorem hrd_yes {b c : List UInt8} {l : List Et} (h : opn b = (c, true)) (h2 : ents c = some l) : hrd b = (l, 0) := by
  rw [hrd, h, if_neg (by simp)]
  simp only [h2]

theorem opn_ok {b c : List UInt8} (h : opn b = (c, true)) : b = seal4 c := by
  by_cases hl : b.length < 4
  · rw [opn_short hl] at h; simp at h
  · by_cases he : four (sum (b.drop 4)) = b.take 4
    · rw [opn_yes hl he] at h
      simp at h
      subst h
      rw [seal4, he, List.take_append_drop]
    · rw [opn_no hl he] at h; simp at h

/-- What was laid is read. -/
theorem hrd_hbs {l : List Et} {x : List UInt8} (h : hbs l = (x, 0)) : hrd x = (l, 0) := by
  by_cases hc : l.length ≤ 2000 ∧ erights l = true
  · rw [hbs_yes hc.1 hc.2] at h
    simp at h
    subst h
    exact hrd_yes (opn_seal _) ((ents_iff _ l).2 ⟨hc.1, hc.2, rfl⟩)
  · rw [hbs, if_neg hc] at h; simp at h

/-- What is read has just these bytes. -/
theorem hbs_hrd {b : List UInt8} {l : List Et} (h : hrd b = (l, 0)) : hbs l = (b, 0) := by
  obtain ⟨c, ok, ho⟩ : ∃ c ok, opn b = (c, ok) := ⟨_, _, rfl⟩
  cases ok with
  | false => rw [hrd_sum ho] at h; simp at h
  | true =>
    cases he : ents c with
    | none => rw [hrd_form ho he] at h; simp at h
    | some m =>
      rw [hrd_yes ho he] at h
      simp at h
      subst h
      obtain ⟨h1, h2, h3⟩ := (ents_iff c m).1 he
      rw [hbs_yes h1 h2, ← h3, ← opn_ok ho]

theorem hrd_cases (b : List UInt8) : (∃ e, e ≠ 0 ∧ e ≤ 4 ∧ hrd b = ([], e)) ∨ ∃ l, hrd b = (l, 0) ∧ l.length ≤ 2000 ∧ erights l = true := by
  obtain ⟨c, ok, ho⟩ : ∃ c ok, opn b = (c, ok) := ⟨_, _, rfl⟩
  cases ok with
  | false => exact .inl ⟨4, by omega, by omega, hrd_sum ho⟩
  | true =>
    cases he : ents c with
    | none => exact .inl ⟨2, by omega, by omega, hrd_form ho he⟩
    | some m =>
      obtain ⟨h1, h2, _⟩ := (ents_iff c m).1 he
      exact .inr ⟨m, hrd_yes ho he, h1, h2⟩

/-- An entry for what it may be: the document's own reading. -/
def x1 (s : List UInt8) : Option (Et × List UInt8) :=
  if (ot s).2.2 = 0 ∧ (tk (ot s).2.1).2.2 = 0 ∧ (tk (tk (ot s).2.1).2.1).2.2 = 0 ∧ (tk (tk (tk (ot s).2.1).2.1).2.1).2.2 = 0 ∧ (tk (ot s).2.1).1 ≤ 1048576 ∧ (tk (tk (ot s).2.1).2.1).1 ≤ 1000 then
    some (mk5 (ot s).1 (tk (ot s).2.1).1 (tk (tk (ot s).2.1).2.1).1 (tk (tk (tk (ot s).2.1).2.1).2.1).1, (tk (tk (tk (ot s).2.1).2.1).2.1).2.1)
  else none

theorem x1_of {s k r r2 r3 r4 : List UInt8} {o z q e1 e2 e3 e4 : Nat} (h : ot s = (k, r, e1)) (h1 : tk r = (o, r2, e2)) (h2 : tk r2 = (z, r3, e3)) (h3 : tk r3 = (q, r4, e4)) :
    x1 s = if e1 = 0 ∧ e2 = 0 ∧ e3 = 0 ∧ e4 = 0 ∧ o ≤ 1048576 ∧ z ≤ 1000 then some (mk5 k o z q, r4) else none := by
  rw [x1, h]
  simp only [h1, h2, h3]

theorem x1_enc {e : Et} (h : eright e = true) (r : List UInt8) : x1 (eenc e ++ r) = some (e, r) := by
  obtain ⟨h1, h2, h3, h4, h5, h6, h7, h8⟩ := (eright_iff e).1 h
  have hs := esz_le h
  have a : ot (eenc e ++ r) = (e.k, put e.o.toNat ++ (put (esz e.l e.g) ++ (put e.q ++ r)), 0) := by
    rw [eenc, List.append_assoc, List.append_assoc, List.append_assoc]
    exact ot_txt (lt64 (by omega))
  rw [x1_of a (tk_put (lt64 (by omega)) _) (tk_put (lt64 (by omega)) _) (tk_put (lt64 (by omega)) _), mk5_of h, if_pos (by omega)]

/-- All entries of a row of bytes, for what they may be, behind those so far. -/
def xF : Nat → List UInt8 → List Et → Option (List Et)
  | 0, _, acc => some acc
  | n + 1, s, acc => if s = [] then some acc else match x1 s with
    | none => none
    | some (e, r) => xF n r (acc ++ [e])

theorem xF_nil (n : Nat) (acc : List Et) : xF (n + 1) [] acc = some acc := by rw [xF, if_pos rfl]
theorem xF_none {n : Nat} {s : List UInt8} {acc : List Et} (hs : s ≠ []) (h : x1 s = none) : xF (n + 1) s acc = none := by rw [xF, if_neg hs, h]
theorem xF_some {n : Nat} {s r : List UInt8} {acc : List Et} {e : Et} (hs : s ≠ []) (h : x1 s = some (e, r)) : xF (n + 1) s acc = xF n r (acc ++ [e]) := by rw [xF, if_neg hs, h]

theorem xF_encs : ∀ (l : List Et) (n : Nat) (acc : List Et), erights l = true → (eencs l).length < n → xF n (eencs l) acc = some (acc ++ l)
  | [], n, acc, _, hn => by
    obtain ⟨m, rfl⟩ : ∃ m, n = m + 1 := ⟨n - 1, by omega⟩
    rw [eencs_nil, xF_nil, List.append_nil]
  | e :: l, n, acc, h, hn => by
    simp only [erights, List.all_cons, Bool.and_eq_true] at h
    have h1 := eenc_len h.1
    obtain ⟨m, rfl⟩ : ∃ m, n = m + 1 := ⟨n - 1, by omega⟩
    rw [eencs_cons] at hn ⊢
    rw [List.length_append] at hn
    have hne : eenc e ++ eencs l ≠ [] := fun q => by
      have := congrArg List.length q
      rw [List.length_append, List.length_nil] at this
      omega
    rw [xF_some hne (x1_enc h.1 _), xF_encs l m (acc ++ [e]) h.2 (by omega), List.append_assoc]
    rfl

/-- What the document's own reading comes to is the same. -/
theorem ref_sum {b c : List UInt8} (h : opn b = (c, false)) : hrd b = ([], 4) := hrd_sum h
theorem ref_first {b c r : List UInt8} {n e : Nat} (h : opn b = (c, true)) (h2 : tk c = (n, r, e)) (he : e ≠ 0) : hrd b = ([], 2) :=
  hrd_form h (ents_no (nm_err h2 he))
theorem ref_bad {b c r : List UInt8} {n : Nat} (h : opn b = (c, true)) (h2 : tk c = (n, r, 0)) (hx : xF (r.length + 1) r [] = none) : hrd b = ([], 2) := by
  cases he : ents c with
  | none => exact hrd_form h he
  | some l =>
    obtain ⟨h1, h3, h4⟩ := (ents_iff c l).1 he
    rw [h4, tk_put (lt64 (by omega)) _] at h2
    simp only [Prod.mk.injEq, and_true] at h2
    rw [← h2.2, xF_encs l _ [] h3 (by omega)] at hx
    cases hx
theorem ref_end {b c r : List UInt8} {n : Nat} {l : List Et} (h : opn b = (c, true)) (h2 : tk c = (n, r, 0)) (hx : xF (r.length + 1) r [] = some l) : hrd b = if hbs l = (b, 0) then (l, 0) else ([], 2) := by
  by_cases hb : hbs l = (b, 0)
  · rw [if_pos hb]; exact hrd_hbs hb
  · rw [if_neg hb]
    cases he : ents c with
    | none => exact hrd_form h he
    | some m =>
      obtain ⟨h1, h3, h4⟩ := (ents_iff c m).1 he
      have h5 := h2
      rw [h4, tk_put (lt64 (by omega)) _] at h5
      simp only [Prod.mk.injEq, and_true] at h5
      rw [← h5.2, xF_encs m _ [] h3 (by omega)] at hx
      cases hx
      exact absurd (hbs_hrd (hrd_yes h he)) (by simpa using hb)

end Go.Proofs.Ytdifecclldkhpaa
