/- Merged out of 15 texts, in build order: Hmath, Hplace, Hvalid, Henc, Hbytes, Hnum, Hents, Hread, Hof, Hto, Hrefof, Hat, Hrefat, Hopens, Hawake. -/
import Derived.Test.YtmekkbhblghbmaaGreatDoorFb
import Derived.Test.YtmekkbhblghbmaaGreatDoorRb
import Derived.Test.YtmekkbhblghbmaaGreatDoorCb
import Derived.Deep.AppendLies
import Derived.Deep.QuietTactic
import Derived.BigQuiet

/- Plain facts on indexes of segments as rows of bytes: what an entry's bytes are, what a row of bytes begins with, that they undo one another, which entries a segment has, and the record that an entry tells of. Nothing of the program is used here. -/
namespace Go.Proofs.YtmekkbhblghbmaaGreatDoor

/-- An entry: key, place, how many bytes, number, is it gone? -/
structure Et where
  k : List UInt8
  o : Int
  l : Int
  q : Nat
  g : Bool

theorem Et.ext' {a b : Et} (h1 : a.k = b.k) (h2 : a.o = b.o) (h3 : a.l = b.l) (h4 : a.q = b.q) (h5 : a.g = b.g) : a = b := by
  cases a; cases b; simp_all

/-- May an entry be? -/
def eright (e : Et) : Bool := decide (1 ≤ e.k.length ∧ e.k.length ≤ 40 ∧ 0 ≤ e.o ∧ e.o ≤ 1048576 ∧ 1 ≤ e.l ∧ e.l ≤ 400 ∧ 1 ≤ e.q ∧ e.q ≤ 1099511627776)

theorem eright_iff (e : Et) : eright e = true ↔ 1 ≤ e.k.length ∧ e.k.length ≤ 40 ∧ 0 ≤ e.o ∧ e.o ≤ 1048576 ∧ 1 ≤ e.l ∧ e.l ≤ 400 ∧ 1 ≤ e.q ∧ e.q ≤ 1099511627776 := by
  unfold eright; rw [decide_eq_true_iff]

/-- Its length, and whether it is gone, as one number. -/
def esz (l : Int) (g : Bool) : Nat := 2 * l.toNat + (if g = true then 1 else 0)

/-- An entry's bytes. -/
def eenc (e : Et) : List UInt8 := txt e.k ++ put e.o.toNat ++ put (esz e.l e.g) ++ put e.q

theorem esz_le {e : Et} (h : eright e = true) : esz e.l e.g ≤ 801 := by
  obtain ⟨h1, h2, h3, h4, h5, h6, h7, h8⟩ := (eright_iff e).1 h
  unfold esz; split <;> omega

theorem eenc_len {e : Et} (h : eright e = true) : 4 ≤ (eenc e).length ∧ (eenc e).length ≤ 80 := by
  obtain ⟨h1, h2, h3, h4, h5, h6, h7, h8⟩ := (eright_iff e).1 h
  have hs := esz_le h
  have a := txt_len (s := e.k) (by omega)
  have a1 := txt_pos e.k
  have b := put_ten (lt64 (n := e.o.toNat) (by omega))
  have b1 := put_pos e.o.toNat
  have c := put_ten (lt64 (n := esz e.l e.g) (by omega))
  have c1 := put_pos (esz e.l e.g)
  have d := put_ten (lt64 (n := e.q) (by omega))
  have d1 := put_pos e.q
  rw [eenc, List.length_append, List.length_append, List.length_append]
  omega

/-- All entries' bytes, one behind the other. -/
def eencs (l : List Et) : List UInt8 := l.flatMap eenc
theorem eencs_nil : eencs [] = [] := rfl
theorem eencs_cons (e : Et) (l : List Et) : eencs (e :: l) = eenc e ++ eencs l := by simp [eencs]
theorem eencs_snoc (l : List Et) (e : Et) : eencs (l ++ [e]) = eencs l ++ eenc e := by simp [eencs]

/-- May all be? -/
def erights (l : List Et) : Bool := l.all eright

theorem eencs_len : ∀ (l : List Et), erights l = true → (eencs l).length ≤ 80 * l.length
  | [], _ => by simp [eencs]
  | e :: l, h => by
    simp only [erights, List.all_cons, Bool.and_eq_true] at h
    have h1 := eenc_len h.1
    have h2 := eencs_len l h.2
    rw [eencs_cons, List.length_append, List.length_cons]
    omega

theorem erights_next {l : List Et} {k : Nat} (h : k < l.length) (hg : erights (l.take k) = true) (hr : eright l[k] = true) : erights (l.take (k + 1)) = true := by
  rw [List.take_succ_eq_append_getElem h, erights, List.all_append]
  rw [erights] at hg
  simp [hg, hr]
theorem erights_not {l : List Et} {k : Nat} (h : k < l.length) (hr : eright l[k] = false) : ¬ erights l = true := by
  intro hg
  rw [erights, List.all_eq_true] at hg
  have := hg l[k] (List.getElem_mem h)
  rw [hr] at this
  cases this

/-- An index's bytes, and the error. -/
def hbs (l : List Et) : List UInt8 × Nat := if l.length ≤ 2000 ∧ erights l = true then (seal4 (put l.length ++ eencs l), 0) else ([], 1)

theorem hbs_yes {l : List Et} (h : l.length ≤ 2000) (hr : erights l = true) : hbs l = (seal4 (put l.length ++ eencs l), 0) := by rw [hbs, if_pos ⟨h, hr⟩]
theorem hbs_many {l : List Et} (h : 2000 < l.length) : hbs l = ([], 1) := by rw [hbs, if_neg (by omega)]
theorem hbs_no {l : List Et} (h : ¬ erights l = true) : hbs l = ([], 1) := by rw [hbs, if_neg (fun q => h q.2)]

/-- A number that is at most so great, taken: where it fails, nothing is taken. -/
def nm (most : Nat) (s : List UInt8) : Nat × List UInt8 × Bool := if (tk s).2.2 ≠ 0 ∨ most < (tk s).1 then (0, s, false) else ((tk s).1, (tk s).2.1, true)

theorem nm_err {most : Nat} {s r : List UInt8} {n e : Nat} (h : tk s = (n, r, e)) (he : e ≠ 0) : nm most s = (0, s, false) := by rw [nm, h, if_pos (.inl he)]
theorem nm_big {most : Nat} {s r : List UInt8} {n : Nat} (h : tk s = (n, r, 0)) (hn : most < n) : nm most s = (0, s, false) := by rw [nm, h, if_pos (.inr hn)]
theorem nm_yes {most : Nat} {s r : List UInt8} {n : Nat} (h : tk s = (n, r, 0)) (hn : n ≤ most) : nm most s = (n, r, true) := by
  rw [nm, h, if_neg (by simp; omega)]

theorem nm_put {most n : Nat} (hn : n ≤ most) (hm : most < M64) (r : List UInt8) : nm most (put n ++ r) = (n, r, true) := nm_yes (tk_put (by omega) r) hn

theorem nm_le (most : Nat) (s : List UInt8) : (nm most s).1 ≤ most ∧ (nm most s).2.1.length ≤ s.length := by
  obtain ⟨n, r, e, h⟩ : ∃ n r e, tk s = (n, r, e) := ⟨_, _, _, rfl⟩
  by_cases he : e = 0
  · subst he
    by_cases hn : n ≤ most
    · rw [nm_yes h hn]
      rcases tk_cases s with ⟨q, _⟩ | q | ⟨n', r', q, _, hs⟩
      · rw [h] at q; simp at q
      · rw [h] at q; simp at q
      · rw [h] at q; simp at q; obtain ⟨rfl, rfl⟩ := q
        exact ⟨hn, by rw [hs]; simp⟩
    · rw [nm_big h (by omega)]; exact ⟨by simp, Nat.le_refl _⟩
  · rw [nm_err h he]; exact ⟨by simp, Nat.le_refl _⟩

theorem nm_ok {most n : Nat} {s r : List UInt8} (h : nm most s = (n, r, true)) : s = put n ++ r ∧ n ≤ most := by
  obtain ⟨n', r', e, ht⟩ : ∃ n r e, tk s = (n, r, e) := ⟨_, _, _, rfl⟩
  by_cases he : e = 0
  · subst he
    by_cases hn : n' ≤ most
    · rw [nm_yes ht hn] at h
      simp at h
      obtain ⟨rfl, rfl⟩ := h
      refine ⟨?_, hn⟩
      rcases tk_cases s with ⟨q, _⟩ | q | ⟨n'', r'', q, _, hs⟩
      · rw [ht] at q; simp at q
      · rw [ht] at q; simp at q
      · rw [ht] at q; simp at q; obtain ⟨rfl, rfl⟩ := q; exact hs
    · rw [nm_big ht (by omega)] at h; simp at h
  · rw [nm_err ht he] at h; simp at h

/-- An entry out of its parts. -/
def mk5 (k : List UInt8) (o z q : Nat) : Et := ⟨k, (o : Int), ((z / 2 : Nat) : Int), q, decide (z % 2 = 1)⟩

theorem mk5_of {e : Et} (h : eright e = true) : mk5 e.k e.o.toNat (esz e.l e.g) e.q = e := by
  obtain ⟨h1, h2, h3, h4, h5, h6, h7, h8⟩ := (eright_iff e).1 h
  refine Et.ext' rfl ?_ ?_ rfl ?_
  · show ((e.o.toNat : Nat) : Int) = e.o; omega
  · show ((esz e.l e.g / 2 : Nat) : Int) = e.l
    unfold esz; split <;> omega
  · show decide (esz e.l e.g % 2 = 1) = e.g
    unfold esz
    cases e.g
    · simp
    · simp

theorem esz_mk5 (k : List UInt8) (o z q : Nat) : esz (mk5 k o z q).l (mk5 k o z q).g = z := by
  show 2 * ((z / 2 : Nat) : Int).toNat + (if decide (z % 2 = 1) = true then 1 else 0) = z
  by_cases h : z % 2 = 1
  · rw [if_pos (by simpa using h)]; omega
  · rw [if_neg (by simpa using h)]; omega

/-- The entry that a row of bytes begins with, and what is behind it. -/
def e1 (s : List UInt8) : Option (Et × List UInt8) :=
  if (ot s).2.2 ≠ 0 then none
  else if (nm 1048576 (ot s).2.1).2.2 && (nm 801 (nm 1048576 (ot s).2.1).2.1).2.2 && (nm 1099511627776 (nm 801 (nm 1048576 (ot s).2.1).2.1).2.1).2.2 &&
      eright (mk5 (ot s).1 (nm 1048576 (ot s).2.1).1 (nm 801 (nm 1048576 (ot s).2.1).2.1).1 (nm 1099511627776 (nm 801 (nm 1048576 (ot s).2.1).2.1).2.1).1) then
    some (mk5 (ot s).1 (nm 1048576 (ot s).2.1).1 (nm 801 (nm 1048576 (ot s).2.1).2.1).1 (nm 1099511627776 (nm 801 (nm 1048576 (ot s).2.1).2.1).2.1).1, (nm 1099511627776 (nm 801 (nm 1048576 (ot s).2.1).2.1).2.1).2.1)
  else none

theorem e1_err {s k r : List UInt8} {e : Nat} (h : ot s = (k, r, e)) (he : e ≠ 0) : e1 s = none := by rw [e1, h, if_pos he]

theorem e1_of {s k r r2 r3 r4 : List UInt8} {o z q : Nat} {k1 k2 k3 : Bool} (h : ot s = (k, r, 0)) (h1 : nm 1048576 r = (o, r2, k1)) (h2 : nm 801 r2 = (z, r3, k2)) (h3 : nm 1099511627776 r3 = (q, r4, k3)) :
    e1 s = if k1 && k2 && k3 && eright (mk5 k o z q) then some (mk5 k o z q, r4) else none := by
  rw [e1, h, if_neg (by simp)]
  simp only [h1, h2, h3]

theorem e1_enc {e : Et} (h : eright e = true) (r : List UInt8) : e1 (eenc e ++ r) = some (e, r) := by
  obtain ⟨h1, h2, h3, h4, h5, h6, h7, h8⟩ := (eright_iff e).1 h
  have hs := esz_le h
  have a : ot (eenc e ++ r) = (e.k, put e.o.toNat ++ (put (esz e.l e.g) ++ (put e.q ++ r)), 0) := by
    rw [eenc, List.append_assoc, List.append_assoc, List.append_assoc]
    exact ot_txt (lt64 (by omega))
  rw [e1_of a (nm_put (by omega) (by unfold M64; omega) _) (nm_put hs (by unfold M64; omega) _) (nm_put h8 (by unfold M64; omega) _), mk5_of h, h]
  rfl

theorem e1_ok {s r : List UInt8} {e : Et} (h : e1 s = some (e, r)) : eright e = true ∧ s = eenc e ++ r := by
  obtain ⟨k, r1, er, ho⟩ : ∃ k r e, ot s = (k, r, e) := ⟨_, _, _, rfl⟩
  by_cases he : er = 0
  · subst he
    obtain ⟨o, r2, k1, h1⟩ : ∃ o r k, nm 1048576 r1 = (o, r, k) := ⟨_, _, _, rfl⟩
    obtain ⟨z, r3, k2, h2⟩ : ∃ o r k, nm 801 r2 = (o, r, k) := ⟨_, _, _, rfl⟩
    obtain ⟨q, r4, k3, h3⟩ : ∃ o r k, nm 1099511627776 r3 = (o, r, k) := ⟨_, _, _, rfl⟩
    rw [e1_of ho h1 h2 h3] at h
    by_cases hc : (k1 && k2 && k3 && eright (mk5 k o z q)) = true
    · rw [if_pos hc] at h
      simp only [Option.some.injEq, Prod.mk.injEq] at h
      obtain ⟨rfl, rfl⟩ := h
      simp only [Bool.and_eq_true] at hc
      obtain ⟨⟨⟨rfl, rfl⟩, rfl⟩, hr⟩ := hc
      refine ⟨hr, ?_⟩
      rw [eenc, esz_mk5, (ot_ok ho).1, (nm_ok h1).1, (nm_ok h2).1, (nm_ok h3).1]
      simp [mk5]
    · rw [if_neg hc] at h; cases h
  · rw [e1_err ho he] at h; cases h

/-- So many entries of a row of bytes, behind those so far, and what is behind them. -/
def entsF : Nat → List UInt8 → List Et → Option (List Et × List UInt8)
  | 0, s, acc => some (acc, s)
  | n + 1, s, acc => match e1 s with
    | none => none
    | some (e, r) => entsF n r (acc ++ [e])

theorem entsF_none {n : Nat} {s : List UInt8} {acc : List Et} (h : e1 s = none) : entsF (n + 1) s acc = none := by rw [entsF, h]
theorem entsF_some {n : Nat} {s r : List UInt8} {acc : List Et} {e : Et} (h : e1 s = some (e, r)) : entsF (n + 1) s acc = entsF n r (acc ++ [e]) := by rw [entsF, h]

theorem entsF_encs : ∀ (l : List Et) (r : List UInt8) (acc : List Et), erights l = true → entsF l.length (eencs l ++ r) acc = some (acc ++ l, r)
  | [], r, acc, _ => by simp [entsF, eencs]
  | e :: l, r, acc, h => by
    simp only [erights, List.all_cons, Bool.and_eq_true] at h
    rw [List.length_cons, eencs_cons, List.append_assoc, entsF_some (e1_enc h.1 _), entsF_encs l r _ h.2, List.append_assoc]
    rfl

theorem entsF_ok : ∀ (n : Nat) (s r : List UInt8) (acc l : List Et), entsF n s acc = some (l, r) → ∃ t, l = acc ++ t ∧ t.length = n ∧ erights t = true ∧ s = eencs t ++ r
  | 0, s, r, acc, l, h => by
    simp only [entsF, Option.some.injEq, Prod.mk.injEq] at h
    obtain ⟨rfl, rfl⟩ := h
    exact ⟨[], by simp, rfl, rfl, by simp [eencs]⟩
  | n + 1, s, r, acc, l, h => by
    cases he : e1 s with
    | none => rw [entsF_none he] at h; cases h
    | some p =>
      obtain ⟨e, r1⟩ := p
      rw [entsF_some he] at h
      obtain ⟨t, rfl, ht, hr, rfl⟩ := entsF_ok n _ _ _ _ h
      obtain ⟨hg, rfl⟩ := e1_ok he
      refine ⟨e :: t, by simp, by simp [ht], ?_, ?_⟩
      · simp only [erights, List.all_cons, Bool.and_eq_true]; exact ⟨hg, hr⟩
      · rw [eencs_cons, List.append_assoc]

/-- The entries of the contents of an index, if it is one. -/
def ents (c : List UInt8) : Option (List Et) :=
  if (nm 2000 c).2.2 = true then
    match entsF (nm 2000 c).1 (nm 2000 c).2.1 [] with
    | none => none
    | some (l, r) => if r = [] then some l else none
  else none

theorem ents_no {c r : List UInt8} {n : Nat} (h : nm 2000 c = (n, r, false)) : ents c = none := by rw [ents, h, if_neg (by simp)]
theorem ents_bad {c r : List UInt8} {n : Nat} (h : nm 2000 c = (n, r, true)) (h2 : entsF n r [] = none) : ents c = none := by
  rw [ents, h, if_pos rfl]
  simp only [h2]
theorem ents_of {c r s : List UInt8} {n : Nat} {l : List Et} (h : nm 2000 c = (n, r, true)) (h2 : entsF n r [] = some (l, s)) : ents c = if s = [] then some l else none := by
  rw [ents, h, if_pos rfl]
  simp only [h2]

theorem ents_iff (c : List UInt8) (l : List Et) : ents c = some l ↔ l.length ≤ 2000 ∧ erights l = true ∧ c = put l.length ++ eencs l := by
  constructor
  · intro h
    obtain ⟨n, r, k, hn⟩ : ∃ o r k, nm 2000 c = (o, r, k) := ⟨_, _, _, rfl⟩
    cases k with
    | false => rw [ents_no hn] at h; cases h
    | true =>
      cases he : entsF n r [] with
      | none => rw [ents_bad hn he] at h; cases h
      | some p =>
        obtain ⟨l', s⟩ := p
        rw [ents_of hn he] at h
        by_cases hs : s = []
        · rw [if_pos hs] at h
          cases h
          subst hs
          obtain ⟨t, rfl, ht, hr, hq⟩ := entsF_ok _ _ _ _ _ he
          obtain ⟨hc, hl⟩ := nm_ok hn
          exact ⟨by omega, hr, by rw [hc, hq, ht, List.append_nil]⟩
        · rw [if_neg hs] at h; cases h
  · rintro ⟨hl, hr, rfl⟩
    have h2 := entsF_encs l [] [] hr
    rw [List.append_nil, List.nil_append] at h2
    rw [ents_of (nm_put hl (by unfold M64; omega) _) h2, if_pos rfl]

/-- The entries of a row of bytes, and the error. -/
def hrd (b : List UInt8) : List Et × Nat :=
  if (opn b).2 = false then ([], 4)
  else match ents (opn b).1 with
    | none => ([], 2)
    | some l => (l, 0)

theorem hrd_sum {b c : List UInt8} (h : opn b = (c, false)) : hrd b = ([], 4) := by rw [hrd, h, if_pos rfl]
theorem hrd_form {b c : List UInt8} (h : opn b = (c, true)) (h2 : ents c = none) : hrd b = ([], 2) := by
  rw [hrd, h, if_neg (by simp)]
  simp only [h2]
theorem hrd_yes {b c : List UInt8} {l : List Et} (h : opn b = (c, true)) (h2 : ents c = some l) : hrd b = (l, 0) := by
  rw [hrd, h, if_neg (by simp)]
  simp only [h2]

theorem opn_ok {b c : List UInt8} (h : opn b = (c, true)) : b = seal4 c := by
  by_cases hl : b.length < 4
  · rw [opn_short hl] at h; simp at h
  · by_cases he : four (sum (b.drop 4)) = b.take 4
    · rw [opn_yes hl he] at h
      simp at h
      subst h
      rw [seal4, he, List.take_append_drop]
    · rw [opn_no hl he] at h; simp at h

/-- What was laid is read. -/
theorem hrd_hbs {l : List Et} {x : List UInt8} (h : hbs l = (x, 0)) : hrd x = (l, 0) := by
  by_cases hc : l.length ≤ 2000 ∧ erights l = true
  · rw [hbs_yes hc.1 hc.2] at h
    simp at h
    subst h
    exact hrd_yes (opn_seal _) ((ents_iff _ l).2 ⟨hc.1, hc.2, rfl⟩)
  · rw [hbs, if_neg hc] at h; simp at h

/-- What is read has just these bytes. -/
theorem hbs_hrd {b : List UInt8} {l : List Et} (h : hrd b = (l, 0)) : hbs l = (b, 0) := by
  obtain ⟨c, ok, ho⟩ : ∃ c ok, opn b = (c, ok) := ⟨_, _, rfl⟩
  cases ok with
  | false => rw [hrd_sum ho] at h; simp at h
  | true =>
    cases he : ents c with
    | none => rw [hrd_form ho he] at h; simp at h
    | some m =>
      rw [hrd_yes ho he] at h
      simp at h
      subst h
      obtain ⟨h1, h2, h3⟩ := (ents_iff c m).1 he
      rw [hbs_yes h1 h2, ← h3, ← opn_ok ho]

theorem hrd_cases (b : List UInt8) : (∃ e, e ≠ 0 ∧ e ≤ 4 ∧ hrd b = ([], e)) ∨ ∃ l, hrd b = (l, 0) ∧ l.length ≤ 2000 ∧ erights l = true := by
  obtain ⟨c, ok, ho⟩ : ∃ c ok, opn b = (c, ok) := ⟨_, _, rfl⟩
  cases ok with
  | false => exact .inl ⟨4, by omega, by omega, hrd_sum ho⟩
  | true =>
    cases he : ents c with
    | none => exact .inl ⟨2, by omega, by omega, hrd_form ho he⟩
    | some m =>
      obtain ⟨h1, h2, _⟩ := (ents_iff c m).1 he
      exact .inr ⟨m, hrd_yes ho he, h1, h2⟩

/-- An entry for what it may be: the document's own reading. -/
def x1 (s : List UInt8) : Option (Et × List UInt8) :=
  if (ot s).2.2 = 0 ∧ (tk (ot s).2.1).2.2 = 0 ∧ (tk (tk (ot s).2.1).2.1).2.2 = 0 ∧ (tk (tk (tk (ot s).2.1).2.1).2.1).2.2 = 0 ∧ (tk (ot s).2.1).1 ≤ 1048576 ∧ (tk (tk (ot s).2.1).2.1).1 ≤ 1000 then
    some (mk5 (ot s).1 (tk (ot s).2.1).1 (tk (tk (ot s).2.1).2.1).1 (tk (tk (tk (ot s).2.1).2.1).2.1).1, (tk (tk (tk (ot s).2.1).2.1).2.1).2.1)
  else none

theorem x1_of {s k r r2 r3 r4 : List UInt8} {o z q e1 e2 e3 e4 : Nat} (h : ot s = (k, r, e1)) (h1 : tk r = (o, r2, e2)) (h2 : tk r2 = (z, r3, e3)) (h3 : tk r3 = (q, r4, e4)) :
    x1 s = if e1 = 0 ∧ e2 = 0 ∧ e3 = 0 ∧ e4 = 0 ∧ o ≤ 1048576 ∧ z ≤ 1000 then some (mk5 k o z q, r4) else none := by
  rw [x1, h]
  simp only [h1, h2, h3]

theorem x1_enc {e : Et} (h : eright e = true) (r : List UInt8) : x1 (eenc e ++ r) = some (e, r) := by
  obtain ⟨h1, h2, h3, h4, h5, h6, h7, h8⟩ := (eright_iff e).1 h
  have hs := esz_le h
  have a : ot (eenc e ++ r) = (e.k, put e.o.toNat ++ (put (esz e.l e.g) ++ (put e.q ++ r)), 0) := by
    rw [eenc, List.append_assoc, List.append_assoc, List.append_assoc]
    exact ot_txt (lt64 (by omega))
  rw [x1_of a (tk_put (lt64 (by omega)) _) (tk_put (lt64 (by omega)) _) (tk_put (lt64 (by omega)) _), mk5_of h, if_pos (by omega)]

/-- All entries of a row of bytes, for what they may be, behind those so far. -/
def xF : Nat → List UInt8 → List Et → Option (List Et)
  | 0, _, acc => some acc
  | n + 1, s, acc => if s = [] then some acc else match x1 s with
    | none => none
    | some (e, r) => xF n r (acc ++ [e])

theorem xF_nil (n : Nat) (acc : List Et) : xF (n + 1) [] acc = some acc := by rw [xF, if_pos rfl]
theorem xF_none {n : Nat} {s : List UInt8} {acc : List Et} (hs : s ≠ []) (h : x1 s = none) : xF (n + 1) s acc = none := by rw [xF, if_neg hs, h]
theorem xF_some {n : Nat} {s r : List UInt8} {acc : List Et} {e : Et} (hs : s ≠ []) (h : x1 s = some (e, r)) : xF (n + 1) s acc = xF n r (acc ++ [e]) := by rw [xF, if_neg hs, h]

theorem xF_encs : ∀ (l : List Et) (n : Nat) (acc : List Et), erights l = true → (eencs l).length < n → xF n (eencs l) acc = some (acc ++ l)
  | [], n, acc, _, hn => by
    obtain ⟨m, rfl⟩ : ∃ m, n = m + 1 := ⟨n - 1, by omega⟩
    rw [eencs_nil, xF_nil, List.append_nil]
  | e :: l, n, acc, h, hn => by
    simp only [erights, List.all_cons, Bool.and_eq_true] at h
    have h1 := eenc_len h.1
    obtain ⟨m, rfl⟩ : ∃ m, n = m + 1 := ⟨n - 1, by omega⟩
    rw [eencs_cons] at hn ⊢
    rw [List.length_append] at hn
    have hne : eenc e ++ eencs l ≠ [] := fun q => by
      have := congrArg List.length q
      rw [List.length_append, List.length_nil] at this
      omega
    rw [xF_some hne (x1_enc h.1 _), xF_encs l m (acc ++ [e]) h.2 (by omega), List.append_assoc]
    rfl

/-- What the document's own reading comes to is the same. -/
theorem ref_sum {b c : List UInt8} (h : opn b = (c, false)) : hrd b = ([], 4) := hrd_sum h
theorem ref_first {b c r : List UInt8} {n e : Nat} (h : opn b = (c, true)) (h2 : tk c = (n, r, e)) (he : e ≠ 0) : hrd b = ([], 2) :=
  hrd_form h (ents_no (nm_err h2 he))
theorem ref_bad {b c r : List UInt8} {n : Nat} (h : opn b = (c, true)) (h2 : tk c = (n, r, 0)) (hx : xF (r.length + 1) r [] = none) : hrd b = ([], 2) := by
  cases he : ents c with
  | none => exact hrd_form h he
  | some l =>
    obtain ⟨h1, h3, h4⟩ := (ents_iff c l).1 he
    rw [h4, tk_put (lt64 (by omega)) _] at h2
    simp only [Prod.mk.injEq, and_true] at h2
    rw [← h2.2, xF_encs l _ [] h3 (by omega)] at hx
    cases hx
theorem ref_end {b c r : List UInt8} {n : Nat} {l : List Et} (h : opn b = (c, true)) (h2 : tk c = (n, r, 0)) (hx : xF (r.length + 1) r [] = some l) : hrd b = if hbs l = (b, 0) then (l, 0) else ([], 2) := by
  by_cases hb : hbs l = (b, 0)
  · rw [if_pos hb]; exact hrd_hbs hb
  · rw [if_neg hb]
    cases he : ents c with
    | none => exact hrd_form h he
    | some m =>
      obtain ⟨h1, h3, h4⟩ := (ents_iff c m).1 he
      have h5 := h2
      rw [h4, tk_put (lt64 (by omega)) _] at h5
      simp only [Prod.mk.injEq, and_true] at h5
      rw [← h5.2, xF_encs m _ [] h3 (by omega)] at hx
      cases hx
      exact absurd (hbs_hrd (hrd_yes h he)) (by simpa using hb)

end Go.Proofs.YtmekkbhblghbmaaGreatDoor

/- Plain facts on the entries of a segment: which they are, that each tells of its record, and that they stand in order. Nothing of the program is used here. -/
namespace Go.Proofs.YtmekkbhblghbmaaGreatDoor

theorem rdsF_ok : ∀ (n : Nat) (s : List UInt8) (acc l : List Rc), s.length < n → rdsF n s acc = (l, 0) → ∃ t, l = acc ++ t ∧ rights t = true ∧ s = encs t
  | 0, s, acc, l, hn, h => by omega
  | n + 1, s, acc, l, hn, h => by
    by_cases hs : s = []
    · subst hs
      rw [rdsF_nil] at h
      simp at h
      subst h
      exact ⟨[], by simp, rfl, rfl⟩
    · obtain ⟨r, u, e, hr⟩ : ∃ r u e, rd s = (r, u, e) := ⟨_, _, _, rfl⟩
      by_cases he : e = 0
      · subst he
        rw [rdsF_next hs hr] at h
        obtain ⟨hg, rfl⟩ := rd_ok hr
        have := enc_len hg
        rw [List.length_append] at hn
        obtain ⟨t, rfl, ht, rfl⟩ := rdsF_ok n _ _ _ (by omega) h
        refine ⟨r :: t, by simp, ?_, ?_⟩
        · simp only [rights, List.all_cons, Bool.and_eq_true]; exact ⟨hg, ht⟩
        · rw [encs_cons]
      · rw [rdsF_err hs hr he] at h
        simp at h
        omega

theorem rds_ok {c : List UInt8} {l : List Rc} (h : rds c = (l, 0)) : rights l = true ∧ c = encs l := by
  obtain ⟨t, rfl, h1, h2⟩ := rdsF_ok _ c [] l (by omega) h
  exact ⟨h1, h2⟩

/-- What is taken has just these bytes. -/
theorem ft_ok {b : List UInt8} {l : List Rc} {n : Nat} (h : ft b = (l, n, 0)) : good l = true ∧ n = (fbs l).length ∧ b = fbs l ++ b.drop n := by
  obtain ⟨s, r, e, h1⟩ : ∃ s r e, ot b = (s, r, e) := ⟨_, _, _, rfl⟩
  by_cases he : e = 0
  · subst he
    obtain ⟨c, ok, h2⟩ : ∃ c ok, opn s = (c, ok) := ⟨_, _, rfl⟩
    cases ok with
    | false => rw [ft_sum h1 h2] at h; simp at h
    | true =>
      obtain ⟨m, e, h3⟩ : ∃ l e, rds c = (l, e) := ⟨_, _, rfl⟩
      by_cases he : e = 0
      · subst he
        cases hl : fits16 m with
        | false => rw [ft_many h1 h2 h3 hl] at h; simp at h
        | true =>
          rw [ft_yes h1 h2 h3 hl] at h
          simp only [Prod.mk.injEq, and_true] at h
          obtain ⟨rfl, rfl⟩ := h
          obtain ⟨g1, g2⟩ := rds_ok h3
          have hb := (ot_ok h1).1
          have hs : s = seal4 (encs m) := by rw [opn_ok h2, g2]
          have hf : txt s = fbs m := by rw [hs]; rfl
          rw [hf] at hb
          have hlen : b.length = (fbs m).length + r.length := by rw [hb, List.length_append]
          refine ⟨by simp [good, hl, g1], by omega, ?_⟩
          have hd : b.drop (b.length - r.length) = r := by rw [hb, List.drop_append_of_le_length (by simp), List.length_append, Nat.add_sub_cancel, List.drop_length, List.nil_append]
          rw [hd]; exact hb
      · rw [ft_form h1 h2 h3 he] at h; simp at h
  · rw [ft_err h1 he] at h; simp at h; omega

theorem fsF_ok : ∀ (n : Nat) (b : List UInt8) (acc ll : List (List Rc)) (k m : Nat), fsF n b acc k = (ll, m) → ∃ t, ll = acc ++ t ∧ (∀ l ∈ t, good l = true) ∧ m = k + (cat t).length ∧ b = cat t ++ b.drop (cat t).length
  | 0, b, acc, ll, k, m, h => by
    simp only [fsF, Prod.mk.injEq] at h
    obtain ⟨rfl, rfl⟩ := h
    exact ⟨[], by simp, by simp, by simp [cat], by simp [cat]⟩
  | n + 1, b, acc, ll, k, m, h => by
    obtain ⟨l, j, e, hf⟩ : ∃ l j e, ft b = (l, j, e) := ⟨_, _, _, rfl⟩
    by_cases he : e = 0
    · subst he
      rw [fsF_next hf] at h
      obtain ⟨t, rfl, hg, rfl, hb⟩ := fsF_ok n _ _ _ _ _ h
      obtain ⟨g1, g2, g3⟩ := ft_ok hf
      refine ⟨l :: t, by simp, ?_, ?_, ?_⟩
      · intro x hx
        rcases List.mem_cons.1 hx with rfl | hx
        · exact g1
        · exact hg x hx
      · rw [cat_cons, List.length_append]; omega
      · rw [cat_cons, List.append_assoc, List.length_append, ← g2, ← List.drop_drop, ← hb]
        exact g3
    · rw [fsF_end hf he] at h
      simp only [Prod.mk.injEq] at h
      obtain ⟨rfl, rfl⟩ := h
      exact ⟨[], by simp, by simp, by simp [cat], by simp [cat]⟩

theorem fs_ok {b : List UInt8} {ll : List (List Rc)} {n : Nat} (h : fs b = (ll, n)) : (∀ l ∈ ll, good l = true) ∧ n = (cat ll).length ∧ b = cat ll ++ b.drop n := by
  obtain ⟨t, rfl, h1, h2, h3⟩ := fsF_ok _ b [] ll 0 n h
  rw [Nat.zero_add] at h2
  exact ⟨h1, h2, by rw [h2]; exact h3⟩

/-- The entry of a record that stands at a place. -/
def ent (off : Nat) (r : Rc) : Et := ⟨r.k, (off : Int), ((enc r).length : Int), r.q, r.g⟩

/-- The entries of records that stand one behind the other, from a place on. -/
def rows : Nat → List Rc → List Et
  | _, [] => []
  | off, r :: l => ent off r :: rows (off + (enc r).length) l

theorem rows_len : ∀ (off : Nat) (l : List Rc), (rows off l).length = l.length
  | _, [] => rfl
  | off, r :: l => by rw [rows, List.length_cons, List.length_cons, rows_len]

theorem rows_append : ∀ (off : Nat) (l m : List Rc), rows off (l ++ m) = rows off l ++ rows (off + (encs l).length) m
  | off, [], m => by simp [rows, encs]
  | off, r :: l, m => by
    rw [List.cons_append, rows, rows_append, rows, encs_cons, List.length_append, Nat.add_assoc]; rfl

theorem rows_next (off : Nat) (l : List Rc) {k : Nat} (hk : k < l.length) : rows off (l.take (k + 1)) = rows off (l.take k) ++ [ent (off + (encs (l.take k)).length) l[k]] := by
  rw [List.take_succ_eq_append_getElem hk, rows_append]; rfl

/-- How many bytes of a batch stand ahead of its records. -/
def head (l : List Rc) : Nat := (fbs l).length - (encs l).length

theorem head_le (l : List Rc) : (fbs l).length = head l + (encs l).length := by
  have : (encs l).length ≤ (fbs l).length := by rw [fbs, txt, List.length_append, seal_len]; omega
  rw [head]; omega

/-- The entries of batches that stand one behind the other, from a place on. -/
def hof : Nat → List (List Rc) → List Et
  | _, [] => []
  | at0, l :: ll => rows (at0 + head l) l ++ hof (at0 + (fbs l).length) ll

theorem hof_append : ∀ (a : Nat) (l m : List (List Rc)), hof a (l ++ m) = hof a l ++ hof (a + (cat l).length) m
  | a, [], m => by simp [hof, cat]
  | a, l :: ll, m => by
    rw [List.cons_append, hof, hof_append, hof, cat_cons, List.length_append, Nat.add_assoc, List.append_assoc]

theorem hof_next (a : Nat) (ll : List (List Rc)) {k : Nat} (hk : k < ll.length) : hof a (ll.take (k + 1)) = hof a (ll.take k) ++ rows (a + (cat (ll.take k)).length + head ll[k]) ll[k] := by
  rw [List.take_succ_eq_append_getElem hk, hof_append, hof, hof, List.append_nil]

theorem hof_len : ∀ (a : Nat) (ll : List (List Rc)), (hof a ll).length = ll.flatten.length
  | _, [] => rfl
  | a, l :: ll => by rw [hof, List.length_append, rows_len, hof_len, List.flatten_cons, List.length_append]

/-- The record that an entry tells of, and the error. -/
def hat (b : List UInt8) (e : Et) : Rc × Nat :=
  if eright e = false ∨ (b.length : Int) < e.o + e.l then (Rc.z, 1)
  else if (rd ((b.drop e.o.toNat).take e.l.toNat)).2.2 = 0 ∧ (rd ((b.drop e.o.toNat).take e.l.toNat)).2.1 = [] ∧ (rd ((b.drop e.o.toNat).take e.l.toNat)).1.k = e.k ∧ (rd ((b.drop e.o.toNat).take e.l.toNat)).1.q = e.q ∧ (rd ((b.drop e.o.toNat).take e.l.toNat)).1.g = e.g then ((rd ((b.drop e.o.toNat).take e.l.toNat)).1, 0)
  else (Rc.z, 2)

theorem hat_arg {b : List UInt8} {e : Et} (h : eright e = false ∨ (b.length : Int) < e.o + e.l) : hat b e = (Rc.z, 1) := by rw [hat, if_pos h]
theorem hat_of {b s : List UInt8} {e : Et} {r : Rc} {er : Nat} (h : eright e = true) (h2 : ¬ (b.length : Int) < e.o + e.l) (h3 : rd ((b.drop e.o.toNat).take e.l.toNat) = (r, s, er)) :
    hat b e = if er = 0 ∧ s = [] ∧ r.k = e.k ∧ r.q = e.q ∧ r.g = e.g then (r, 0) else (Rc.z, 2) := by
  rw [hat, if_neg (by simp [h]; omega), h3]

theorem ent_right {off : Nat} {r : Rc} (h : right r = true) (ho : off ≤ 1048576) : eright (ent off r) = true := by
  obtain ⟨h1, h2, h3, h4, h5, h6⟩ := (right_iff r).1 h
  have h7 := enc_len h
  rw [eright_iff]
  refine ⟨h3, h4, ?_, ?_, ?_, ?_, h1, h2⟩ <;> (simp only [ent]; omega)

theorem hat_ent {b s : List UInt8} {off : Nat} {r : Rc} (h : right r = true) (ho : off ≤ 1048576) (hb : b.drop off = enc r ++ s) : hat b (ent off r) = (r, 0) := by
  have h7 := enc_len h
  have hl : b.length - off = (enc r).length + s.length := by rw [← List.length_drop, hb, List.length_append]
  have hr := rd_enc h []
  rw [List.append_nil] at hr
  rw [hat_of (ent_right h ho) (by simp only [ent]; omega) (r := r) (s := []) (er := 0)]
  · rw [if_pos ⟨rfl, rfl, rfl, rfl, rfl⟩]
  · show rd ((b.drop ((off : Int)).toNat).take (((enc r).length : Int)).toNat) = _
    rw [Int.toNat_natCast, Int.toNat_natCast, hb, List.take_left]
    exact hr

theorem hat_rows : ∀ (l : List Rc) (b s : List UInt8) (off : Nat), rights l = true → off + (encs l).length ≤ 1048576 → b.drop off = encs l ++ s → (rows off l).map (hat b) = l.map (fun r => (r, 0))
  | [], _, _, _, _, _, _ => rfl
  | r :: l, b, s, off, h, ho, hb => by
    simp only [rights, List.all_cons, Bool.and_eq_true] at h
    rw [encs_cons] at ho hb
    rw [List.length_append] at ho
    rw [List.append_assoc] at hb
    rw [rows, List.map_cons, List.map_cons, hat_ent h.1 (by omega) hb, hat_rows l b s _ h.2 (by omega)]
    rw [← List.drop_drop, hb, List.drop_left]

theorem fbs_drop (l : List Rc) (s : List UInt8) : (fbs l ++ s).drop (head l) = encs l ++ s := by
  have : fbs l = (put (seal4 (encs l)).length ++ four (sum (encs l))) ++ encs l := by rw [fbs, txt, seal4, List.append_assoc]
  have hl : (put (seal4 (encs l)).length ++ four (sum (encs l))).length = head l := by
    rw [head, this]
    simp only [List.length_append]
    omega
  rw [this, List.append_assoc, ← hl, List.drop_left]

theorem hat_hof : ∀ (ll : List (List Rc)) (b s : List UInt8) (a : Nat), (∀ l ∈ ll, good l = true) → a + (cat ll).length ≤ 1048576 → b.drop a = cat ll ++ s → (hof a ll).map (hat b) = ll.flatten.map (fun r => (r, 0))
  | [], _, _, _, _, _, _ => rfl
  | l :: ll, b, s, a, h, ho, hb => by
    rw [cat_cons] at ho hb
    rw [List.length_append] at ho
    rw [List.append_assoc] at hb
    have hh := head_le l
    rw [hof, List.map_append, List.flatten_cons, List.map_append, hat_hof ll b s _ (fun x hx => h x (by simp [hx])) (by omega), hat_rows l b (cat ll ++ s) _ ((good_iff l).1 (h l (by simp))).2 (by omega)]
    · rw [← List.drop_drop, hb, fbs_drop]
    · rw [← List.drop_drop, hb, List.drop_left]

theorem hat_at {ll : List (List Rc)} (hg : ∀ l ∈ ll, good l = true) (hl : (cat ll).length ≤ 1048576) {i : Nat} (hi : i < (hof 0 ll).length) : hat (cat ll) (hof 0 ll)[i] = (ll.flatten[i]'(by rw [← hof_len 0]; exact hi), 0) := by
  have := hat_hof ll (cat ll) [] 0 hg (by omega) (by simp)
  have h2 := congrArg (fun x => x[i]?) this
  simp only [List.getElem?_map] at h2
  rw [List.getElem?_eq_getElem hi, List.getElem?_eq_getElem (by rw [← hof_len 0]; exact hi)] at h2
  simpa using h2

/-- Entries stand in order, from a place on, up to another. -/
def inc : Int → Int → List Et → Prop
  | lo, hi, [] => lo ≤ hi
  | lo, hi, e :: l => lo ≤ e.o ∧ inc (e.o + e.l) hi l

theorem inc_append : ∀ (l m : List Et) {lo mid hi : Int}, inc lo mid l → inc mid hi m → inc lo hi (l ++ m)
  | [], [], lo, mid, hi, h1, h2 => by simp only [inc, List.nil_append] at *; omega
  | [], e :: m, lo, mid, hi, h1, h2 => by simp only [inc, List.nil_append] at *; exact ⟨by omega, h2.2⟩
  | e :: l, m, lo, mid, hi, h1, h2 => ⟨h1.1, inc_append l m h1.2 h2⟩

theorem inc_rows : ∀ (l : List Rc) (off : Nat), inc off (off + (encs l).length : Nat) (rows off l)
  | [], off => by simp [inc, rows, encs]
  | r :: l, off => by
    have := inc_rows l (off + (enc r).length)
    rw [rows]
    refine ⟨by simp [ent], ?_⟩
    rw [encs_cons, List.length_append, ← Nat.add_assoc]
    simpa [ent] using this

theorem inc_weaken : ∀ (l : List Et) {lo lo' hi : Int}, lo' ≤ lo → inc lo hi l → inc lo' hi l
  | [], _, _, _, h, h1 => by simp only [inc] at *; omega
  | e :: l, _, _, _, h, h1 => ⟨Int.le_trans h h1.1, h1.2⟩

theorem inc_hof : ∀ (ll : List (List Rc)) (a : Nat), inc a (a + (cat ll).length : Nat) (hof a ll)
  | [], a => by simp [inc, hof, cat]
  | l :: ll, a => by
    have h1 := inc_rows l (a + head l)
    have h2 := inc_hof ll (a + (fbs l).length)
    have hh := head_le l
    rw [hof, cat_cons, List.length_append, ← Nat.add_assoc]
    refine inc_append _ _ (inc_weaken _ (by omega) h1) ?_
    rw [Nat.add_assoc, ← hh]
    exact h2

theorem inc_get : ∀ (l : List Et) {lo hi : Int} (i : Nat) (h : i + 1 < l.length), inc lo hi l → l[i].o + l[i].l ≤ l[i + 1].o
  | [], _, _, i, h, _ => by simp at h
  | [e], _, _, i, h, _ => by simp at h
  | e :: f :: l, _, _, 0, h, h1 => h1.2.1
  | e :: f :: l, _, _, i + 1, h, h1 => inc_get (f :: l) i (by simpa using h) h1.2

theorem hof_order {ll : List (List Rc)} {i : Nat} (h : i + 1 < (hof 0 ll).length) : (hof 0 ll)[i].o + (hof 0 ll)[i].l ≤ (hof 0 ll)[i + 1].o :=
  inc_get _ i h (inc_hof ll 0)

/-- No place is farther than the bytes. -/
theorem hof_le : ∀ (ll : List (List Rc)) (a : Nat), (∀ l ∈ ll, good l = true) → ∀ e ∈ hof a ll, ∃ (off : Nat) (r : Rc), e = ent off r ∧ right r = true ∧ off + (enc r).length ≤ a + (cat ll).length
  | [], _, _, e, he => by simp [hof] at he
  | l :: ll, a, h, e, he => by
    have hh := head_le l
    have key : ∀ (m : List Rc) (off : Nat), rights m = true → ∀ e ∈ rows off m, ∃ (o : Nat) (r : Rc), e = ent o r ∧ right r = true ∧ o + (enc r).length ≤ off + (encs m).length := by
      intro m
      induction m with
      | nil => intro off _ e he; simp [rows] at he
      | cons r m ih =>
        intro off hm e he
        simp only [rights, List.all_cons, Bool.and_eq_true] at hm
        rw [encs_cons, List.length_append]
        rw [rows] at he
        rcases List.mem_cons.1 he with rfl | he
        · exact ⟨off, r, rfl, hm.1, by omega⟩
        · obtain ⟨o, x, h1, h2, h3⟩ := ih _ hm.2 e he
          exact ⟨o, x, h1, h2, by omega⟩
    rw [hof] at he
    rw [cat_cons, List.length_append]
    rcases List.mem_append.1 he with he | he
    · obtain ⟨o, x, h1, h2, h3⟩ := key l _ ((good_iff l).1 (h l (by simp))).2 e he
      exact ⟨o, x, h1, h2, by omega⟩
    · obtain ⟨o, x, h1, h2, h3⟩ := hof_le ll _ (fun x hx => h x (by simp [hx])) e he
      exact ⟨o, x, h1, h2, by omega⟩

end Go.Proofs.YtmekkbhblghbmaaGreatDoor

/- What the call valid of package hint returns, and the document's own Right of layer 5. -/
namespace Go.Proofs.YtmekkbhblghbmaaGreatDoor
open Go.RowKit

/-- An entry as a Go value. -/
def ev (e : Et) : Value := .agg #[.string (bs e.k), .int .i64 e.o, .int .i64 e.l, .int .u64 ((e.q : Nat) : Int), .bool e.g]

/-- May one be, by lengths and numbers? -/
def egt (k : Nat) (o l : Int) (q : Nat) : Bool := decide (1 ≤ k ∧ k ≤ 40 ∧ 0 ≤ o ∧ o ≤ 1048576 ∧ 1 ≤ l ∧ l ≤ 400 ∧ 1 ≤ q ∧ q ≤ 1099511627776)

/-- An entry is no greater than a machine's. -/
def EFit (e : Et) : Prop := e.k.length ≤ 9223372036854775807 ∧ (-9223372036854775808 ≤ e.o ∧ e.o ≤ 9223372036854775807) ∧ (-9223372036854775808 ≤ e.l ∧ e.l ≤ 9223372036854775807) ∧ e.q ≤ 18446744073709551615

set_option maxRecDepth 100000 in
set_option maxHeartbeats 400000 in
theorem valid_of (K : ByteArray) (o l : Int) (q : Nat) (g : Bool) (w : World) (hK : K.size ≤ 9223372036854775807) (hq : q ≤ 18446744073709551615) :
    Calls Tryz.prog 100 #[.agg #[.string K, .int .i64 o, .int .i64 l, .int .u64 (q : Int), .bool g]] w fun e w' => e = .returned (.bool (egt K.size o l q)) ∧ Below w.heap.size w w' := by
  go_enter Tryz.func100, Tryz.ntmps100
  go_wp2_with fail
  all_goals
    go_ret
    refine ⟨ret_bool ?_, (Below.refl _ _).alloc (Nat.le_refl _) _⟩
    unfold egt
    first | (rw [decide_eq_decide]; omega) | (symm; rw [decide_eq_false_iff_not]; omega) | (symm; rw [decide_eq_true_iff]; omega)

set_option maxRecDepth 100000 in
set_option maxHeartbeats 400000 in
theorem refvalid_of (K : ByteArray) (o l : Int) (q : Nat) (g : Bool) (w : World) (hK : K.size ≤ 9223372036854775807) (hq : q ≤ 18446744073709551615) :
    Calls Tryz.prog 102 #[.agg #[.string K, .int .i64 o, .int .i64 l, .int .u64 (q : Int), .bool g]] w fun e w' => e = .returned (.bool (egt K.size o l q)) ∧ Below w.heap.size w w' := by
  go_enter Tryz.func102, Tryz.ntmps102
  go_wp2_with fail
  all_goals
    go_ret
    refine ⟨ret_bool ?_, (Below.refl _ _).alloc (Nat.le_refl _) _⟩
    unfold egt
    first | (rw [decide_eq_decide]; omega) | (symm; rw [decide_eq_false_iff_not]; omega) | (symm; rw [decide_eq_true_iff]; omega)

theorem egt_of (e : Et) : egt (bs e.k).size e.o e.l e.q = eright e := by rw [bs_size]; rfl

theorem valid_any (e : Et) (w : World) (h : EFit e) :
    Calls Tryz.prog 100 #[ev e] w fun x w' => x = .returned (.bool (eright e)) ∧ Below w.heap.size w w' := by
  have := valid_of (bs e.k) e.o e.l e.q e.g w (by rw [bs_size]; exact h.1) h.2.2.2
  rwa [egt_of] at this

theorem refvalid_any (e : Et) (w : World) (h : EFit e) :
    Calls Tryz.prog 102 #[ev e] w fun x w' => x = .returned (.bool (eright e)) ∧ Below w.heap.size w w' := by
  have := refvalid_of (bs e.k) e.o e.l e.q e.g w (by rw [bs_size]; exact h.1) h.2.2.2
  rwa [egt_of] at this

end Go.Proofs.YtmekkbhblghbmaaGreatDoor

/- What the call encoding of package hint returns, and the document's own answer for an entry's bytes. -/
namespace Go.Proofs.YtmekkbhblghbmaaGreatDoor
open Go.RowKit

/-- Nothing that was there has turned, and the first new block holds an entry's five cells. -/
def Box5 (t : TypeId) (w0 : World) (c0 c1 c2 c3 c4 : Value) (W : World) : Prop := Box w0 (.cells #[c0, c1, c2, c3, c4] t) W
theorem Box5.cells {t : TypeId} {w0 : World} {c0 c1 c2 c3 c4 : Value} {W : World} (h : Box5 t w0 c0 c1 c2 c3 c4 W) :
    Box5 t w0 c0 c1 c2 c3 c4 W ∧ W.cell? ⟨w0.heap.size, 0, none⟩ = some c0 ∧ W.cell? ⟨w0.heap.size, 1, none⟩ = some c1 ∧ W.cell? ⟨w0.heap.size, 2, none⟩ = some c2 ∧ W.cell? ⟨w0.heap.size, 3, none⟩ = some c3 ∧ W.cell? ⟨w0.heap.size, 4, none⟩ = some c4 :=
  ⟨h, by rw [Lib.cell_of_heap h.2.2]; rfl, by rw [Lib.cell_of_heap h.2.2]; rfl, by rw [Lib.cell_of_heap h.2.2]; rfl, by rw [Lib.cell_of_heap h.2.2]; rfl, by rw [Lib.cell_of_heap h.2.2]; rfl⟩

set_option maxRecDepth 100000 in
set_option maxHeartbeats 800000 in
theorem eenc_of (k : List UInt8) (o l q : Nat) (g : Bool) (z : Nat) (w : World) (hk : k.length ≤ 40) (ho : o ≤ 1048576) (hl : l ≤ 400) (hq : q ≤ 1099511627776) (hz : z = esz (l : Int) g) :
    Calls Tryz.prog 109 #[.agg #[.string (bs k), .int .i64 (o : Int), .int .i64 (l : Int), .int .u64 (q : Int), .bool g]] w fun e w' => e = .returned (.string (bs (txt k ++ put o ++ put z ++ put q))) ∧ Below w.heap.size w w' := by
  have hz801 : z ≤ 801 := by rw [hz]; unfold esz; split <;> omega
  have h1 : ∀ W, Box5 51 w (.string (bs k)) (.int .i64 (o : Int)) (.int .i64 (l : Int)) (.int .u64 (q : Int)) (.bool g) W → Calls Tryz.prog 88 #[.string (bs k)] W fun e w' => e = .returned (.string (bs (txt k))) ∧ Box5 51 w (.string (bs k)) (.int .i64 (o : Int)) (.int .i64 (l : Int)) (.int .u64 (q : Int)) (.bool g) w' := fun W hW =>
    (text_of k W (by omega)).mono fun e w' ⟨he, hb⟩ => ⟨he, hW.call hb⟩
  have h2 : ∀ (n : Nat) W, n ≤ 18446744073709551615 → Box5 51 w (.string (bs k)) (.int .i64 (o : Int)) (.int .i64 (l : Int)) (.int .u64 (q : Int)) (.bool g) W → Calls Tryz.prog 108 #[.int .u64 (n : Int)] W fun e w' => e = .returned (.string (bs (put n))) ∧ Box5 51 w (.string (bs k)) (.int .i64 (o : Int)) (.int .i64 (l : Int)) (.int .u64 (q : Int)) (.bool g) w' := fun n W hn hW =>
    (put_nat n W hn).mono fun e w' ⟨he, hb⟩ => ⟨he, hW.call hb⟩
  have hA := h2 o
  have hB := h2 z
  have hC := h2 q
  have s1 : (bs (txt k)).size ≤ 50 := by rw [bs_size]; have := txt_len (s := k) (by omega); omega
  have s2 : (bs (put o)).size ≤ 10 := by rw [bs_size]; exact put_ten (lt64 (by omega))
  have s3 : (bs (put z)).size ≤ 10 := by rw [bs_size]; exact put_ten (lt64 (by omega))
  have s4 : (bs (put q)).size ≤ 10 := by rw [bs_size]; exact put_ten (lt64 (by omega))
  rw [bs_app, bs_app, bs_app]
  have K0 := Box.made w (.cells #[.string (bs k), .int .i64 (o : Int), .int .i64 (l : Int), .int .u64 (q : Int), .bool g] 51)
  generalize bs (txt k) = T1 at *
  generalize bs (put o) = P1 at *
  generalize bs (put z) = P2 at *
  generalize bs (put q) = P3 at *
  have c1 : ¬ 9223372036854775807 < T1.size + P1.size := by omega
  have c2 : ¬ 9223372036854775807 < T1.size + P1.size + P2.size := by omega
  have c3 : ¬ 9223372036854775807 < T1.size + P1.size + P2.size + P3.size := by omega
  generalize bs k = K at *
  have K0 := Lib.hid K0
  have H1 := Lib.hid h1
  have HA := Lib.hid fun W hW => hA W (by omega) hW
  have HC := Lib.hid fun W hW => hC W (by omega) hW
  have wr0 := IntWalk.u64_in (o : Int) ⟨by omega, by omega⟩
  have wr1 := IntWalk.u64_in (2 * (l : Int)) ⟨by omega, by omega⟩
  have wr2 := IntWalk.u64_in (2 * (l : Int) + 1) ⟨by omega, by omega⟩
  cases g with
  | false =>
    have hB := fun W hW => hB W (by omega) hW
    rw [show (z : Int) = 2 * (l : Int) from by rw [hz]; unfold esz; simp] at hB
    have HB := Lib.hid hB
    clear h1 h2 hA hB hC hz hz801 wr2
    go_enter Tryz.func109, Tryz.ntmps109
    go_wp2_with fail
    go_region_held3 (fun W => Box5 51 w (.string K) (.int .i64 (o : Int)) (.int .i64 (l : Int)) (.int .u64 (q : Int)) (.bool false) W ∧ W.cell? ⟨w.heap.size, 0, none⟩ = some (.string K) ∧ W.cell? ⟨w.heap.size, 1, none⟩ = some (.int .i64 (o : Int)) ∧ W.cell? ⟨w.heap.size, 2, none⟩ = some (.int .i64 (l : Int)) ∧ W.cell? ⟨w.heap.size, 3, none⟩ = some (.int .u64 (q : Int)) ∧ W.cell? ⟨w.heap.size, 4, none⟩ = some (.bool false))
      (first | exact Box5.cells ‹_› | exact Box5.cells K0.out | exact Box5.cells K0.out.drew | exact Box5.cells (Box.drew ‹_›))
      (first | (go_at_call 88; (with_reducible refine (H1.out _ ?_).mono ?_); (first | assumption | exact K0.out | exact K0.out.drew | exact Box.drew ‹_›); rintro e w2 ⟨rfl, k2⟩) | (go_at_call 108; (with_reducible refine (HA.out _ ?_).mono ?_); (first | assumption | exact K0.out | exact K0.out.drew | exact Box.drew ‹_›); rintro e w2 ⟨rfl, k2⟩) | (go_at_call 108; (with_reducible refine (HB.out _ ?_).mono ?_); (first | assumption | exact K0.out | exact K0.out.drew | exact Box.drew ‹_›); rintro e w2 ⟨rfl, k2⟩) | (go_at_call 108; (with_reducible refine (HC.out _ ?_).mono ?_); (first | assumption | exact K0.out | exact K0.out.drew | exact Box.drew ‹_›); rintro e w2 ⟨rfl, k2⟩))
    go_wp2_with fail
    go_ret
    exact ⟨rfl, Box.below ‹_›⟩
  | true =>
    have hB := fun W hW => hB W (by omega) hW
    rw [show (z : Int) = 2 * (l : Int) + 1 from by rw [hz]; unfold esz; simp] at hB
    have HB := Lib.hid hB
    clear h1 h2 hA hB hC hz hz801
    go_enter Tryz.func109, Tryz.ntmps109
    go_wp2_with fail
    go_region_held3 (fun W => Box5 51 w (.string K) (.int .i64 (o : Int)) (.int .i64 (l : Int)) (.int .u64 (q : Int)) (.bool true) W ∧ W.cell? ⟨w.heap.size, 0, none⟩ = some (.string K) ∧ W.cell? ⟨w.heap.size, 1, none⟩ = some (.int .i64 (o : Int)) ∧ W.cell? ⟨w.heap.size, 2, none⟩ = some (.int .i64 (l : Int)) ∧ W.cell? ⟨w.heap.size, 3, none⟩ = some (.int .u64 (q : Int)) ∧ W.cell? ⟨w.heap.size, 4, none⟩ = some (.bool true))
      (first | exact Box5.cells ‹_› | exact Box5.cells K0.out | exact Box5.cells K0.out.drew | exact Box5.cells (Box.drew ‹_›))
      (first | (go_at_call 88; (with_reducible refine (H1.out _ ?_).mono ?_); (first | assumption | exact K0.out | exact K0.out.drew | exact Box.drew ‹_›); rintro e w2 ⟨rfl, k2⟩) | (go_at_call 108; (with_reducible refine (HA.out _ ?_).mono ?_); (first | assumption | exact K0.out | exact K0.out.drew | exact Box.drew ‹_›); rintro e w2 ⟨rfl, k2⟩) | (go_at_call 108; (with_reducible refine (HB.out _ ?_).mono ?_); (first | assumption | exact K0.out | exact K0.out.drew | exact Box.drew ‹_›); rintro e w2 ⟨rfl, k2⟩) | (go_at_call 108; (with_reducible refine (HC.out _ ?_).mono ?_); (first | assumption | exact K0.out | exact K0.out.drew | exact Box.drew ‹_›); rintro e w2 ⟨rfl, k2⟩))
    go_wp2_with fail
    go_ret
    exact ⟨rfl, Box.below ‹_›⟩

set_option maxRecDepth 100000 in
set_option maxHeartbeats 800000 in
theorem refeenc_of (k : List UInt8) (o l q : Nat) (g : Bool) (z : Nat) (w : World) (hk : k.length ≤ 40) (ho : o ≤ 1048576) (hl : l ≤ 400) (hq : q ≤ 1099511627776) (hz : z = esz (l : Int) g) :
    Calls Tryz.prog 112 #[.agg #[.string (bs k), .int .i64 (o : Int), .int .i64 (l : Int), .int .u64 (q : Int), .bool g]] w fun e w' => e = .returned (.string (bs (txt k ++ put o ++ put z ++ put q))) ∧ Below w.heap.size w w' := by
  have hz801 : z ≤ 801 := by rw [hz]; unfold esz; split <;> omega
  have h1 : ∀ W, Box5 53 w (.string (bs k)) (.int .i64 (o : Int)) (.int .i64 (l : Int)) (.int .u64 (q : Int)) (.bool g) W → Calls Tryz.prog 95 #[.string (bs k)] W fun e w' => e = .returned (.string (bs (txt k))) ∧ Box5 53 w (.string (bs k)) (.int .i64 (o : Int)) (.int .i64 (l : Int)) (.int .u64 (q : Int)) (.bool g) w' := fun W hW =>
    (reftext_of k W (by omega)).mono fun e w' ⟨he, hb⟩ => ⟨he, hW.call hb⟩
  have h2 : ∀ (n : Nat) W, n ≤ 18446744073709551615 → Box5 53 w (.string (bs k)) (.int .i64 (o : Int)) (.int .i64 (l : Int)) (.int .u64 (q : Int)) (.bool g) W → Calls Tryz.prog 111 #[.int .u64 (n : Int)] W fun e w' => e = .returned (.string (bs (put n))) ∧ Box5 53 w (.string (bs k)) (.int .i64 (o : Int)) (.int .i64 (l : Int)) (.int .u64 (q : Int)) (.bool g) w' := fun n W hn hW =>
    (refput_nat n W hn).mono fun e w' ⟨he, hb⟩ => ⟨he, hW.call hb⟩
  have hA := h2 o
  have hB := h2 z
  have hC := h2 q
  have s1 : (bs (txt k)).size ≤ 50 := by rw [bs_size]; have := txt_len (s := k) (by omega); omega
  have s2 : (bs (put o)).size ≤ 10 := by rw [bs_size]; exact put_ten (lt64 (by omega))
  have s3 : (bs (put z)).size ≤ 10 := by rw [bs_size]; exact put_ten (lt64 (by omega))
  have s4 : (bs (put q)).size ≤ 10 := by rw [bs_size]; exact put_ten (lt64 (by omega))
  rw [bs_app, bs_app, bs_app]
  have K0 := Box.made w (.cells #[.string (bs k), .int .i64 (o : Int), .int .i64 (l : Int), .int .u64 (q : Int), .bool g] 53)
  generalize bs (txt k) = T1 at *
  generalize bs (put o) = P1 at *
  generalize bs (put z) = P2 at *
  generalize bs (put q) = P3 at *
  have c1 : ¬ 9223372036854775807 < T1.size + P1.size := by omega
  have c2 : ¬ 9223372036854775807 < T1.size + P1.size + P2.size := by omega
  have c3 : ¬ 9223372036854775807 < T1.size + P1.size + P2.size + P3.size := by omega
  generalize bs k = K at *
  have K0 := Lib.hid K0
  have H1 := Lib.hid h1
  have HA := Lib.hid fun W hW => hA W (by omega) hW
  have HC := Lib.hid fun W hW => hC W (by omega) hW
  have wr0 := IntWalk.u64_in (o : Int) ⟨by omega, by omega⟩
  have wr1 := IntWalk.u64_in (2 * (l : Int)) ⟨by omega, by omega⟩
  have wr2 := IntWalk.u64_in (2 * (l : Int) + 1) ⟨by omega, by omega⟩
  cases g with
  | false =>
    have hB := fun W hW => hB W (by omega) hW
    rw [show (z : Int) = 2 * (l : Int) from by rw [hz]; unfold esz; simp] at hB
    have HB := Lib.hid hB
    clear h1 h2 hA hB hC hz hz801 wr2
    go_enter Tryz.func112, Tryz.ntmps112
    go_wp2_with fail
    go_region_held3 (fun W => Box5 53 w (.string K) (.int .i64 (o : Int)) (.int .i64 (l : Int)) (.int .u64 (q : Int)) (.bool false) W ∧ W.cell? ⟨w.heap.size, 0, none⟩ = some (.string K) ∧ W.cell? ⟨w.heap.size, 1, none⟩ = some (.int .i64 (o : Int)) ∧ W.cell? ⟨w.heap.size, 2, none⟩ = some (.int .i64 (l : Int)) ∧ W.cell? ⟨w.heap.size, 3, none⟩ = some (.int .u64 (q : Int)) ∧ W.cell? ⟨w.heap.size, 4, none⟩ = some (.bool false))
      (first | exact Box5.cells ‹_› | exact Box5.cells K0.out | exact Box5.cells K0.out.drew | exact Box5.cells (Box.drew ‹_›))
      (first | (go_at_call 95; (with_reducible refine (H1.out _ ?_).mono ?_); (first | assumption | exact K0.out | exact K0.out.drew | exact Box.drew ‹_›); rintro e w2 ⟨rfl, k2⟩) | (go_at_call 111; (with_reducible refine (HA.out _ ?_).mono ?_); (first | assumption | exact K0.out | exact K0.out.drew | exact Box.drew ‹_›); rintro e w2 ⟨rfl, k2⟩) | (go_at_call 111; (with_reducible refine (HB.out _ ?_).mono ?_); (first | assumption | exact K0.out | exact K0.out.drew | exact Box.drew ‹_›); rintro e w2 ⟨rfl, k2⟩) | (go_at_call 111; (with_reducible refine (HC.out _ ?_).mono ?_); (first | assumption | exact K0.out | exact K0.out.drew | exact Box.drew ‹_›); rintro e w2 ⟨rfl, k2⟩))
    go_wp2_with fail
    go_ret
    exact ⟨rfl, Box.below ‹_›⟩
  | true =>
    have hB := fun W hW => hB W (by omega) hW
    rw [show (z : Int) = 2 * (l : Int) + 1 from by rw [hz]; unfold esz; simp] at hB
    have HB := Lib.hid hB
    clear h1 h2 hA hB hC hz hz801
    go_enter Tryz.func112, Tryz.ntmps112
    go_wp2_with fail
    go_region_held3 (fun W => Box5 53 w (.string K) (.int .i64 (o : Int)) (.int .i64 (l : Int)) (.int .u64 (q : Int)) (.bool true) W ∧ W.cell? ⟨w.heap.size, 0, none⟩ = some (.string K) ∧ W.cell? ⟨w.heap.size, 1, none⟩ = some (.int .i64 (o : Int)) ∧ W.cell? ⟨w.heap.size, 2, none⟩ = some (.int .i64 (l : Int)) ∧ W.cell? ⟨w.heap.size, 3, none⟩ = some (.int .u64 (q : Int)) ∧ W.cell? ⟨w.heap.size, 4, none⟩ = some (.bool true))
      (first | exact Box5.cells ‹_› | exact Box5.cells K0.out | exact Box5.cells K0.out.drew | exact Box5.cells (Box.drew ‹_›))
      (first | (go_at_call 95; (with_reducible refine (H1.out _ ?_).mono ?_); (first | assumption | exact K0.out | exact K0.out.drew | exact Box.drew ‹_›); rintro e w2 ⟨rfl, k2⟩) | (go_at_call 111; (with_reducible refine (HA.out _ ?_).mono ?_); (first | assumption | exact K0.out | exact K0.out.drew | exact Box.drew ‹_›); rintro e w2 ⟨rfl, k2⟩) | (go_at_call 111; (with_reducible refine (HB.out _ ?_).mono ?_); (first | assumption | exact K0.out | exact K0.out.drew | exact Box.drew ‹_›); rintro e w2 ⟨rfl, k2⟩) | (go_at_call 111; (with_reducible refine (HC.out _ ?_).mono ?_); (first | assumption | exact K0.out | exact K0.out.drew | exact Box.drew ‹_›); rintro e w2 ⟨rfl, k2⟩))
    go_wp2_with fail
    go_ret
    exact ⟨rfl, Box.below ‹_›⟩

theorem nat_of {a : Int} (h : 0 ≤ a) : ((a.toNat : Nat) : Int) = a := by omega

theorem eenc_any (e : Et) (w : World) (h : eright e = true) :
    Calls Tryz.prog 109 #[ev e] w fun x w' => x = .returned (.string (bs (eenc e))) ∧ Below w.heap.size w w' := by
  obtain ⟨h1, h2, h3, h4, h5, h6, h7, h8⟩ := (eright_iff e).1 h
  have := eenc_of e.k e.o.toNat e.l.toNat e.q e.g (esz e.l e.g) w h2 (by omega) (by omega) h8 (by rw [nat_of (by omega)])
  rwa [nat_of (by omega), nat_of (by omega)] at this

theorem refeenc_any (e : Et) (w : World) (h : eright e = true) :
    Calls Tryz.prog 112 #[ev e] w fun x w' => x = .returned (.string (bs (eenc e))) ∧ Below w.heap.size w w' := by
  obtain ⟨h1, h2, h3, h4, h5, h6, h7, h8⟩ := (eright_iff e).1 h
  have := refeenc_of e.k e.o.toNat e.l.toNat e.q e.g (esz e.l e.g) w h2 (by omega) (by omega) h8 (by rw [nat_of (by omega)])
  rwa [nat_of (by omega), nat_of (by omega)] at this

end Go.Proofs.YtmekkbhblghbmaaGreatDoor

/- What the call Bytes of package hint returns, and the document's own Bytes of layer 5. -/
namespace Go.Proofs.YtmekkbhblghbmaaGreatDoor
open Go.RowKit

/-- A slice of entries in memory. -/
def EntsIn (w : World) (a : Option Addr) (l : List Et) : Prop :=
  0 < l.length → ∃ b off, a = some ⟨b, off, none⟩ ∧ b < w.heap.size ∧ ∀ i (h : i < l.length),
    w.cell? ⟨b, off + i * 5, none⟩ = some (.string (bs l[i].k)) ∧ w.cell? ⟨b, off + i * 5 + 1, none⟩ = some (.int .i64 l[i].o) ∧
    w.cell? ⟨b, off + i * 5 + 2, none⟩ = some (.int .i64 l[i].l) ∧ w.cell? ⟨b, off + i * 5 + 3, none⟩ = some (.int .u64 ((l[i].q : Nat) : Int)) ∧ w.cell? ⟨b, off + i * 5 + 4, none⟩ = some (.bool l[i].g)

theorem EntsIn.nil (w : World) (a : Option Addr) : EntsIn w a [] := fun h => by simp at h

theorem EntsIn.later {w w' : World} {a : Option Addr} {l : List Et} (h : EntsIn w a l) {B : Nat} (hb : Below B w w') (hB : w.heap.size ≤ B) : EntsIn w' a l := by
  intro h0
  obtain ⟨b, off, ha, hlt, hc⟩ := h h0
  have hlt' : b < B := by omega
  refine ⟨b, off, ha, Nat.lt_of_lt_of_le hlt hb.size, fun i hi => ?_⟩
  obtain ⟨c0, c1, c2, c3, c4⟩ := hc i hi
  exact ⟨(hb.cell (p := ⟨b, _, none⟩) hlt').trans c0, (hb.cell (p := ⟨b, _, none⟩) hlt').trans c1, (hb.cell (p := ⟨b, _, none⟩) hlt').trans c2, (hb.cell (p := ⟨b, _, none⟩) hlt').trans c3, (hb.cell (p := ⟨b, _, none⟩) hlt').trans c4⟩

theorem ents_of_mem {w : World} {a : Option Addr} {l : List Et} (h : EntsIn w a l) (k : Nat) (hk : k < l.length) : ∃ b off, a = some ⟨b, off, none⟩ ∧ b < w.heap.size ∧
    w.cell? ⟨b, off + k * 5, none⟩ = some (.string (bs l[k].k)) ∧ w.cell? ⟨b, off + k * 5 + 1, none⟩ = some (.int .i64 l[k].o) ∧
    w.cell? ⟨b, off + k * 5 + 2, none⟩ = some (.int .i64 l[k].l) ∧ w.cell? ⟨b, off + k * 5 + 3, none⟩ = some (.int .u64 ((l[k].q : Nat) : Int)) ∧ w.cell? ⟨b, off + k * 5 + 4, none⟩ = some (.bool l[k].g) := by
  obtain ⟨b, off, ha, hb, hc⟩ := h (by omega)
  obtain ⟨c0, c1, c2, c3, c4⟩ := hc k hk
  exact ⟨b, off, ha, hb, c0, c1, c2, c3, c4⟩

/-- No entry is greater than a machine's. -/
def EFits (l : List Et) : Prop := ∀ e ∈ l, EFit e

/-- What Bytes returns. -/
def hbV (l : List Et) : Value := .tuple #[.string (bs (hbs l).1), .int .i64 (((hbs l).2 : Nat) : Int)]

theorem hbV_many {l : List Et} (h : 2000 < l.length) : hbV l = .tuple #[.string ⟨#[]⟩, .int .i64 1] := by rw [hbV, hbs_many h]; rfl
theorem hbV_no {l : List Et} (h : ¬ erights l = true) : hbV l = .tuple #[.string ⟨#[]⟩, .int .i64 1] := by rw [hbV, hbs_no h]; rfl
theorem hbV_yes {l : List Et} (h : l.length ≤ 2000) (hr : erights l = true) : hbV l = .tuple #[.string (bs (seal4 (put l.length ++ eencs l))), .int .i64 0] := by rw [hbV, hbs_yes h hr]; rfl

theorem etake_next (l : List Et) (k : Nat) (h : k < l.length) : l.take (k + 1) = l.take k ++ [l[k]] := List.take_succ_eq_append_getElem h

theorem seal_of (s : List UInt8) (w : World) (hs : s.length ≤ 281474976710656) :
    Calls Tryz.prog 89 #[.string (bs s)] w fun e w' => e = .returned (.string (bs (seal4 s))) ∧ Below w.heap.size w w' := by
  have := seal_any (bs s) w (by rw [bs_size]; exact hs)
  rwa [bs_list] at this
theorem refseal_of (s : List UInt8) (w : World) (hs : s.length ≤ 281474976710656) :
    Calls Tryz.prog 96 #[.string (bs s)] w fun e w' => e = .returned (.string (bs (seal4 s))) ∧ Below w.heap.size w w' := by
  have := refseal_any (bs s) w (by rw [bs_size]; exact hs)
  rwa [bs_list] at this

set_option maxRecDepth 100000 in
set_option maxHeartbeats 800000 in
theorem hbytes_any (l : List Et) (a : Option Addr) (cap : Nat) (w : World) (hl : l.length ≤ 9223372036854775807) (hr : EntsIn w a l) (hf : EFits l) :
    Calls Tryz.prog 67 #[.slice a l.length cap] w fun e w' => e = .returned (hbV l) ∧ Below w.heap.size w w' := by
  by_cases h2000 : 2000 < l.length
  · have HE := Lib.hid (hbV_many h2000)
    have h0i : (2000 : Int) < (l.length : Int) := by omega
    go_enter Tryz.func67, Tryz.ntmps67
    go_wp2_with fail
    go_ret2
    exact ⟨HE.out.symm ▸ rfl, Below.refl _ _⟩
  have h0i : ¬ (2000 : Int) < (l.length : Int) := by omega
  have hln : l.length ≤ 2000 := by omega
  clear h2000
  have HR := Lib.hid hr
  have HF := Lib.hid hf
  clear hr hf
  have hp := put_nat l.length
  have wr0 := IntWalk.u64_in (l.length : Int) ⟨by omega, by omega⟩
  have hpl := put_ten (lt64 (n := l.length) (by omega))
  have HPL := Lib.hid hpl
  have HP := Lib.hid fun W => hp W (by omega)
  have HW0 := Lib.hid fun W (h : Bld w.heap.size w.heap.size [] W) (h2 : w.heap.size ≤ W.heap.size) => write_any w.heap.size w.heap.size [] (put l.length) W h (by simp; omega) h2
  clear hp
  go_enter Tryz.func67, Tryz.ntmps67
  go_wp2_with fail
  (with_reducible refine (HP.out _).mono ?_)
  rintro e w1 ⟨rfl, b1⟩
  have B0 : Below w.heap.size w (w.alloc (.cells #[.pointer none, .slice none 0 0] 142)) := (Below.refl _ _).alloc (Nat.le_refl _) _
  have F1 := Lib.hid ((Bld.fresh w).later b1)
  have B1 := Lib.hid (B0.trans (b1.mono B0.size))
  clear b1 B0
  go_wp2_with fail
  (with_reducible refine (HW0.out _ F1.out B1.out.size).mono ?_)
  rintro e w2 ⟨rfl, hB2, b2⟩
  have F2 := Lib.hid hB2
  have B2 := Lib.hid (B1.out.trans b2)
  clear hB2 b2 F1 B1 HW0 HP wr0
  go_wp2_with fail
  go_loopw [17] (fun i wr => ∃ k : Nat, k ≤ l.length ∧ i = .int .i64 k ∧ erights (l.take k) = true ∧ Bld w.heap.size w.heap.size (put l.length ++ eencs (l.take k)) wr ∧ Below w.heap.size w wr) (fun i _ => l.length - (intOf i).toNat)
  case atStart => exact ⟨0, by omega, rfl, rfl, by simpa [eencs] using F2.out, B2.out⟩
  case round =>
    obtain ⟨k, hk, rfl, hg, hB, hb⟩ := hrel
    have hel := eencs_len _ hg
    have htl : (l.take k).length ≤ k := List.length_take_le _ _
    have hacc : (eencs (l.take k)).length ≤ 160000 := by omega
    have hpl := HPL.out
    have hacc2 : (put l.length ++ eencs (l.take k)).length ≤ 170000 := by rw [List.length_append]; omega
    clear hel htl hpl
    by_cases hlt : k < l.length
    · obtain ⟨b, off, rfl, hbl, c0, c1, c2, c3, c4⟩ := ents_of_mem HR.out k hlt
      rw [← hb.cell (p := ⟨b, _, none⟩) hbl] at c0 c1 c2 c3 c4
      have hfe := HF.out l[k] (List.getElem_mem hlt)
      have h1 := fun W => valid_any l[k] W hfe
      have h2 := fun W => eenc_any l[k] W
      simp only [ev] at h1 h2
      have HT := Lib.hid (etake_next l k hlt)
      have HG := Lib.hid (erights_next hlt hg)
      have HN := Lib.hid (erights_not (l := l) hlt)
      clear hg hfe
      have hbz := hb.size
      generalize l[k] = r at *
      have HB := Lib.hid hB
      have hen : eright r = true → (eenc r).length ≤ 80 := fun h => (eenc_len h).2
      cases hg : eright r with
      | false =>
        rw [hg] at h1
        have H1 := Lib.hid h1
        have HE := Lib.hid (hbV_no (HN.out hg))
        clear h1 h2 hen hg hB
        go_wp2_with fail
        (with_reducible refine (H1.out _).mono ?_)
        rintro e w1 ⟨rfl, b1⟩
        go_wp2_with fail
        go_ret2
        exact ⟨HE.out.symm ▸ rfl, (hb.alloc hbz _).trans (b1.mono (by simp; omega))⟩
      | true =>
        rw [hg] at h1
        have h3 := fun W => h2 W hg
        have hen := hen hg
        have HS := Lib.hid (HG.out hg)
        have K0 := Lib.hid (Box.made wr (.cells #[.string (bs r.k), .int .i64 r.o, .int .i64 r.l, .int .u64 ((r.q : Nat) : Int), .bool r.g] 51))
        have H1 := Lib.hid h1
        have H3 := Lib.hid h3
        clear h1 h2 h3 hg hB
        have HW := Lib.hid fun W (h : Bld w.heap.size w.heap.size (put l.length ++ eencs (l.take k)) W) (h2 : w.heap.size ≤ W.heap.size) => write_any w.heap.size w.heap.size (put l.length ++ eencs (l.take k)) (eenc r) W h (by omega) h2
        go_wp2_with fail
        (with_reducible refine (H1.out _).mono ?_)
        rintro e w1 ⟨rfl, b1⟩
        obtain ⟨_, d0, d1, d2, d3, d4⟩ := Box5.cells (K0.out.call b1)
        go_wp2_with fail
        (with_reducible refine (H3.out _).mono ?_)
        rintro e w2 ⟨rfl, b2⟩
        go_wp2_with fail
        have B2 : Below wr.heap.size wr w2 := ((Below.refl _ _).alloc (Nat.le_refl _) _).trans ((b1.mono (by simp)).trans (b2.mono (by have := b1.size; simp at this; omega)))
        (with_reducible refine (HW.out _ (HB.out.later B2) (by have := B2.size; omega)).mono ?_)
        rintro e w3 ⟨rfl, hB3, b3⟩
        go_wp2_with fail
        go_roundw
        case rel => exact ⟨k + 1, by omega, by go_num, HS.out, by rw [HT.out, eencs_snoc, ← List.append_assoc]; exact hB3, (hb.trans (B2.mono hbz)).trans b3⟩
        case measure => simp [intOf]; omega
    · have e : k = l.length := by omega
      subst e
      rw [List.take_length] at hB hg hacc2
      have HE := Lib.hid (hbV_yes hln hg)
      have HS := Lib.hid (bstring_any w.heap.size w.heap.size (put l.length ++ eencs l) wr hB hb.size)
      have HQ := Lib.hid fun W => seal_of (put l.length ++ eencs l) W (by omega)
      clear hg hB
      go_wp2_with fail
      (with_reducible refine HS.out.mono ?_)
      rintro e w1 ⟨rfl, b1⟩
      go_wp2_with fail
      (with_reducible refine (HQ.out _).mono ?_)
      rintro e w2 ⟨rfl, b2⟩
      go_wp2_with fail
      go_ret2
      have z1 := (hb.trans b1).size
      exact ⟨HE.out.symm ▸ rfl, (hb.trans b1).trans (b2.mono z1)⟩

set_option maxRecDepth 100000 in
set_option maxHeartbeats 800000 in
theorem refhbytes_any (l : List Et) (a : Option Addr) (cap : Nat) (w : World) (hl : l.length ≤ 2000000) (hr : EntsIn w a l) (hf : EFits l) :
    Calls Tryz.prog 68 #[.slice a l.length cap] w fun e w' => e = .returned (hbV l) ∧ Below w.heap.size w w' := by
  have HR := Lib.hid hr
  have HF := Lib.hid hf
  clear hr hf
  have hp := refput_nat l.length
  have wr0 := IntWalk.u64_in (l.length : Int) ⟨by omega, by omega⟩
  have hpl := put_ten (lt64 (n := l.length) (by omega))
  have HPL := Lib.hid hpl
  have HP := Lib.hid fun W => hp W (by omega)
  clear hp
  go_enter Tryz.func68, Tryz.ntmps68
  go_wp2_with fail
  (with_reducible refine (HP.out _).mono ?_)
  rintro e w1 ⟨rfl, b1⟩
  have B1 := Lib.hid b1
  clear b1 HP wr0
  go_wp2_with fail
  go_loopw [4, 5] (fun s i wr => ∃ k : Nat, k ≤ l.length ∧ i = .int .i64 k ∧ s = .string (bs (put l.length ++ eencs (l.take k))) ∧ erights (l.take k) = true ∧ Below w.heap.size w wr) (fun _ i _ => l.length - (intOf i).toNat)
  case atStart => exact ⟨0, by omega, rfl, by simp [eencs], rfl, B1.out⟩
  case round =>
    obtain ⟨k, hk, rfl, rfl, hg, hb⟩ := hrel
    have hel := eencs_len _ hg
    have htl : (l.take k).length ≤ k := List.length_take_le _ _
    have hacc : (eencs (l.take k)).length ≤ 160000000 := by omega
    have hpl := HPL.out
    have hacc2 : (put l.length ++ eencs (l.take k)).length ≤ 160000010 := by rw [List.length_append]; omega
    clear hel htl hpl hacc
    by_cases hlt : k < l.length
    · obtain ⟨b, off, rfl, hbl, c0, c1, c2, c3, c4⟩ := ents_of_mem HR.out k hlt
      rw [← hb.cell (p := ⟨b, _, none⟩) hbl] at c0 c1 c2 c3 c4
      have hfe := HF.out l[k] (List.getElem_mem hlt)
      have h1 := fun W => refvalid_any l[k] W hfe
      have h2 := fun W => refeenc_any l[k] W
      simp only [ev] at h1 h2
      have HT := Lib.hid (etake_next l k hlt)
      have HG := Lib.hid (erights_next hlt hg)
      have HN := Lib.hid (erights_not (l := l) hlt)
      clear hg hfe
      have hbz := hb.size
      generalize l[k] = r at *
      have hen : eright r = true → (eenc r).length ≤ 80 := fun h => (eenc_len h).2
      have zz : (bs (put l.length ++ eencs (l.take k))).size ≤ 160000010 := by rw [bs_size]; exact hacc2
      cases hg : eright r with
      | false =>
        rw [hg] at h1
        have H1 := Lib.hid h1
        have HE := Lib.hid (hbV_no (HN.out hg))
        clear h1 h2 hen hg
        generalize bs (put l.length ++ eencs (l.take k)) = X at *
        generalize bs r.k = K at *
        go_wp2_with fail
        (with_reducible refine (H1.out _).mono ?_)
        rintro e w1 ⟨rfl, b1⟩
        go_wp2_with fail
        go_ret2
        exact ⟨HE.out.symm ▸ rfl, hb.trans (b1.mono hbz)⟩
      | true =>
        rw [hg] at h1
        have h3 := fun W => h2 W hg
        have zr : (bs (eenc r)).size ≤ 80 := by rw [bs_size]; exact hen hg
        have HS := Lib.hid (HG.out hg)
        have HA : Hid (bs (put l.length ++ eencs (l.take (k + 1))) = bs (put l.length ++ eencs (l.take k)) ++ bs (eenc r)) := Lib.hid (by rw [HT.out, eencs_snoc, ← List.append_assoc, bs_app])
        have H1 := Lib.hid h1
        have H3 := Lib.hid h3
        clear h1 h2 h3 hg hen
        generalize hX : bs (put l.length ++ eencs (l.take k)) = X at *
        clear hX
        generalize bs (eenc r) = Y at *
        generalize bs r.k = K at *
        have c9 : ¬ 9223372036854775807 < X.size + Y.size := by omega
        go_wp2_with fail
        (with_reducible refine (H1.out _).mono ?_)
        rintro e w1 ⟨rfl, b1⟩
        rw [← b1.cell (p := ⟨b, _, none⟩) (by show b < wr.heap.size; omega)] at c0 c1 c2 c3 c4
        go_wp2_with fail
        (with_reducible refine (H3.out _).mono ?_)
        rintro e w2 ⟨rfl, b2⟩
        go_wp2_with fail
        go_roundw
        case rel => exact ⟨k + 1, by omega, by go_num, by rw [HA.out], HS.out, hb.trans ((b1.mono hbz).trans (b2.mono (by have := b1.size; omega)))⟩
        case measure => simp [intOf]; omega
    · have e : k = l.length := by omega
      subst e
      rw [List.take_length] at hg hacc2 ⊢
      by_cases h2000 : 2000 < l.length
      · have HE := Lib.hid (hbV_many h2000)
        have h0i : (2000 : Int) < (l.length : Int) := by omega
        go_wp2_with fail
        go_ret2
        exact ⟨HE.out.symm ▸ rfl, hb⟩
      · have HE := Lib.hid (hbV_yes (by omega) hg)
        have h0i : ¬ (2000 : Int) < (l.length : Int) := by omega
        have HQ := Lib.hid fun W => refseal_of (put l.length ++ eencs l) W (by omega)
        clear hg h2000
        go_wp2_with fail
        (with_reducible refine (HQ.out _).mono ?_)
        rintro e w2 ⟨rfl, b2⟩
        go_wp2_with fail
        go_ret2
        exact ⟨HE.out.symm ▸ rfl, hb.trans (b2.mono hb.size)⟩

end Go.Proofs.YtmekkbhblghbmaaGreatDoor

/- What the closure of package hint's entries returns, and what it does to the two variables that it captures. -/
namespace Go.Proofs.YtmekkbhblghbmaaGreatDoor
open Go.RowKit

/-- Nothing that was there has turned; the first two new blocks are the variables that the closure captures: the bytes that are left, and whether all went well. -/
def Sb (w0 : World) (s : List UInt8) (ok : Bool) (W : World) : Prop :=
  Below w0.heap.size w0 W ∧ W.heap[w0.heap.size]? = some (.cells #[.string (bs s)] 9 (0, 0)) ∧ W.heap[w0.heap.size + 1]? = some (.cells #[.bool ok] 4 (0, 0))

/-- No block from B on has turned. -/
def Past (B : Nat) (W W' : World) : Prop := W.heap.size ≤ W'.heap.size ∧ ∀ j, B ≤ j → j < W.heap.size → W'.heap[j]? = W.heap[j]?

theorem Past.refl (B : Nat) (W : World) : Past B W W := ⟨Nat.le_refl _, fun _ _ _ => rfl⟩
theorem Past.trans {B : Nat} {W W' W'' : World} (h : Past B W W') (h2 : Past B W' W'') : Past B W W'' :=
  ⟨Nat.le_trans h.1 h2.1, fun j hj hlt => (h2.2 j hj (Nat.lt_of_lt_of_le hlt h.1)).trans (h.2 j hj hlt)⟩
theorem Past.below {B : Nat} {W W' : World} (h : Below W.heap.size W W') : Past B W W' := ⟨h.size, fun j _ hlt => h.block j hlt⟩
theorem Past.store {B : Nat} {W : World} {a : Addr} (ha : a.block < B) (v : Value) : Past B W (W.setCell a v) :=
  ⟨by simp, fun j hj _ => Below.heap_setCell _ _ _ _ (by omega)⟩
theorem Past.own {B : Nat} {W W' : World} (h : Past B W W') {n : Nat} {e : TypeId} {size : Nat} {v : Value} {xs : List Value} (ho : W.ownsRow B e size v n xs) : W'.ownsRow B e size v n xs := by
  have hl := ho.lt
  refine ⟨ho.1, ?_⟩
  rcases ho.2 with hn | ⟨g, cap, cur, rfl, hbg, hg, rest⟩
  · exact .inl hn
  · exact .inr ⟨g, cap, cur, rfl, hbg, by rw [h.2 g (hl g rfl).1 (hl g rfl).2]; exact hg, rest⟩

section
variable {w0 W W' : World} {s : List UInt8} {ok : Bool}
theorem Sb.lt (h : Sb w0 s ok W) : w0.heap.size + 1 < W.heap.size := lt_of_block h.2.2
theorem Sb.call (h : Sb w0 s ok W) (b : Below W.heap.size W W') : Sb w0 s ok W' := by
  have hl := h.lt
  have hz := b.size
  exact ⟨h.1.trans (b.mono h.1.size), by rw [b.block _ (by omega)]; exact h.2.1, by rw [b.block _ hl]; exact h.2.2⟩
theorem Sb.drew (h : Sb w0 s ok W) : Sb w0 s ok W.drew := ⟨h.1.drew, h.2⟩
theorem Sb.alloc (h : Sb w0 s ok W) (o : Obj) : Sb w0 s ok (W.alloc o) := h.call ((Below.refl _ _).alloc (Nat.le_refl _) _)
theorem Sb.cells (h : Sb w0 s ok W) : W.cell? ⟨w0.heap.size, 0, none⟩ = some (.string (bs s)) ∧ W.cell? ⟨w0.heap.size + 1, 0, none⟩ = some (.bool ok) ∧ W.frozen? ⟨w0.heap.size, 0, none⟩ = false ∧ W.frozen? ⟨w0.heap.size + 1, 0, none⟩ = false :=
  ⟨cell_of_one h.2.1, cell_of_one h.2.2, free_of_one h.2.1, free_of_one h.2.2⟩
theorem Sb.put (h : Sb w0 s ok W) (t : List UInt8) : Sb w0 t ok (W.setCell ⟨w0.heap.size, 0, none⟩ (.string (bs t))) :=
  ⟨h.1.setCell (p := ⟨w0.heap.size, 0, none⟩) (Nat.le_refl _) _, one_setCell h.2.1, by rw [Below.heap_setCell _ _ _ _ (by show w0.heap.size + 1 ≠ w0.heap.size; omega)]; exact h.2.2⟩
theorem Sb.set (h : Sb w0 s ok W) (b : Bool) : Sb w0 s b (W.setCell ⟨w0.heap.size + 1, 0, none⟩ (.bool b)) :=
  ⟨h.1.setCell (p := ⟨w0.heap.size + 1, 0, none⟩) (Nat.le_succ _) _, by rw [Below.heap_setCell _ _ _ _ (by show w0.heap.size ≠ w0.heap.size + 1; omega)]; exact h.2.1, one_setCell h.2.2⟩
theorem Sb.keep (h : Sb w0 s ok W) (b : Below w0.heap.size w0 W') (k : W'.heap[w0.heap.size]? = W.heap[w0.heap.size]?) (k2 : W'.heap[w0.heap.size + 1]? = W.heap[w0.heap.size + 1]?) : Sb w0 s ok W' := ⟨b, by rw [k]; exact h.2.1, by rw [k2]; exact h.2.2⟩
end

/-- What the closure leaves. -/
def NmPost (w0 : World) (most : Nat) (s : List UInt8) (ok : Bool) (W : World) (e : Ending) (W' : World) : Prop :=
  e = .returned (.int .u64 (((nm most s).1 : Nat) : Int)) ∧ Sb w0 (nm most s).2.1 (ok && (nm most s).2.2) W' ∧ Past (w0.heap.size + 2) W W'

theorem NmPost.no {w0 : World} {most : Nat} {s : List UInt8} {ok : Bool} {W W' : World} (h : nm most s = (0, s, false)) (hb : Sb w0 s ok W') (hp : Past (w0.heap.size + 2) W W') :
    NmPost w0 most s ok W (.returned (.int .u64 0)) (W'.setCell ⟨w0.heap.size + 1, 0, none⟩ (.bool false)) := by
  refine ⟨by rw [h]; rfl, ?_, hp.trans (Past.store (by show w0.heap.size + 1 < w0.heap.size + 2; omega) _)⟩
  rw [h, Bool.and_false]
  exact hb.set false
theorem NmPost.yes {w0 : World} {most n : Nat} {s r : List UInt8} {ok : Bool} {W W' : World} (h : nm most s = (n, r, true)) (hb : Sb w0 s ok W') (hp : Past (w0.heap.size + 2) W W') :
    NmPost w0 most s ok W (.returned (.int .u64 (n : Int))) (W'.setCell ⟨w0.heap.size, 0, none⟩ (.string (bs r))) := by
  refine ⟨by rw [h], ?_, hp.trans (Past.store (by show w0.heap.size < w0.heap.size + 2; omega) _)⟩
  rw [h, Bool.and_true]
  exact hb.put r

theorem takes_of (s : List UInt8) (hs : s.length ≤ 9223372036854775807) (n : Nat) (r : List UInt8) (e : Nat) (h : tk s = (n, r, e)) (w : World) :
    Calls Tryz.prog 128 #[.string (bs s)] w fun x w' => x = .returned (.tuple #[.int .u64 (n : Nat), .string (bs r), .int .i64 (e : Nat)]) ∧ Below w.heap.size w w' :=
  take_of (bs s) (by rw [bs_size]; exact hs) n r e (by rw [bs_list]; exact h) w

set_option maxRecDepth 100000 in
set_option maxHeartbeats 400000 in
theorem number_any (w0 : World) (most : Nat) (s : List UInt8) (ok : Bool) (W : World) (h : Sb w0 s ok W) (hs : s.length ≤ 9223372036854775807) :
    Calls Tryz.prog 135 #[.int .u64 (most : Int), .pointer (some ⟨w0.heap.size, 0, none⟩), .pointer (some ⟨w0.heap.size + 1, 0, none⟩)] W (NmPost w0 most s ok W) := by
  obtain ⟨n, r, er, ht⟩ : ∃ n r e, tk s = (n, r, e) := ⟨_, _, _, rfl⟩
  have H1 := Lib.hid fun w => takes_of s hs n r er ht w
  obtain ⟨c0, c1, f0, f1⟩ := h.cells
  have HS := Lib.hid h
  by_cases he : er = 0
  · subst he
    have hn := (tk_rest_le _ ht).1
    have hnm : n ≤ 18446744073709551615 := by unfold M64 at hn; omega
    by_cases hb : most < n
    · have HE := Lib.hid (nm_big ht hb)
      have hbi : (most : Int) < (n : Int) := by omega
      clear h ht hn hb
      generalize hS : bs s = S at *
      generalize hR : bs r = R at *
      clear hS hR
      go_enter Tryz.func135, Tryz.ntmps135
      go_wp2_with fail
      (with_reducible refine (H1.out _).mono ?_)
      rintro e w1 ⟨rfl, b1⟩
      have S1 := HS.out.call b1
      have P1 : Past (w0.heap.size + 2) W w1 := Past.below b1
      obtain ⟨d0, d1, e0, e1⟩ := S1.cells
      have HS1 := Lib.hid S1
      have HP1 := Lib.hid P1
      clear S1 P1 b1
      go_wp2_with fail
      go_ret
      exact NmPost.no HE.out HS1.out HP1.out
    · have HE := Lib.hid (nm_yes ht (by omega : n ≤ most))
      have hbi : ¬ (most : Int) < (n : Int) := by omega
      clear h ht hn hb
      generalize hS : bs s = S at *
      generalize hR : bs r = R at *
      have HRR := Lib.hid hR
      clear hS hR
      go_enter Tryz.func135, Tryz.ntmps135
      go_wp2_with fail
      (with_reducible refine (H1.out _).mono ?_)
      rintro e w1 ⟨rfl, b1⟩
      have S1 := HS.out.call b1
      have P1 : Past (w0.heap.size + 2) W w1 := Past.below b1
      obtain ⟨d0, d1, e0, e1⟩ := S1.cells
      have HS1 := Lib.hid S1
      have HP1 := Lib.hid P1
      clear S1 P1 b1
      go_wp2_with fail
      go_ret
      rw [← HRR.out]
      exact NmPost.yes HE.out HS1.out HP1.out
  · have HE := Lib.hid (nm_err (most := most) ht he)
    have hb0 : ((er : Int) != 0) = true := by rw [bne_iff_ne]; omega
    clear h ht
    generalize hS : bs s = S at *
    generalize hR : bs r = R at *
    clear hS hR
    go_enter Tryz.func135, Tryz.ntmps135
    go_wp2_with fail
    (with_reducible refine (H1.out _).mono ?_)
    rintro e w1 ⟨rfl, b1⟩
    have S1 := HS.out.call b1
    have P1 : Past (w0.heap.size + 2) W w1 := Past.below b1
    obtain ⟨d0, d1, e0, e1⟩ := S1.cells
    have HS1 := Lib.hid S1
    have HP1 := Lib.hid P1
    clear S1 P1 b1
    go_wp2_with fail
    go_ret
    exact NmPost.no HE.out HS1.out HP1.out

theorem number_of {w0 : World} {most : Nat} {s r : List UInt8} {n : Nat} {ok k : Bool} (m : Int) (hm : m = (most : Int)) (hn : nm most s = (n, r, k)) (W : World) (h : Sb w0 s ok W) (hs : s.length ≤ 9223372036854775807) :
    Calls Tryz.prog 135 #[.int .u64 m, .pointer (some ⟨w0.heap.size, 0, none⟩), .pointer (some ⟨w0.heap.size + 1, 0, none⟩)] W fun e W' => e = .returned (.int .u64 (n : Int)) ∧ Sb w0 r (ok && k) W' ∧ Past (w0.heap.size + 2) W W' := by
  subst hm
  refine (number_any w0 most s ok W h hs).mono ?_
  intro e W' hp
  unfold NmPost at hp
  rwa [hn] at hp

end Go.Proofs.YtmekkbhblghbmaaGreatDoor

/- What the call entries of package hint returns. -/
namespace Go.Proofs.YtmekkbhblghbmaaGreatDoor
open Go.RowKit

/-- Entries as cells. -/
def eflat (l : List Et) : List Value := l.flatMap fun e => [.string (bs e.k), .int .i64 e.o, .int .i64 e.l, .int .u64 ((e.q : Nat) : Int), .bool e.g]
theorem eflat_snoc (l : List Et) (e : Et) : eflat (l ++ [e]) = eflat l ++ [.string (bs e.k), .int .i64 e.o, .int .i64 e.l, .int .u64 ((e.q : Nat) : Int), .bool e.g] := by simp [eflat]
theorem eflat_get : ∀ (l : List Et) (i : Nat) (h : i < l.length), (eflat l)[i * 5]? = some (.string (bs l[i].k)) ∧ (eflat l)[i * 5 + 1]? = some (.int .i64 l[i].o) ∧ (eflat l)[i * 5 + 2]? = some (.int .i64 l[i].l) ∧ (eflat l)[i * 5 + 3]? = some (.int .u64 ((l[i].q : Nat) : Int)) ∧ (eflat l)[i * 5 + 4]? = some (.bool l[i].g)
  | r :: l, 0, _ => by simp [eflat]
  | r :: l, i + 1, h => by
    have := eflat_get l i (by simpa using h)
    have e : eflat (r :: l) = [.string (bs r.k), .int .i64 r.o, .int .i64 r.l, .int .u64 ((r.q : Nat) : Int), .bool r.g] ++ eflat l := by simp [eflat]
    have s : ∀ j, (eflat (r :: l))[(i + 1) * 5 + j]? = (eflat l)[i * 5 + j]? := fun j => by
      rw [e, List.getElem?_append_right (by simp; omega)]
      congr 1
      simp
      omega
    exact ⟨(s 0).trans this.1, (s 1).trans this.2.1, (s 2).trans this.2.2.1, (s 3).trans this.2.2.2.1, (s 4).trans this.2.2.2.2⟩

theorem owns_ents {t : TypeId} {w : World} {base : Nat} {v : Value} {l : List Et} (h : w.ownsRow base t 5 v l.length (eflat l)) : ∃ a cap, v = .slice a l.length cap ∧ EntsIn w a l := by
  have hl := h.lt
  have hc := fun g hg => h.cells (g := g) hg
  rcases h.2 with ⟨rfl, h0⟩ | ⟨g, cap, cur, rfl, hbg, hg, rest⟩
  · exact ⟨none, 0, by rw [h0], fun h1 => by omega⟩
  · refine ⟨_, cap, rfl, fun _ => ⟨g, 0, rfl, (hl g rfl).2, fun i hi => ?_⟩⟩
    obtain ⟨f0, f1, f2, f3, f4⟩ := eflat_get l i hi
    have key : ∀ j u, (eflat l)[j]? = some u → w.cell? ⟨g, j, none⟩ = some u := fun j u hu => by
      have := hc g rfl j u hu
      rwa [show (⟨g, 0, none⟩ : Addr).add j = ⟨g, j, none⟩ from by simp [Addr.add]; omega] at this
    have z : ∀ j, 0 + j = j := Nat.zero_add
    simp only [z]
    exact ⟨key _ _ f0, key _ _ f1, key _ _ f2, key _ _ f3, key _ _ f4⟩

theorem cell_five_new (w : World) (c0 c1 c2 c3 c4 : Value) (t : TypeId) : ∀ j u, [c0, c1, c2, c3, c4][j]? = some u → (w.alloc (.cells #[c0, c1, c2, c3, c4] t)).cell? ((⟨w.heap.size, 0, none⟩ : Addr).add j) = some u := by
  intro j u hu
  rw [show (⟨w.heap.size, 0, none⟩ : Addr).add j = ⟨w.heap.size, j, none⟩ from by simp [Addr.add]; omega, World.cell?_alloc_mark]
  simpa using hu

theorem infoEnt : (Tryz.prog.info? 51).map (fun i => (i.zero, i.size, i.bytes)) = some (some (.agg #[.string ⟨#[]⟩, .int .i64 0, .int .i64 0, .int .u64 0, .bool false]), 5, 48) := by kernel_rfl

/-- A block that is an entry's. -/
def Eb (E : Nat) (c0 c1 c2 c3 c4 : Value) (W : World) : Prop := W.heap[E]? = some (.cells #[c0, c1, c2, c3, c4] 51 (0, 0))

section
variable {E B : Nat} {c0 c1 c2 c3 c4 : Value} {W W' : World}
theorem Eb.past (h : Eb E c0 c1 c2 c3 c4 W) (p : Past B W W') (hB : B ≤ E) : Eb E c0 c1 c2 c3 c4 W' := (p.2 E hB (lt_of_block h)).trans h
theorem Eb.made (W : World) (c0 c1 c2 c3 c4 : Value) : Eb W.heap.size c0 c1 c2 c3 c4 (W.alloc (.cells #[c0, c1, c2, c3, c4] 51)) := heap_alloc_new W _
theorem Eb.cells (h : Eb E c0 c1 c2 c3 c4 W) : (W.cell? ⟨E, 0, none⟩ = some c0 ∧ W.cell? ⟨E, 1, none⟩ = some c1 ∧ W.cell? ⟨E, 2, none⟩ = some c2 ∧ W.cell? ⟨E, 3, none⟩ = some c3 ∧ W.cell? ⟨E, 4, none⟩ = some c4) ∧
    W.frozen? ⟨E, 2, none⟩ = false ∧ W.frozen? ⟨E, 3, none⟩ = false ∧ W.frozen? ⟨E, 4, none⟩ = false :=
  ⟨⟨by rw [Lib.cell_of_heap h]; rfl, by rw [Lib.cell_of_heap h]; rfl, by rw [Lib.cell_of_heap h]; rfl, by rw [Lib.cell_of_heap h]; rfl, by rw [Lib.cell_of_heap h]; rfl⟩, Lib.frozen_of_heap h 2, Lib.frozen_of_heap h 3, Lib.frozen_of_heap h 4⟩
theorem Eb.set2 (h : Eb E c0 c1 c2 c3 c4 W) (v : Value) : Eb E c0 c1 v c3 c4 (W.setCell ⟨E, 2, none⟩ v) := heap_setCell_same W E 2 _ _ v h
theorem Eb.set3 (h : Eb E c0 c1 c2 c3 c4 W) (v : Value) : Eb E c0 c1 c2 v c4 (W.setCell ⟨E, 3, none⟩ v) := heap_setCell_same W E 3 _ _ v h
theorem Eb.set4 (h : Eb E c0 c1 c2 c3 c4 W) (v : Value) : Eb E c0 c1 c2 c3 v (W.setCell ⟨E, 4, none⟩ v) := heap_setCell_same W E 4 _ _ v h
end

theorem Sb.other {w0 W : World} {s : List UInt8} {ok : Bool} (h : Sb w0 s ok W) {E : Nat} (hE : w0.heap.size + 2 ≤ E) (i : Nat) (v : Value) : Sb w0 s ok (W.setCell ⟨E, i, none⟩ v) :=
  ⟨h.1.setCell (p := ⟨E, i, none⟩) (by show w0.heap.size ≤ E; omega) _, by rw [Below.heap_setCell _ _ _ _ (by show w0.heap.size ≠ E; omega)]; exact h.2.1, by rw [Below.heap_setCell _ _ _ _ (by show w0.heap.size + 1 ≠ E; omega)]; exact h.2.2⟩

theorem Sb.made (w : World) (c : List UInt8) : Sb w c true ((w.alloc (.cells #[.string (bs c)] 9)).alloc (.cells #[.bool true] 4)) :=
  ⟨((Below.refl _ _).alloc (Nat.le_refl _) _).alloc (by simp) _, heap_alloc2_old w _ _, heap_alloc2_new w _ _⟩

theorem Sb.grown {w0 W W' : World} {s : List UInt8} {ok : Bool} (h : Sb w0 s ok W) {n : Nat} {e : TypeId} {size : Nat} {v : Value} {xs : List Value} (ho : W.ownsRow (w0.heap.size + 2) e size v n xs) (hg : W.grownBy W' v.ownBlock) : Sb w0 s ok W' := by
  have hl := ho.lt
  have hlt := h.lt
  refine ⟨h.1.grown hg h.1.size (fun j hj => ?_), ?_, ?_⟩
  · have := (hl j hj).1; omega
  · rw [hg.block _ (by omega) (fun q => by have := (hl _ q.symm).1; omega)]; exact h.2.1
  · rw [hg.block _ hlt (fun q => by have := (hl _ q.symm).1; omega)]; exact h.2.2

/-- It lies in memory from B on. -/
def NewA (B : Nat) (a : Option Addr) : Prop := ∀ A, a = some A → B ≤ A.block
theorem NewA.mono {B B' : Nat} {a : Option Addr} (h : NewA B a) (hB : B' ≤ B) : NewA B' a := fun A hA => Nat.le_trans hB (h A hA)
theorem owns_ents2 {t : TypeId} {w : World} {base : Nat} {v : Value} {l : List Et} (h : w.ownsRow base t 5 v l.length (eflat l)) : ∃ a cap, v = .slice a l.length cap ∧ EntsIn w a l ∧ NewA base a := by
  obtain ⟨a, cap, rfl, hr⟩ := owns_ents h
  refine ⟨a, cap, rfl, hr, fun A hA => ?_⟩
  subst hA
  rcases h.2 with ⟨e, _⟩ | ⟨g, _, _, e, hb, _⟩
  · cases e
  · injection e with e1
    injection e1 with e1
    rw [e1]; exact hb

/-- What entries leaves. -/
def EnPost (w : World) (x : Option (List Et)) (e : Ending) (w' : World) : Prop :=
  Below w.heap.size w w' ∧ match x with
    | some l => ∃ a cap, e = .returned (.tuple #[.slice a l.length cap, .bool true]) ∧ EntsIn w' a l ∧ NewA w.heap.size a
    | none => ∃ v, e = .returned (.tuple #[v, .bool false])

theorem EnPost.no {w w' : World} {x : Option (List Et)} (h : x = none) (hb : Below w.heap.size w w') (v : Value) : EnPost w x (.returned (.tuple #[v, .bool false])) w' := by
  subst h; exact ⟨hb, v, rfl⟩
theorem EnPost.yes {w w' : World} {x : Option (List Et)} {l : List Et} (h : x = some l) (hb : Below w.heap.size w w') {a : Option Addr} {cap : Nat} (hr : EntsIn w' a l) (hn : NewA w.heap.size a) : EnPost w x (.returned (.tuple #[.slice a l.length cap, .bool true])) w' := by
  subst h; exact ⟨hb, a, cap, rfl, hr, hn⟩

theorem half_of (z : Nat) : ∃ (h : Nat) (b : Bool), (z : Int) / 2 = (h : Int) ∧ ((z : Int) % 2 == 1) = b ∧ ((z / 2 : Nat) : Int) = (h : Int) ∧ decide (z % 2 = 1) = b ∧ h ≤ z := by
  refine ⟨z / 2, decide (z % 2 = 1), by omega, ?_, rfl, rfl, by omega⟩
  by_cases h : z % 2 = 1
  · rw [decide_eq_true h, beq_iff_eq]; omega
  · rw [decide_eq_false h, beq_eq_false_iff_ne]; omega

theorem mk5_fit {k : List UInt8} {o z q : Nat} (hk : k.length ≤ 9223372036854775807) (ho : o ≤ 1048576) (hz : z ≤ 1000) (hq : q ≤ 18446744073709551615) : EFit (mk5 k o z q) := by
  refine ⟨hk, ⟨?_, ?_⟩, ⟨?_, ?_⟩, hq⟩ <;> (simp only [mk5]; omega)

theorem ev_mk5 (k : List UInt8) (o z q : Nat) {h : Nat} {b : Bool} (h1 : ((z / 2 : Nat) : Int) = (h : Int)) (h2 : decide (z % 2 = 1) = b) : ev (mk5 k o z q) = .agg #[.string (bs k), .int .i64 (o : Int), .int .i64 (h : Int), .int .u64 (q : Int), .bool b] := by
  simp only [ev, mk5, h1, h2]

set_option maxRecDepth 100000 in
set_option maxHeartbeats 2000000 in
theorem entries_any (c : List UInt8) (w : World) (hc : c.length ≤ 2000000) :
    Calls Tryz.prog 114 #[.string (bs c)] w (EnPost w (ents c)) := by
  obtain ⟨i0, hi, hz0, hz1, hz2⟩ := info_parts infoEnt
  have HI := Lib.hid (And.intro hi (And.intro hz0 (And.intro hz1 hz2)))
  clear hi hz0 hz1 hz2
  have hmf : ∀ (fn : Fn) (first cap : Array Value) (w : World), (Instr.makeFunc fn first cap).run Tryz.prog w = .ok (.func fn first cap) w := fun _ _ _ _ => rfl
  obtain ⟨n, r, ok, hn⟩ : ∃ n r k, nm 2000 c = (n, r, k) := ⟨_, _, _, rfl⟩
  have hle := nm_le 2000 c
  rw [hn] at hle
  obtain ⟨hle1, hle2⟩ : n ≤ 2000 ∧ r.length ≤ c.length := hle
  have S0 := Lib.hid (Sb.made w c)
  have HN := Lib.hid fun W (h : Sb w c true W) => number_of 2000 rfl hn W h (by omega)
  have HNN := Lib.hid hn
  clear hn
  generalize hC : bs c = C at *
  clear hC
  go_enter Tryz.func114, Tryz.ntmps114
  go_wp2_with fail
  (with_reducible refine (HN.out _ S0.out).mono ?_)
  rintro e w1 ⟨rfl, s1, p1⟩
  rw [Bool.true_and] at s1
  have S1 := Lib.hid s1
  clear s1 p1 HN S0
  cases ok with
  | false =>
    have hz : n = 0 := by
      have := HNN.out
      obtain ⟨n', r', e, ht⟩ : ∃ n r e, tk c = (n, r, e) := ⟨_, _, _, rfl⟩
      by_cases he : e = 0
      · subst he
        by_cases hb : n' ≤ 2000
        · rw [nm_yes ht hb] at this; simp at this
        · rw [nm_big ht (by omega)] at this; simp at this; exact this.1.symm
      · rw [nm_err ht he] at this; simp at this; exact this.1.symm
    subst hz
    obtain ⟨c0, c1, _, _⟩ := S1.out.cells
    have HE := Lib.hid (ents_no HNN.out)
    generalize bs r = R at *
    go_wp2_with fail
    refine wp_loop_rounds 1 ?_
    rw [rounds_succ]
    go_wp2_with fail
    go_quiet (fail)
    go_wp2_with fail
    go_ret2
    exact EnPost.no HE.out (below_drewN S1.out.1 _) _
  | true =>
    go_wp2_with fail
    go_loopw [6, 15] (fun v i wr => ∃ (u : Value) (s : List UInt8) (acc : List Et) (m j : Nat), u = v ∧ i = .int .u64 j ∧ j + m = n ∧ acc.length = j ∧ s.length ≤ c.length ∧ entsF m s acc = entsF n r [] ∧ wr.ownsRow (w.heap.size + 2) 51 5 v acc.length (eflat acc) ∧ Sb w s true wr) (fun _ i _ => n - (intOf i).toNat)
    case atStart => exact ⟨_, r, [], n, 0, rfl, rfl, by omega, rfl, hle2, rfl, World.ownsRow_nil _ _ _ _, S1.out⟩
    case round =>
      obtain ⟨u, s, acc, m, j, rfl, rfl, hjm, haj, hsl, hr, hown, hs⟩ := hrel
      have HR := Lib.hid hr
      have HO := Lib.hid hown
      have HS := Lib.hid hs
      have HAJ := Lib.hid haj
      obtain ⟨c0, c1, f0, f1⟩ := hs.cells
      clear hr hown hs haj S1
      cases m with
      | zero =>
        have hlti : ¬ (j : Int) < (n : Int) := by omega
        have hend : entsF n r [] = some (acc, s) := by rw [← HR.out]; rfl
        have hen := ents_of HNN.out hend
        obtain ⟨a, cap, rfl, hrec, hnew⟩ := owns_ents2 HO.out
        have HC := Lib.hid hrec; have HNW := Lib.hid hnew
        clear hnew
        clear hrec hend
        by_cases hs0 : s = []
        · rw [if_pos hs0] at hen
          have HE := Lib.hid hen
          subst hs0
          clear hen
          rw [show bs ([] : List UInt8) = ⟨#[]⟩ from rfl] at c0
          go_wp2_with fail
          go_quiet (fail)
          go_wp2_with fail
          go_ret2
          exact EnPost.yes HE.out (below_drewN HS.out.1 _) (HC.out.later (below_drewN (Below.refl _ _) _) (Nat.le_refl _)) (HNW.out.mono (by first | exact Nat.le_refl _ | omega | (simp; done) | (simp; omega)))
        · rw [if_neg hs0] at hen
          have HE := Lib.hid hen
          have hne := bs_ne hs0
          have hne2 : (bs s).toList.isEmpty = false := List.isEmpty_eq_false_iff.2 hne
          clear hen
          generalize bs s = S at *
          go_wp2_with fail
          go_quiet (fail)
          go_wp2_with fail
          go_ret2
          exact EnPost.no HE.out (below_drewN HS.out.1 _) _
      | succ m =>
        have hlti : (j : Int) < (n : Int) := by omega
        obtain ⟨k, r1, e, ho⟩ : ∃ k r e, ot s = (k, r, e) := ⟨_, _, _, rfl⟩
        have H1 := Lib.hid (oftext_of s (by omega) k r1 e ho)
        by_cases he : e = 0
        · subst he
          obtain ⟨o, r2, k1, h1⟩ : ∃ o r k, nm 1048576 r1 = (o, r, k) := ⟨_, _, _, rfl⟩
          obtain ⟨z, r3, k2, h2⟩ : ∃ o r k, nm 801 r2 = (o, r, k) := ⟨_, _, _, rfl⟩
          obtain ⟨q, r4, k3, h3⟩ : ∃ o r k, nm 1099511627776 r3 = (o, r, k) := ⟨_, _, _, rfl⟩
          have l0 := (ot_rest_le ho).1
          have l0' := (ot_rest_le ho).2
          have l1 : o ≤ 1048576 ∧ r2.length ≤ r1.length := by have := nm_le 1048576 r1; rwa [h1] at this
          have l2 : z ≤ 801 ∧ r3.length ≤ r2.length := by have := nm_le 801 r2; rwa [h2] at this
          have l3 : q ≤ 1099511627776 ∧ r4.length ≤ r3.length := by have := nm_le 1099511627776 r3; rwa [h3] at this
          have N1 := Lib.hid fun W (h : Sb w r1 true W) => number_of 1048576 rfl h1 W h (by omega)
          have N2 := Lib.hid fun W (h : Sb w r2 k1 W) => number_of 801 rfl h2 W h (by omega)
          have N3 := Lib.hid fun W (h : Sb w r3 (k1 && k2) W) => number_of 1099511627776 rfl h3 W h (by omega)
          obtain ⟨hf, b, g1, g2, g3, g4, g5⟩ := half_of z
          have hv := fun W => valid_any (mk5 k o z q) W (mk5_fit (by omega) l1.1 (by omega) (by omega))
          have he1 := e1_of ho h1 h2 h3
          obtain ⟨bb, hbb⟩ : ∃ bb, eright (mk5 k o z q) = bb := ⟨_, rfl⟩
          obtain ⟨kk, hkk⟩ : ∃ kk, (k1 && k2 && k3) = kk := ⟨_, rfl⟩
          rw [ev_mk5 k o z q g3 g4, hbb] at hv
          rw [hbb, hkk] at he1
          have HKK := Lib.hid hkk
          have HV := Lib.hid hv
          have HE1 := Lib.hid he1
          have HLL := Lib.hid (And.intro l0 (And.intro l1.2 (And.intro l2.2 l3.2)))
          have w1' := IntWalk.i64_in (o : Int) ⟨by omega, by omega⟩
          have w2' := IntWalk.i64_in (hf : Int) ⟨by omega, by omega⟩
          have l1' := l1.1
          have l2' := l2.1
          have l3' := l3.1
          have HEV := Lib.hid (show ev (mk5 k o z q) = _ from ev_mk5 k o z q g3 g4)
          clear ho h1 h2 h3 l0 l0' l1 l2 l3 hv g3 g4 he1 hbb hkk
          go_wp2_with fail
          (with_reducible refine (H1.out _).mono ?_)
          rintro e w2 ⟨rfl, b2⟩
          have S2 := HS.out.call b2
          obtain ⟨d0, d1, e0, e1'⟩ := S2.cells
          have HS2 := Lib.hid (S2.put r1)
          have HO2 := Lib.hid ((Past.below (B := w.heap.size + 2) b2).trans (Past.store (a := ⟨w.heap.size, 0, none⟩) (by show w.heap.size < w.heap.size + 2; omega) (.string (bs r1))))
          clear S2 b2 c0 c1 f0 f1
          go_wp2_with fail
          (with_reducible refine (N1.out _ HS2.out).mono ?_)
          rintro e w3 ⟨rfl, s3, p3⟩
          rw [Bool.true_and] at s3
          have HS3 := Lib.hid s3
          have O3 := Lib.hid ((HO2.out.trans p3).own HO.out)
          have HNE : Hid (u.ownBlock ≠ some w3.heap.size) := Lib.hid fun q => by have := (O3.out.lt _ q).2; omega
          have E3 := Lib.hid (Eb.made w3 (.string (bs k)) (.int .i64 (o : Int)) (.int .i64 0) (.int .u64 0) (.bool false))
          have lt3 : w.heap.size + 2 ≤ w3.heap.size := by have := s3.lt; omega
          clear HS2 HO2 s3 p3 N1 H1 d0 d1 e0 e1'
          go_wp2_with fail
          (with_reducible refine (N2.out _ (HS3.out.alloc _)).mono ?_)
          rintro e w4 ⟨rfl, s4, p4⟩
          have E4 := E3.out.past p4 lt3
          obtain ⟨⟨d0, d1, d2, d3, d4⟩, e2, e3, e4⟩ := E4.cells
          have HS4 := Lib.hid s4
          have O4 := Lib.hid (p4.own (O3.out.alloc (.cells #[.string (bs k), .int .i64 (o : Int), .int .i64 0, .int .u64 0, .bool false] 51)))
          have HE4 := Lib.hid E4
          clear HS3 O3 E3 s4 p4 E4 N2
          generalize w3.heap.size = E at *
          go_wp2_with fail
          (with_reducible refine (N3.out _ ((HS4.out.other lt3 2 _).other lt3 4 _)).mono ?_)
          rintro e w5 ⟨rfl, s5, p5⟩
          rw [HKK.out] at s5
          have E5 := ((HE4.out.set2 (.int .i64 (hf : Int))).set4 (.bool b)).past p5 lt3
          have O5 := Lib.hid (p5.own (ownsRow_setCell_other (ownsRow_setCell_other O4.out (a := ⟨E, 2, none⟩) HNE.out (.int .i64 (hf : Int))) (a := ⟨E, 4, none⟩) HNE.out (.bool b)))
          obtain ⟨⟨d0', d1', d2', d3', d4'⟩, e2', e3', e4'⟩ := E5.cells
          obtain ⟨c0, c1, f0, f1⟩ := s5.cells
          have HS5 := Lib.hid s5
          have HE5 := Lib.hid E5
          clear s5 p5 E5 O4 HE4 HS4 N3 d0 d1 d2 d3 d4 e2 e3 e4 HKK
          cases kk with
          | false =>
            have HE := Lib.hid (ents_bad HNN.out (by rw [← HR.out, entsF_none (by rw [HE1.out]; rfl)]))
            clear HE1
            go_wp2_with fail
            go_ret2
            exact EnPost.no HE.out (HS5.out.other lt3 3 _).1 _
          | true =>
            have HS5' := Lib.hid (HS5.out.other lt3 3 (.int .u64 (q : Int)))
            have HE5' := Lib.hid (HE5.out.set3 (.int .u64 (q : Int)))
            have O5' := Lib.hid (ownsRow_setCell_other O5.out (a := ⟨E, 3, none⟩) HNE.out (.int .u64 (q : Int)))
            cases bb with
            | false =>
              have HE := Lib.hid (ents_bad HNN.out (by rw [← HR.out, entsF_none (by rw [HE1.out]; rfl)]))
              clear HE1 HS5 HE5 O5
              go_wp2_with fail
              (with_reducible refine (HV.out _).mono ?_)
              rintro e w6 ⟨rfl, b6⟩
              go_wp2_with fail
              go_ret2
              exact EnPost.no HE.out (HS5'.out.call b6).1 _
            | true =>
              have HN6 : Hid (entsF m r4 (acc ++ [mk5 k o z q]) = entsF n r []) := Lib.hid (by rw [← HR.out, entsF_some (by rw [HE1.out]; rfl)])
              clear HE1 HS5 HE5 O5
              go_wp2_with fail
              (with_reducible refine (HV.out _).mono ?_)
              rintro e w6 ⟨rfl, b6⟩
              have S6 := Lib.hid (HS5'.out.call b6)
              have E6 : Eb E _ _ _ _ _ w6 := HE5'.out.past (Past.below b6) lt3
              obtain ⟨⟨d0, d1, d2, d3, d4⟩, _, _, _⟩ := E6.cells
              have O6 := Lib.hid (owns_later O5'.out b6)
              have lt6 := S6.out.lt
              have hal : acc.length ≤ 2000 := by have := HAJ.out; omega
              have HSn := Lib.hid (show eflat (acc ++ [mk5 k o z q]) = eflat acc ++ [.string (bs k), .int .i64 (o : Int), .int .i64 (hf : Int), .int .u64 (q : Int), .bool b] from by
                have := HEV.out
                simp only [ev, Value.agg.injEq, Array.mk.injEq, List.cons.injEq, and_true] at this
                obtain ⟨t0, t1, t2, t3, t4⟩ := this
                rw [eflat_snoc, t0, t1, t2, t3, t4])
              clear HS5' HE5' O5' b6 E6 HEV
              go_wp2_with (at_builtin; refine wpList_append_own _ rfl _ _ 37 rfl (w.heap.size + 2) 51 i0 (.agg #[.string ⟨#[]⟩, .int .i64 0, .int .i64 0, .int .u64 0, .bool false]) 5 48 Tryz.underlying37 HI.out.1 HI.out.2.1 HI.out.2.2.1 HI.out.2.2.2 rfl (by decide) _ _ _ rfl (O6.out.alloc _) ⟨w6.heap.size, 0, none⟩ 1 1 [.string (bs k), .int .i64 (o : Int), .int .i64 (hf : Int), .int .u64 (q : Int), .bool b] rfl rfl ?c1 (fun x hx => by simp at hx; rcases hx with rfl | rfl | rfl | rfl | rfl <;> rfl) (by unfold maxLen; omega) (by omega) (by simp; omega) ?_)
              case c1 => exact cell_five_new w6 _ _ _ _ _ _
              intro v' w7 hown' hgrow _
              have S7 := Lib.hid ((S6.out.alloc _).grown (O6.out.alloc _) hgrow)
              have O7 := Lib.hid hown'
              clear hown' hgrow
              go_wp2_with fail
              go_roundw
              case rel => exact ⟨_, r4, acc ++ [mk5 k o z q], m, j + 1, rfl, by go_num, by omega, by simp [HAJ.out], by have := HLL.out; omega, HN6.out, by rw [HSn.out, List.length_append]; exact O7.out, S7.out⟩
              case measure => simp [intOf]; omega
        · have HE := Lib.hid (ents_bad HNN.out (by rw [← HR.out, entsF_none (e1_err ho he)]))
          have hb0 : ((e : Int) != 0) = true := by rw [bne_iff_ne]; omega
          clear ho
          generalize bs s = S1 at *
          generalize bs k = K1 at *
          generalize bs r1 = R1 at *
          go_wp2_with fail
          (with_reducible refine (H1.out _).mono ?_)
          rintro e w2 ⟨rfl, b2⟩
          go_wp2_with fail
          go_ret2
          exact EnPost.no HE.out (HS.out.call b2).1 _

end Go.Proofs.YtmekkbhblghbmaaGreatDoor

/- What the call Read of package hint returns, and the document's own Read of layer 5. -/
namespace Go.Proofs.YtmekkbhblghbmaaGreatDoor
open Go.RowKit

/-- What Read leaves. -/
def HrPost (w : World) (x : List Et × Nat) (e : Ending) (w' : World) : Prop :=
  ∃ a cap, e = .returned (.tuple #[.slice a x.1.length cap, .int .i64 ((x.2 : Nat) : Int)]) ∧ EntsIn w' a x.1 ∧ Below w.heap.size w w'

/-- .. in memory that is new. -/
def HrPostN (w : World) (x : List Et × Nat) (e : Ending) (w' : World) : Prop :=
  ∃ a cap, e = .returned (.tuple #[.slice a x.1.length cap, .int .i64 ((x.2 : Nat) : Int)]) ∧ EntsIn w' a x.1 ∧ NewA w.heap.size a ∧ Below w.heap.size w w'
theorem HrPostN.hr {w w' : World} {x : List Et × Nat} {e : Ending} (h : HrPostN w x e w') : HrPost w x e w' := by
  obtain ⟨a, cap, h1, h2, _, h3⟩ := h
  exact ⟨a, cap, h1, h2, h3⟩
theorem HrPostN.no {w w' : World} {x : List Et × Nat} {n : Nat} (h : x = ([], n)) (hb : Below w.heap.size w w') : HrPostN w x (.returned (.tuple #[.slice none 0 0, .int .i64 (n : Int)])) w' := by
  subst h
  exact ⟨none, 0, rfl, EntsIn.nil _ _, fun A hA => (by cases hA), hb⟩
theorem HrPostN.yes {w w' : World} {x : List Et × Nat} {l : List Et} (h : x = (l, 0)) (hb : Below w.heap.size w w') {a : Option Addr} {cap : Nat} (hr : EntsIn w' a l) (hn : NewA w.heap.size a) : HrPostN w x (.returned (.tuple #[.slice a l.length cap, .int .i64 0])) w' := by
  subst h
  exact ⟨a, cap, rfl, hr, hn, hb⟩

set_option maxRecDepth 100000 in
set_option maxHeartbeats 400000 in
theorem hreadN_any (b : List UInt8) (w : World) (hb : b.length ≤ 2000000) :
    Calls Tryz.prog 70 #[.string (bs b)] w (HrPostN w (hrd b)) := by
  obtain ⟨c, ok, h⟩ : ∃ c ok, opn b = (c, ok) := ⟨_, _, rfl⟩
  have hc := opn_le h
  have H1 := Lib.hid (opens_of b (by omega) c ok h)
  cases ok with
  | false =>
    have HE := Lib.hid (hrd_sum h)
    clear h
    go_enter Tryz.func70, Tryz.ntmps70
    go_wp2_with fail
    (with_reducible refine (H1.out _).mono ?_)
    rintro e w1 ⟨rfl, b1⟩
    go_wp2_with fail
    go_ret2
    exact HrPostN.no HE.out b1
  | true =>
    have h2 := fun W => entries_any c W (by omega)
    cases he : ents c with
    | none =>
      have HE := Lib.hid (hrd_form h he)
      rw [he] at h2
      have H2 := Lib.hid h2
      clear h h2 he
      go_enter Tryz.func70, Tryz.ntmps70
      go_wp2_with fail
      (with_reducible refine (H1.out _).mono ?_)
      rintro e w1 ⟨rfl, b1⟩
      go_wp2_with fail
      (with_reducible refine (H2.out _).mono ?_)
      rintro e w2 ⟨b2, v, rfl⟩
      go_wp2_with fail
      go_ret2
      exact HrPostN.no HE.out (b1.trans (b2.mono b1.size))
    | some l =>
      have HE := Lib.hid (hrd_yes h he)
      rw [he] at h2
      have H2 := Lib.hid h2
      clear h h2 he
      go_enter Tryz.func70, Tryz.ntmps70
      go_wp2_with fail
      (with_reducible refine (H1.out _).mono ?_)
      rintro e w1 ⟨rfl, b1⟩
      go_wp2_with fail
      (with_reducible refine (H2.out _).mono ?_)
      rintro e w2 ⟨b2, a, cap, rfl, hr, hn⟩
      have HR := Lib.hid hr; have HN := Lib.hid hn
      clear hr hn
      go_wp2_with fail
      go_ret2
      exact HrPostN.yes HE.out (b1.trans (b2.mono b1.size)) HR.out (HN.out.mono b1.size)

theorem tk_len {s r : List UInt8} {n e : Nat} (h : tk s = (n, r, e)) : n ≤ 18446744073709551615 ∧ r.length ≤ s.length := by
  rcases tk_cases s with ⟨q, _⟩ | q | ⟨n', r', q, hn, hs⟩
  · rw [h] at q; simp at q; obtain ⟨rfl, rfl, rfl⟩ := q; simp
  · rw [h] at q; simp at q; obtain ⟨rfl, rfl, rfl⟩ := q; simp
  · rw [h] at q; simp at q; obtain ⟨rfl, rfl, rfl⟩ := q
    unfold M64 at hn
    exact ⟨by omega, by rw [hs]; simp⟩

theorem ot_len {s k r : List UInt8} {e : Nat} (h : ot s = (k, r, e)) : k.length ≤ s.length ∧ r.length ≤ s.length := by
  by_cases he : e = 0
  · subst he
    exact ⟨(ot_rest_le h).2, (ot_rest_le h).1⟩
  · rcases tk_cases s with ⟨q, _⟩ | q | ⟨n', r', q, hn, hs⟩
    · rw [ot_err q (by omega)] at h; simp at h; obtain ⟨rfl, rfl, rfl⟩ := h; simp
    · rw [ot_err q (by omega)] at h; simp at h; obtain ⟨rfl, rfl, rfl⟩ := h; simp
    · by_cases hq : r'.length < n'
      · rw [ot_short q hq] at h; simp at h; obtain ⟨rfl, rfl, rfl⟩ := h; simp
      · rw [ot_yes q hq] at h; simp at h; omega

theorem reftakes_of (s : List UInt8) (hs : s.length ≤ 9223372036854775807) (n : Nat) (r : List UInt8) (e : Nat) (h : tk s = (n, r, e)) (w : World) :
    Calls Tryz.prog 105 #[.string (bs s)] w fun x w' => x = .returned (.tuple #[.int .u64 (n : Nat), .string (bs r), .int .i64 (e : Nat)]) ∧ Below w.heap.size w w' := by
  have := reftake_any (bs s) w (by rw [bs_size]; exact hs)
  rw [bs_list, tkV, h] at this
  exact this

theorem infoRefEnt : (Tryz.prog.info? 53).map (fun i => (i.zero, i.size, i.bytes)) = some (some (.agg #[.string ⟨#[]⟩, .int .i64 0, .int .i64 0, .int .u64 0, .bool false]), 5, 48) := by kernel_rfl

set_option maxRecDepth 100000 in
set_option maxHeartbeats 2000000 in
theorem refhreadN_any (b : List UInt8) (w : World) (hb : b.length ≤ 2000000) :
    Calls Tryz.prog 66 #[.string (bs b)] w (HrPostN w (hrd b)) := by
  obtain ⟨i0, hi, hz0, hz1, hz2⟩ := info_parts infoRefEnt
  have HI := Lib.hid (And.intro hi (And.intro hz0 (And.intro hz1 hz2)))
  clear hi hz0 hz1 hz2
  obtain ⟨c, ok, h⟩ : ∃ c ok, opn b = (c, ok) := ⟨_, _, rfl⟩
  have hc := opn_le h
  have H1 := Lib.hid (refopens_of b (by omega) c ok h)
  cases ok with
  | false =>
    have HE := Lib.hid (hrd_sum h)
    clear h
    go_enter Tryz.func66, Tryz.ntmps66
    go_wp2_with fail
    (with_reducible refine (H1.out _).mono ?_)
    rintro e w1 ⟨rfl, b1⟩
    go_wp2_with fail
    go_ret2
    exact HrPostN.no HE.out b1
  | true =>
    obtain ⟨n, r, e, ht⟩ : ∃ n r e, tk c = (n, r, e) := ⟨_, _, _, rfl⟩
    have H2 := Lib.hid (reftakes_of c (by omega) n r e ht)
    have htl := (tk_len ht).2
    by_cases he : e = 0
    · subst he
      have HH := Lib.hid (And.intro h ht)
      clear h ht
      generalize hB : bs b = B at *
      have HB := Lib.hid hB
      clear hB
      go_enter Tryz.func66, Tryz.ntmps66
      go_wp2_with fail
      (with_reducible refine (H1.out _).mono ?_)
      rintro e w1 ⟨rfl, b1⟩
      go_wp2_with fail
      (with_reducible refine (H2.out _).mono ?_)
      rintro e w2 ⟨rfl, b2⟩
      have B2 := Lib.hid (b1.trans (b2.mono b1.size))
      clear b1 b2 H1 H2
      go_wp2_with fail
      go_loopw [4, 8] (fun s v wr => ∃ (x : List UInt8) (acc : List Et) (m : Nat), s = .string (bs x) ∧ x.length < m ∧ acc.length + x.length ≤ b.length ∧ EFits acc ∧ xF m x acc = xF (r.length + 1) r [] ∧ wr.ownsRow w.heap.size 53 5 v acc.length (eflat acc) ∧ Below w.heap.size w wr) (fun s _ _ => strLen s)
      case atStart => exact ⟨r, [], r.length + 1, rfl, by omega, by simp; omega, fun e he => by simp at he, rfl, World.ownsRow_nil _ _ _ _, B2.out⟩
      case round =>
        obtain ⟨x, acc, m, rfl, hm, hl, hfit, hr, hown, hbw⟩ := hrel
        obtain ⟨m, rfl⟩ : ∃ n, m = n + 1 := ⟨m - 1, by omega⟩
        have HR := Lib.hid hr
        have HO := Lib.hid hown
        have HFT := Lib.hid hfit
        clear hr hown hfit B2
        by_cases hx : x = []
        · subst hx
          have hend : xF (r.length + 1) r [] = some acc := by rw [← HR.out, xF_nil]
          have HE := Lib.hid (ref_end HH.out.1 HH.out.2 hend)
          clear hend
          rw [show bs ([] : List UInt8) = ⟨#[]⟩ from rfl]
          obtain ⟨a, cap, rfl, hrec, hnew⟩ := owns_ents2 HO.out
          have HNW := Lib.hid hnew
          clear hnew
          have hby := refhbytes_any acc a cap wr (by omega) hrec HFT.out
          have HC := Lib.hid hrec
          obtain ⟨y, f, hyf⟩ : ∃ y f, hbs acc = (y, f) := ⟨_, _, rfl⟩
          rw [hbV, hyf] at hby
          have HY := Lib.hid hby
          by_cases hf0 : f = 0
          · subst hf0
            by_cases hyb : y = b
            · subst hyb
              have HE2 : Hid (hrd y = (acc, 0)) := Lib.hid (by rw [HE.out, if_pos hyf])
              have hcmp : ((bs y).toList == B.toList) = true := by rw [HB.out]; simp
              clear hby hrec hyf HE
              generalize bs y = Y at *
              go_wp2_with fail
              (with_reducible refine (HY.out).mono ?_)
              rintro e w3 ⟨rfl, b3⟩
              go_wp2_with fail
              go_ret2
              exact HrPostN.yes HE2.out (hbw.trans (b3.mono hbw.size)) (HC.out.later b3 (Nat.le_refl _)) HNW.out
            · have HE2 : Hid (hrd b = ([], 2)) := Lib.hid (by rw [HE.out, if_neg (by rw [hyf]; simpa using hyb)])
              have hcmp : ((bs y).toList == B.toList) = false := by rw [← HB.out, bs_toList, bs_toList, beq_eq_false_iff_ne]; exact hyb
              clear hby hrec hyf HE hyb
              generalize bs y = Y at *
              go_wp2_with fail
              (with_reducible refine (HY.out).mono ?_)
              rintro e w3 ⟨rfl, b3⟩
              go_wp2_with fail
              go_ret2
              exact HrPostN.no HE2.out (hbw.trans (b3.mono hbw.size))
          · have HE2 : Hid (hrd b = ([], 2)) := Lib.hid (by rw [HE.out, if_neg (by rw [hyf]; simp; omega)])
            have hb0 : ((f : Int) != 0) = true := by rw [bne_iff_ne]; omega
            clear hby hrec hyf HE
            generalize bs y = Y at *
            go_wp2_with fail
            (with_reducible refine (HY.out).mono ?_)
            rintro e w3 ⟨rfl, b3⟩
            go_wp2_with fail
            go_ret2
            exact HrPostN.no HE2.out (hbw.trans (b3.mono hbw.size))
        · have hpos : 0 < (bs x).size := by rw [bs_size]; exact List.length_pos_iff.2 hx
          have hsz : (bs x).size ≤ 9223372036854775807 := by rw [bs_size]; omega
          obtain ⟨k, r1, e1, t1⟩ : ∃ k r e, ot x = (k, r, e) := ⟨_, _, _, rfl⟩
          obtain ⟨o, r2, e2, t2⟩ : ∃ k s e, tk r1 = (k, s, e) := ⟨_, _, _, rfl⟩
          obtain ⟨z, r3, e3, t3⟩ : ∃ k s e, tk r2 = (k, s, e) := ⟨_, _, _, rfl⟩
          obtain ⟨q, r4, e4, t4⟩ : ∃ k s e, tk r3 = (k, s, e) := ⟨_, _, _, rfl⟩
          have l1 := ot_len t1
          have l2 := tk_len t2
          have l3 := tk_len t3
          have l4 := tk_len t4
          have HX1 := Lib.hid (x1_of t1 t2 t3 t4)
          have HT1 := Lib.hid t1
          have C1 := Lib.hid (refoftext_of x (by omega) k r1 e1 t1)
          have C2 := Lib.hid (reftakes_of r1 (by omega) o r2 e2 t2)
          have C3 := Lib.hid (reftakes_of r2 (by omega) z r3 e3 t3)
          have C4 := Lib.hid (reftakes_of r3 (by omega) q r4 e4 t4)
          have HXX := Lib.hid hx
          clear t1 t2 t3 t4 hx
          obtain ⟨l1a, l1b⟩ := l1
          obtain ⟨l2a, l2b⟩ := l2
          obtain ⟨l3a, l3b⟩ := l3
          obtain ⟨l4a, l4b⟩ := l4
          generalize hX : bs x = X at *
          have HXB := Lib.hid hX
          clear hX
          go_wp2_with fail
          (with_reducible refine (C1.out _).mono ?_)
          rintro e w3 ⟨rfl, b3⟩
          go_wp2_with fail
          (with_reducible refine (C2.out _).mono ?_)
          rintro e w4 ⟨rfl, b4⟩
          go_wp2_with fail
          (with_reducible refine (C3.out _).mono ?_)
          rintro e w5 ⟨rfl, b5⟩
          go_wp2_with fail
          (with_reducible refine (C4.out _).mono ?_)
          rintro e w6 ⟨rfl, b6⟩
          have b64 := (b3.trans ((b4.mono b3.size).trans ((b5.mono (by have := b3.size; have := b4.size; omega)).trans (b6.mono (by have := b3.size; have := b4.size; have := b5.size; omega)))))
          have O6 := Lib.hid (owns_later HO.out b64)
          have B6 := Lib.hid (hbw.trans (b64.mono hbw.size))
          clear b3 b4 b5 b6 b64 HO hbw C1 C2 C3 C4
          have hcs : (e1 ≠ 0 ∨ (e1 = 0 ∧ e2 ≠ 0) ∨ (e1 = 0 ∧ e2 = 0 ∧ e3 ≠ 0) ∨ (e1 = 0 ∧ e2 = 0 ∧ e3 = 0 ∧ e4 ≠ 0) ∨ (e1 = 0 ∧ e2 = 0 ∧ e3 = 0 ∧ e4 = 0 ∧ 1048576 < o) ∨ (e1 = 0 ∧ e2 = 0 ∧ e3 = 0 ∧ e4 = 0 ∧ o ≤ 1048576 ∧ 1000 < z)) ∨ (e1 = 0 ∧ e2 = 0 ∧ e3 = 0 ∧ e4 = 0 ∧ o ≤ 1048576 ∧ z ≤ 1000) := by omega
          rcases hcs with hbad | ⟨rfl, rfl, rfl, rfl, ho, hz⟩
          · have HE : Hid (hrd b = ([], 2)) := Lib.hid (ref_bad HH.out.1 HH.out.2 (by rw [← HR.out, xF_none HXX.out (by rw [HX1.out, if_neg (by omega)])]))
            clear HX1 HR HFT HT1
            rcases hbad with h | ⟨rfl, h⟩ | ⟨rfl, rfl, h⟩ | ⟨rfl, rfl, rfl, h⟩ | ⟨rfl, rfl, rfl, rfl, h⟩ | ⟨rfl, rfl, rfl, rfl, ho, h⟩
            · have hb0 : ((e1 : Int) != 0) = true := by rw [bne_iff_ne]; omega
              clear h
              go_wp2_with fail
              go_ret2
              exact HrPostN.no HE.out B6.out
            · have hb0 : ((e2 : Int) != 0) = true := by rw [bne_iff_ne]; omega
              clear h
              go_wp2_with fail
              go_ret2
              exact HrPostN.no HE.out B6.out
            · have hb0 : ((e3 : Int) != 0) = true := by rw [bne_iff_ne]; omega
              clear h
              go_wp2_with fail
              go_ret2
              exact HrPostN.no HE.out B6.out
            · have hb0 : ((e4 : Int) != 0) = true := by rw [bne_iff_ne]; omega
              clear h
              go_wp2_with fail
              go_ret2
              exact HrPostN.no HE.out B6.out
            · have hbi : (1048576 : Int) < (o : Int) := by omega
              clear h
              go_wp2_with fail
              go_ret2
              exact HrPostN.no HE.out B6.out
            · have hbi : ¬ (1048576 : Int) < (o : Int) := by omega
              have hbj : (1000 : Int) < (z : Int) := by omega
              clear h ho
              go_wp2_with fail
              go_ret2
              exact HrPostN.no HE.out B6.out
          · have hbi : ¬ (1048576 : Int) < (o : Int) := by omega
            have hbj : ¬ (1000 : Int) < (z : Int) := by omega
            obtain ⟨hf, g, g1, g2, g3, g4, g5⟩ := half_of z
            have w1' := IntWalk.i64_in (o : Int) ⟨by omega, by omega⟩
            have w2' := IntWalk.i64_in (hf : Int) ⟨by omega, by omega⟩
            have HN6 : Hid (xF m r4 (acc ++ [mk5 k o z q]) = xF (r.length + 1) r []) := Lib.hid (by rw [← HR.out, xF_some HXX.out (by rw [HX1.out, if_pos ⟨rfl, rfl, rfl, rfl, ho, hz⟩])])
            have HF6 : Hid (EFits (acc ++ [mk5 k o z q])) := Lib.hid fun e he => by
              rcases List.mem_append.1 he with he | he
              · exact HFT.out e he
              · rw [List.mem_singleton] at he; subst he; exact mk5_fit (by omega) ho hz l4a
            have hless : r4.length < x.length := by
              have := (ot_ok HT1.out).1
              have h2 := txt_pos k
              have h3 : x.length = (txt k).length + r1.length := by rw [this, List.length_append]
              omega
            have HL : Hid (strLen (.string (bs r4)) < strLen (.string X)) := Lib.hid (by rw [← HXB.out]; show (bs r4).size < (bs x).size; rw [bs_size, bs_size]; exact hless)
            have HSn := Lib.hid (show eflat (acc ++ [mk5 k o z q]) = eflat acc ++ [.string (bs k), .int .i64 (o : Int), .int .i64 (hf : Int), .int .u64 (q : Int), .bool g] from by
              have := ev_mk5 k o z q g3 g4
              simp only [ev, Value.agg.injEq, Array.mk.injEq, List.cons.injEq, and_true] at this
              obtain ⟨t0, t1, t2, t3, t4⟩ := this
              rw [eflat_snoc, t0, t1, t2, t3, t4])
            have hal : acc.length ≤ 2000000 := by omega
            have hb6 := B6.out.size
            clear HX1 HR HFT HT1 g3 g4
            go_wp2_with (at_builtin; refine wpList_append_own _ rfl _ _ 40 rfl w.heap.size 53 i0 (.agg #[.string ⟨#[]⟩, .int .i64 0, .int .i64 0, .int .u64 0, .bool false]) 5 48 Tryz.underlying40 HI.out.1 HI.out.2.1 HI.out.2.2.1 HI.out.2.2.2 rfl (by decide) _ _ _ rfl (O6.out.alloc _) ⟨w6.heap.size, 0, none⟩ 1 1 [.string (bs k), .int .i64 (o : Int), .int .i64 (hf : Int), .int .u64 (q : Int), .bool g] rfl rfl ?c1 (fun x hx => by simp at hx; rcases hx with rfl | rfl | rfl | rfl | rfl <;> rfl) (by unfold maxLen; omega) (by omega) (by simp; omega) ?_)
            case c1 => exact cell_five_new w6 _ _ _ _ _ _
            intro v' w7 hown' hgrow _
            have B7 : Hid (Below w.heap.size w w7) := Lib.hid (Below.grown (B6.out.alloc hb6 _) hgrow (by simp; omega) (fun j hj => (O6.out.lt _ hj).1))
            have O7 := Lib.hid hown'
            clear hown' hgrow
            go_wp2_with fail
            go_roundw
            case rel => exact ⟨r4, acc ++ [mk5 k o z q], m, rfl, by omega, by simp; omega, HF6.out, HN6.out, by rw [HSn.out, List.length_append]; exact O7.out, B7.out⟩
            case measure => exact HL.out
    · have HE := Lib.hid (ref_first h ht he)
      have hb0 : ((e : Int) != 0) = true := by rw [bne_iff_ne]; omega
      clear h ht
      go_enter Tryz.func66, Tryz.ntmps66
      go_wp2_with fail
      (with_reducible refine (H1.out _).mono ?_)
      rintro e w1 ⟨rfl, b1⟩
      go_wp2_with fail
      (with_reducible refine (H2.out _).mono ?_)
      rintro e w2 ⟨rfl, b2⟩
      go_wp2_with fail
      go_ret2
      exact HrPostN.no HE.out (b1.trans (b2.mono b1.size))

theorem hread_any (b : List UInt8) (w : World) (hb : b.length ≤ 2000000) :
    Calls Tryz.prog 70 #[.string (bs b)] w (HrPost w (hrd b)) := (hreadN_any b w hb).mono fun _ _ h => h.hr
theorem refhread_any (b : List UInt8) (w : World) (hb : b.length ≤ 2000000) :
    Calls Tryz.prog 66 #[.string (bs b)] w (HrPost w (hrd b)) := (refhreadN_any b w hb).mono fun _ _ h => h.hr
end Go.Proofs.YtmekkbhblghbmaaGreatDoor

/- What the calls entryOf and Of of package hint return. -/
namespace Go.Proofs.YtmekkbhblghbmaaGreatDoor
open Go.RowKit

set_option maxRecDepth 100000 in
set_option maxHeartbeats 400000 in
theorem entry_of (Q : Int) (K V : ByteArray) (G : Bool) (o l : Int) (w : World) :
    Calls Tryz.prog 93 #[.agg #[.int .u64 Q, .string K, .string V, .bool G], .int .i64 o, .int .i64 l] w fun e w' => e = .returned (.agg #[.string K, .int .i64 o, .int .i64 l, .int .u64 Q, .bool G]) ∧ Below w.heap.size w w' := by
  go_enter Tryz.func93, Tryz.ntmps93
  go_wp2
  exact bodyPost_ret (v := .agg #[.string K, .int .i64 o, .int .i64 l, .int .u64 Q, .bool G]) (by simp [results, Tryz.results93, go_sem]) rfl ⟨rfl, ((Below.refl _ _).alloc (Nat.le_refl _) _).alloc (by simp) _⟩

/-- What Of leaves. -/
def HoPost (w : World) (x : List Et × Nat) (e : Ending) (w' : World) : Prop :=
  ∃ a cap, e = .returned (.tuple #[.slice a x.1.length cap, .int .i64 ((x.2 : Nat) : Int)]) ∧ EntsIn w' a x.1 ∧ Below w.heap.size w w'

theorem owns_lower {w : World} {B B' n size : Nat} {e : TypeId} {v : Value} {xs : List Value} (h : w.ownsRow B e size v n xs) (hB : B' ≤ B) : w.ownsRow B' e size v n xs := by
  obtain ⟨h1, h2⟩ := h
  refine ⟨h1, h2.imp id ?_⟩
  rintro ⟨g, cap, cur, hv, hb, r⟩
  exact ⟨g, cap, cur, hv, Nat.le_trans hB hb, r⟩
/-- .. in memory that is new. -/
def HoPostT (T : TypeId) (w : World) (x : List Et × Nat) (e : Ending) (w' : World) : Prop :=
  ∃ a cap, e = .returned (.tuple #[.slice a x.1.length cap, .int .i64 ((x.2 : Nat) : Int)]) ∧ w'.ownsRow w.heap.size T 5 (.slice a x.1.length cap) x.1.length (eflat x.1) ∧ Below w.heap.size w w'
theorem HoPostT.ho {T : TypeId} {w w' : World} {x : List Et × Nat} {e : Ending} (h : HoPostT T w x e w') : HoPost w x e w' := by
  obtain ⟨a, cap, h1, h2, h3⟩ := h
  obtain ⟨a2, cap2, e2, h4⟩ := owns_ents h2
  injection e2 with e3 e4 e5
  subst e3 e5
  exact ⟨a, cap, h1, h4, h3⟩

theorem cat_big : ∀ (ll : List (List Rc)), (∀ l ∈ ll, good l = true) → 8 * ll.length ≤ (cat ll).length
  | [], _ => by simp
  | l :: ll, h => by
    have h1 := fbs_len (h l (by simp))
    have h2 := cat_big ll (fun x hx => h x (by simp [hx]))
    rw [cat_cons, List.length_append, List.length_cons]
    omega

theorem hof_small (ll : List (List Rc)) (a : Nat) (h : ∀ l ∈ ll, good l = true) : (hof a ll).length ≤ 16 * ll.length := by
  rw [hof_len]
  induction ll with
  | nil => simp
  | cons l ll ih =>
    have h1 := ((good_iff l).1 (h l (by simp))).1.2
    have h2 := ih (fun x hx => h x (by simp [hx]))
    rw [List.flatten_cons, List.length_append, List.length_cons]
    omega

theorem cat_split (ll : List (List Rc)) {j : Nat} (hj : j < ll.length) : cat ll = cat (ll.take j) ++ (fbs ll[j] ++ cat (ll.drop (j + 1))) := by
  rw [← cat_cons, List.getElem_cons_drop, cat, cat, cat, ← List.flatMap_append, List.take_append_drop]

theorem good_fits {l : List Rc} (h : rights l = true) : Fits l := fun r hr => by
  rw [rights, List.all_eq_true] at h
  obtain ⟨h1, h2, h3, h4, h5, h6⟩ := (right_iff r).1 (h r hr)
  omega

theorem ot_fbs {l : List Rc} (h : good l = true) (s : List UInt8) : ot (fbs l ++ s) = (seal4 (encs l), s, 0) := by
  have := good_len h
  exact ot_txt (lt64 (by rw [seal_len]; omega))

theorem infoEnt2 : (Tryz.prog.info? 51).map (fun i => (i.zero, i.size, i.bytes)) = some (some (.agg #[.string ⟨#[]⟩, .int .i64 0, .int .i64 0, .int .u64 0, .bool false]), 5, 48) := infoEnt

theorem ent_flat (acc : List Et) (off : Nat) (r : Rc) : eflat (acc ++ [ent off r]) = eflat acc ++ [.string (bs r.k), .int .i64 (off : Int), .int .i64 ((enc r).length : Int), .int .u64 ((r.q : Nat) : Int), .bool r.g] := by
  rw [eflat_snoc]; rfl

set_option maxRecDepth 100000 in
set_option maxHeartbeats 2000000 in
theorem hofT_any (b : List UInt8) (w : World) (hb : b.length ≤ 2000000) :
    Calls Tryz.prog 54 #[.string (bs b)] w (HoPostT 51 w (hof 0 (fs b).1, (fs b).2)) := by
  obtain ⟨i0, hi, hz0, hz1, hz2⟩ := info_parts infoEnt
  have HI := Lib.hid (And.intro hi (And.intro hz0 (And.intro hz1 hz2)))
  clear hi hz0 hz1 hz2
  obtain ⟨ll, n, hfs⟩ : ∃ ll n, fs b = (ll, n) := ⟨_, _, rfl⟩
  obtain ⟨hgood, hn, hcat⟩ := fs_ok hfs
  have H1 := fun W => fscan_any b W hb
  rw [hfs] at H1 ⊢
  have H1 := Lib.hid H1
  have HG := Lib.hid hgood
  have hbig := cat_big ll hgood
  have hlen : (cat ll).length ≤ b.length := by have := congrArg List.length hcat; rw [List.length_append] at this; omega
  have HCAT := Lib.hid hcat
  have hB := bs_size b
  have HX := Lib.hid (fun k => ext_of b k)
  clear hfs hgood hcat
  generalize bs b = B at *
  have HB := Lib.hid hB
  rw [← hB] at hb hlen
  clear hB
  obtain ⟨N, hN⟩ : ∃ N, N = ll.length := ⟨_, rfl⟩
  have HN := Lib.hid hN
  have hNb : 8 * N ≤ 2000000 := by omega
  have HCL := Lib.hid hlen
  clear hbig hlen
  go_enter Tryz.func54, Tryz.ntmps54
  go_wp2_with fail
  (with_reducible refine (H1.out _).mono ?_)
  rintro e w1 ⟨a1, cap1, rfl, r1, b1⟩
  have R1 := Lib.hid r1
  have B1 := Lib.hid b1
  clear r1 b1 H1
  rw [← hN]
  clear hN
  go_wp2_with fail
  go_loopw [6, 7, 26] (fun v p i wr => ∃ (u : Value) (j : Nat), u = v ∧ i = .int .i64 j ∧ j ≤ N ∧ p = .int .i64 ((cat (ll.take j)).length : Int) ∧ wr.ownsRow w1.heap.size 51 5 u (hof 0 (ll.take j)).length (eflat (hof 0 (ll.take j))) ∧ Below w1.heap.size w1 wr ∧ Below w.heap.size w wr) (fun _ _ i _ => N - (intOf i).toNat)
  case atStart => exact ⟨_, 0, rfl, rfl, by omega, rfl, World.ownsRow_nil _ _ _ _, Below.refl _ _, B1.out⟩
  case round =>
    obtain ⟨u, j, rfl, rfl, hj, rfl, hown, hb1, hbw⟩ := hrel
    have HO := Lib.hid hown
    clear hown
    by_cases hlt : j < N
    · obtain ⟨g1, off1, ab, capb, rfl, hbl1, c1, rr⟩ := bat_of R1.out j (by rw [← HN.out]; exact hlt)
      have hlt' : j < ll.length := by rw [← HN.out]; exact hlt
      have hgl := HG.out _ (List.getElem_mem hlt')
      have hgj : ∀ l ∈ ll.take j, good l = true := fun l hl => HG.out l (List.mem_of_mem_take hl)
      have hsp := cat_split ll hlt'
      have hnx := hof_next 0 ll hlt'
      have hcn : (cat (ll.take (j + 1))).length = (cat (ll.take j)).length + (fbs (ll[j]'hlt')).length := by rw [List.take_succ_eq_append_getElem hlt', cat_snoc, List.length_append]
      have hsm := hof_small (ll.take j) 0 hgj
      have htl : (ll.take j).length ≤ j := List.length_take_le _ _
      rw [← hb1.cell (p := ⟨g1, _, none⟩) hbl1] at c1
      generalize hll : ll[j]'hlt' = l at *
      have hdrop : b.drop (cat (ll.take j)).length = fbs l ++ (cat (ll.drop (j + 1)) ++ b.drop n) := by
        rw [HCAT.out]
        rw [show List.drop n (cat ll ++ List.drop n b) = List.drop n b from by rw [← HCAT.out]]
        rw [hsp, List.append_assoc, List.drop_left, List.append_assoc]
      obtain ⟨hg16, hrl⟩ := (good_iff l).1 hgl
      have hbl := congrArg List.length hdrop
      rw [List.length_append, List.length_drop, ← HB.out] at hbl
      have hhd := head_le l
      have hp : (cat (ll.take j)).length ≤ B.size := by
        have := congrArg List.length hsp
        rw [List.length_append] at this
        have := HCL.out
        omega
      have hof1 := ot_fbs hgl (cat (ll.drop (j + 1)) ++ b.drop n)
      rw [← hdrop] at hof1
      have h2 := fun W => oftext_of (b.drop (cat (ll.take j)).length) (by rw [List.length_drop, ← HB.out]; omega) _ _ 0 hof1 W
      rw [← HX.out] at h2
      have h3 := fun W (hW : Below w1.heap.size w1 W) => all_any l ab capb W (by omega) (rr.later hW (Nat.le_refl _)) (good_fits hrl)
      rw [allV_yes hrl] at h3
      have zR := bs_size (cat (ll.drop (j + 1)) ++ b.drop n)
      have zX := bs_size (encs l)
      have HRR := Lib.hid rr
      have H2 := Lib.hid h2
      have H3 := Lib.hid h3
      have HNX := Lib.hid hnx
      have HCN := Lib.hid hcn
      have HRL := Lib.hid hrl
      have hle := hgl
      obtain ⟨zl1, zl2⟩ := good_len hgl
      rw [← zR] at hbl
      rw [← zX] at hhd zl1
      clear zR h2 h3 rr hgj hsp hdrop hof1 hgl hnx hcn hrl hle
      obtain ⟨nl, hnl⟩ : ∃ nl, nl = l.length := ⟨_, rfl⟩
      have HNL := Lib.hid hnl
      rw [← hnl] at c1 hg16
      rw [← HNL.out] at H3
      obtain ⟨P, hP⟩ : ∃ P, P = (cat (ll.take j)).length := ⟨_, rfl⟩
      have HP := Lib.hid hP
      rw [← hP] at H2 hbl hp HNX HCN ⊢
      clear hP hnl
      have hXX := zX
      have HXX := Lib.hid hXX
      clear zX hXX
      obtain ⟨hg1, hg2⟩ := hg16
      generalize bs (cat (ll.drop (j + 1)) ++ b.drop n) = R at *
      generalize bs (encs l) = X at *
      generalize bs (seal4 (encs l)) = Y at *
      have Q1 : Hid ((fbs l).length = head l + X.size) := Lib.hid hhd
      have Q2 : Hid (B.size = P + (head l + X.size) + R.size) := Lib.hid (by omega)
      have q3 : R.size + X.size ≤ B.size := by omega
      clear hhd hbl
      have hlti : (j : Int) < (N : Int) := by omega
      go_wp2_with fail
      (with_reducible refine (H2.out _).mono ?_)
      rintro e w2 ⟨rfl, b2⟩
      have B2 := Lib.hid (hb1.trans (b2.mono hb1.size))
      go_wp2_with fail
      (with_reducible refine (H3.out _ B2.out).mono ?_)
      rintro e w3 ⟨rfl, b3⟩
      have b23 := b2.trans (b3.mono b2.size)
      have B3 := Lib.hid (hb1.trans (b23.mono hb1.size))
      have W3 := Lib.hid (hbw.trans (b23.mono hbw.size))
      have O3 := Lib.hid (owns_later HO.out b23)
      clear b2 b3 b23 B2 hb1 hbw HO H2 H3 c1
      go_wp2_with fail
      go_loopw [6, 7, 53] (fun v p i wr => ∃ (u : Value) (k o : Nat), u = v ∧ i = .int .i64 k ∧ k ≤ nl ∧ p = .int .i64 (o : Int) ∧ o = P + head l + (encs (l.take k)).length ∧ wr.ownsRow w1.heap.size 51 5 u (hof 0 (ll.take j) ++ rows (P + head l) (l.take k)).length (eflat (hof 0 (ll.take j) ++ rows (P + head l) (l.take k))) ∧ Below w1.heap.size w1 wr ∧ Below w.heap.size w wr) (fun _ _ i _ => nl - (intOf i).toNat)
      case atStart => exact ⟨_, 0, P + head l, rfl, rfl, by omega, by congr 1; have := Q2.out; omega, by simp [encs], by simpa [rows] using O3.out, B3.out, W3.out⟩
      case round =>
        obtain ⟨u, k, o, rfl, rfl, hk, rfl, ho, hown, hb1, hbw⟩ := hrel
        have HO := Lib.hid hown
        have HOO := Lib.hid ho
        clear hown ho O3 B3 W3
        by_cases hkl : k < nl
        · have hkl' : k < l.length := by rw [← HNL.out]; exact hkl
          obtain ⟨g2, off2, rfl, hbl2, c0, c1, c2, c3⟩ := cells_of HRR.out k hkl'
          rw [← hb1.cell (p := ⟨g2, _, none⟩) hbl2] at c0 c1 c2 c3
          have hri : right l[k] = true := by
            have := HRL.out
            rw [rights, List.all_eq_true] at this
            exact this _ (List.getElem_mem hkl')
          obtain ⟨y1, y2, y3, y4, y5, y6⟩ := (right_iff _).1 hri
          have h4 := fun W => bytes_any l[k] W (by omega) (by omega) (by omega)
          rw [one_yes hri] at h4
          simp only [rv] at h4
          have hel := enc_len hri
          have HTK := Lib.hid (take_next l k hkl')
          have hcut : (encs (l.take (k + 1))).length ≤ (encs l).length := by
            have := congrArg (fun t => (encs t).length) (List.take_append_drop (k + 1) l)
            simp only [encs, List.flatMap_append, List.length_append] at this
            show (List.flatMap enc (List.take (k + 1) l)).length ≤ (List.flatMap enc l).length
            omega
          have HRN := Lib.hid (rows_next (P + head l) l hkl')
          have hsm2 : (hof 0 (ll.take j) ++ rows (P + head l) (l.take k)).length ≤ 16 * j + 16 := by
            rw [List.length_append, rows_len]
            have := List.length_take_le k l
            omega
          clear y1 y2 y3 y4 y5 y6 hri
          generalize l[k] = r at *
          rw [HTK.out, encs_snoc, List.length_append] at hcut
          have HEN : Hid ((encs (l.take (k + 1))).length = (encs (l.take k)).length + (enc r).length) := Lib.hid (by rw [HTK.out, encs_snoc, List.length_append])
          have ho2 : o + (enc r).length ≤ B.size := by
            have := HOO.out
            have := Q2.out
            have := HXX.out
            omega
          have HFL := Lib.hid (ent_flat (hof 0 (ll.take j) ++ rows (P + head l) (l.take k)) o r)
          have hes := bs_size (enc r)
          rw [← hes] at ho2 hel
          have HES := Lib.hid hes
          rw [← hes] at HFL
          have hlk : (k : Int) < (nl : Int) := by omega
          have hbz := hbw.size
          have K0 := Lib.hid (Box.made wr (.cells #[.int .u64 ((r.q : Nat) : Int), .string (bs r.k), .string (bs r.v), .bool r.g] 47))
          have H4 := Lib.hid h4
          clear hes h4 hcut
          generalize bs (enc r) = E at *
          generalize hK : bs r.k = K at *
          have HKK := Lib.hid hK
          clear hK
          generalize bs r.v = V at *
          generalize hQ : ((r.q : Nat) : Int) = Q at *
          generalize hG : r.g = G at *
          have HQG := Lib.hid (And.intro hQ hG)
          clear hQ hG
          go_wp2_with fail
          (with_reducible refine (H4.out _).mono ?_)
          rintro e w4 ⟨rfl, b4⟩
          have K4 := K0.out.call b4
          obtain ⟨_, d0, d1, d2, d3⟩ := Box4.cells K4
          have W4 := Lib.hid K4.1
          have O4 := Lib.hid (owns_later (HO.out.alloc (.cells #[.int .u64 Q, .string K, .string V, .bool G] 47)) b4)
          clear b4 K4 K0 H4 HO c0 c1 c2 c3
          go_wp2_with fail
          (with_reducible refine (entry_of _ _ _ _ _ _ _).mono ?_)
          rintro e w5 ⟨rfl, b5⟩
          have O5 := Lib.hid (owns_later O4.out b5)
          have W5 := Lib.hid (W4.out.trans (b5.mono W4.out.size))
          have z5 := W5.out.size
          have z51 := hb1.size
          clear b5 O4 W4 d0 d1 d2 d3
          go_wp2_with (at_builtin; refine wpList_append_own _ rfl _ _ 37 rfl w1.heap.size 51 i0 (.agg #[.string ⟨#[]⟩, .int .i64 0, .int .i64 0, .int .u64 0, .bool false]) 5 48 Tryz.underlying37 HI.out.1 HI.out.2.1 HI.out.2.2.1 HI.out.2.2.2 rfl (by decide) _ _ _ rfl (O5.out.alloc _) ⟨w5.heap.size, 0, none⟩ 1 1 [.string K, .int .i64 (o : Int), .int .i64 (E.size : Int), .int .u64 Q, .bool G] rfl rfl ?c1 (fun x hx => by simp at hx; rcases hx with rfl | rfl | rfl | rfl | rfl <;> rfl) (by unfold maxLen; omega) (by omega) (by simp; omega) ?_)
          case c1 => exact cell_five_new w5 _ _ _ _ _ _
          intro v' w6 hown' hgrow _
          have B6 : Hid (Below w1.heap.size w1 w6) := Lib.hid (Below.grown (hb1.trans ((W5.out.mono z51).alloc (by omega) _)) hgrow (by simp; omega) (fun j hj => (O5.out.lt _ hj).1))
          have W6 : Hid (Below w.heap.size w w6) := Lib.hid (B1.out.trans (B6.out.mono B1.out.size))
          have O6 := Lib.hid hown'
          clear hown' hgrow
          go_wp2_with fail
          go_roundw
          case rel => exact ⟨_, k + 1, o + E.size, rfl, by go_num, by omega, by go_num, by have := HOO.out; have := HEN.out; have := HES.out; omega, by rw [HRN.out, ← HOO.out, ← List.append_assoc, HFL.out, List.length_append, List.length_append]; exact O6.out, B6.out, W6.out⟩
          case measure => simp [intOf]; omega
        · have hkn : k = nl := by omega
          have hlk : ¬ (k : Int) < (nl : Int) := by omega
          have htk : l.take k = l := by rw [hkn, HNL.out, List.take_length]
          rw [htk] at HO HOO
          have HO2 := Lib.hid HO.out
          clear htk
          go_wp2_with fail
          go_roundw
          case rel => exact ⟨_, j + 1, rfl, by go_num, by omega, by congr 1; have := HOO.out; have := HCN.out; have := Q1.out; have := HXX.out; omega, by rw [HNX.out, Nat.zero_add]; exact HO2.out, hb1, hbw⟩
          case measure => simp [intOf]; omega
    · obtain rfl : j = N := by omega
      have hall : ll.take j = ll := by rw [HN.out, List.take_length]
      rw [hall] at HO ⊢
      have hnlt : ¬ (j : Int) < (j : Int) := by omega
      obtain ⟨a, cap, rfl, hrec⟩ := owns_ents HO.out
      clear hrec
      go_wp2_with fail
      go_ret2
      exact ⟨a, cap, rfl, owns_lower HO.out B1.out.size, hbw⟩

theorem hof_any (b : List UInt8) (w : World) (hb : b.length ≤ 2000000) :
    Calls Tryz.prog 54 #[.string (bs b)] w (HoPost w (hof 0 (fs b).1, (fs b).2)) := (hofT_any b w hb).mono fun _ _ h => h.ho
end Go.Proofs.YtmekkbhblghbmaaGreatDoor

/- What the small functions of the laws of layer 5 return: light, to, and the document's Same. -/
namespace Go.Proofs.YtmekkbhblghbmaaGreatDoor
open Go.RowKit

/-- What light leaves. -/
def ELightPost (w : World) (l : List Et) (e : Ending) (w' : World) : Prop := ∃ b : Bool, e = .returned (.bool b) ∧ (b = true → l.length ≤ 40) ∧ Below w.heap.size w w'

/-- What to leaves. -/
def ToPost (w : World) (l : List Et) (e : Ending) (w' : World) : Prop :=
  ∃ a cap, e = .returned (.slice a l.length cap) ∧ EntsIn w' a l ∧ Below w.heap.size w w'

set_option maxRecDepth 100000 in
set_option maxHeartbeats 400000 in
theorem esame_no (a b : Option Addr) (n m cap cap' : Nat) (w : World) (h : n ≠ m) :
    Calls Tryz.prog 13 #[.slice a n cap, .slice b m cap'] w fun e w' => e = .returned (.bool false) ∧ Below w.heap.size w w' := by
  have hne : ((n : Int) != (m : Int)) = true := by rw [bne_iff_ne]; omega
  clear h
  go_enter Tryz.func13, Tryz.ntmps13
  go_wp2_with fail
  go_ret
  exact ⟨rfl, Below.refl _ _⟩

set_option maxRecDepth 100000 in
set_option maxHeartbeats 400000 in
theorem esame_yes (l : List Et) (a b : Option Addr) (cap cap' : Nat) (w : World) (hl : l.length ≤ 9223372036854775807) (ha : EntsIn w a l) (hb : EntsIn w b l) :
    Calls Tryz.prog 13 #[.slice a l.length cap, .slice b l.length cap'] w fun e w' => e = .returned (.bool true) ∧ Below w.heap.size w w' := by
  have HA := Lib.hid ha
  have HB := Lib.hid hb
  clear ha hb
  obtain ⟨n, hn⟩ : ∃ n, n = l.length := ⟨_, rfl⟩
  have HN := Lib.hid hn
  rw [← hn] at hl ⊢
  clear hn
  go_enter Tryz.func13, Tryz.ntmps13
  go_wp2_with fail
  go_loopw [5] (fun i wr => ∃ k d : Nat, k ≤ n ∧ i = .int .i64 k ∧ wr = w.drewN d) (fun i _ => n - (intOf i).toNat)
  case atStart => exact ⟨0, 0, by omega, rfl, rfl⟩
  case round =>
    obtain ⟨k, d, hk, rfl, rfl⟩ := hrel
    by_cases hlt : k < n
    · obtain ⟨b1, off1, rfl, hbl1, c0, c1, c2, c3, c4⟩ := ents_of_mem HA.out k (by rw [← HN.out]; exact hlt)
      obtain ⟨b2, off2, rfl, hbl2, d0, d1, d2, d3, d4⟩ := ents_of_mem HB.out k (by rw [← HN.out]; exact hlt)
      generalize l[k]'(by rw [← HN.out]; exact hlt) = r at *
      generalize bs r.k = K at *
      generalize r.o = O at *
      generalize r.l = L at *
      generalize ((r.q : Nat) : Int) = Q at *
      generalize r.g = G at *
      have hlti : (k : Int) < (n : Int) := by omega
      go_wp2_with fail
      go_quiet (fail)
      go_wp2_with fail
      exact ⟨⟨k + 1, d + nq, by omega, by go_num, rfl⟩, by simp [intOf]; omega⟩
    · have e : k = n := by omega
      subst e
      go_wp2_with fail
      go_ret
      exact ⟨rfl, below_drewN (Below.refl _ _) d⟩

end Go.Proofs.YtmekkbhblghbmaaGreatDoor

/- What the document's own Of of layer 5 returns. -/
namespace Go.Proofs.YtmekkbhblghbmaaGreatDoor
open Go.RowKit

set_option maxRecDepth 100000 in
set_option maxHeartbeats 4000000 in
theorem refhofT_any (b : List UInt8) (w : World) (hb : b.length ≤ 2000000) :
    Calls Tryz.prog 58 #[.string (bs b)] w (HoPostT 53 w (hof 0 (fs b).1, (fs b).2)) := by
  obtain ⟨i0, hi, hz0, hz1, hz2⟩ := info_parts infoRefEnt
  have HI := Lib.hid (And.intro hi (And.intro hz0 (And.intro hz1 hz2)))
  clear hi hz0 hz1 hz2
  obtain ⟨ll, n, hfs⟩ : ∃ ll n, fs b = (ll, n) := ⟨_, _, rfl⟩
  obtain ⟨hgood, hn, hcat⟩ := fs_ok hfs
  have H1 := fun W => reffscan_any b W hb
  rw [hfs] at H1 ⊢
  have H1 := Lib.hid H1
  have HG := Lib.hid hgood
  have hbig := cat_big ll hgood
  have hlen : (cat ll).length ≤ b.length := by have := congrArg List.length hcat; rw [List.length_append] at this; omega
  have hlen2 : (cat ll).length ≤ 2000000 := by omega
  have HCL := Lib.hid hlen2
  clear hfs hgood hcat hlen hlen2
  generalize bs b = B at *
  obtain ⟨N, hN⟩ : ∃ N, N = ll.length := ⟨_, rfl⟩
  have HN := Lib.hid hN
  have hNb : 8 * N ≤ 2000000 := by have := HCL.out; omega
  clear hbig
  go_enter Tryz.func58, Tryz.ntmps58
  go_wp2_with fail
  (with_reducible refine (H1.out _).mono ?_)
  rintro e w1 ⟨a1, cap1, rfl, r1, b1⟩
  have R1 := Lib.hid r1
  have B1 := Lib.hid b1
  clear r1 b1 H1
  rw [← hN]
  clear hN
  go_wp2_with fail
  go_loopw [4, 7, 8] (fun v p i wr => ∃ (u : Value) (j : Nat), u = v ∧ i = .int .i64 j ∧ j ≤ N ∧ p = .int .i64 ((cat (ll.take j)).length : Int) ∧ wr.ownsRow w1.heap.size 53 5 u (hof 0 (ll.take j)).length (eflat (hof 0 (ll.take j))) ∧ Below w1.heap.size w1 wr ∧ Below w.heap.size w wr) (fun _ _ i _ => N - (intOf i).toNat)
  case atStart => exact ⟨_, 0, rfl, rfl, by omega, rfl, World.ownsRow_nil _ _ _ _, Below.refl _ _, B1.out⟩
  case round =>
    obtain ⟨u, j, rfl, rfl, hj, rfl, hown, hb1, hbw⟩ := hrel
    have HO := Lib.hid hown
    clear hown
    by_cases hlt : j < N
    · obtain ⟨g1, off1, ab, capb, rfl, hbl1, c1, rr⟩ := bat_of R1.out j (by rw [← HN.out]; exact hlt)
      have hlt' : j < ll.length := by rw [← HN.out]; exact hlt
      have hgl := HG.out _ (List.getElem_mem hlt')
      have hgj : ∀ l ∈ ll.take j, good l = true := fun l hl => HG.out l (List.mem_of_mem_take hl)
      have hsp := cat_split ll hlt'
      have hnx := hof_next 0 ll hlt'
      have hcn : (cat (ll.take (j + 1))).length = (cat (ll.take j)).length + (fbs (ll[j]'hlt')).length := by rw [List.take_succ_eq_append_getElem hlt', cat_snoc, List.length_append]
      have hsm := hof_small (ll.take j) 0 hgj
      have htl : (ll.take j).length ≤ j := List.length_take_le _ _
      have HC1 := Lib.hid c1
      rw [← hb1.cell (p := ⟨g1, _, none⟩) hbl1] at c1
      generalize hll : ll[j]'hlt' = l at *
      obtain ⟨hg16, hrl⟩ := (good_iff l).1 hgl
      have hhd := head_le l
      have hp : (cat (ll.take j)).length + (fbs l).length ≤ 2000000 := by
        have := congrArg List.length hsp
        rw [List.length_append, List.length_append] at this
        have := HCL.out
        omega
      have h2 := fun W (hW : Below w1.heap.size w1 W) => reffbytes_any l ab capb W (by omega) (rr.later hW (Nat.le_refl _)) (good_fits hrl)
      rw [fbV_yes hgl] at h2
      have h3 := fun W (hW : Below w1.heap.size w1 W) => refall_any l ab capb W (by omega) (rr.later hW (Nat.le_refl _)) (good_fits hrl)
      rw [allV_yes hrl] at h3
      have zY := bs_size (fbs l)
      have zX := bs_size (encs l)
      have HRR := Lib.hid rr
      have H2 := Lib.hid h2
      have H3 := Lib.hid h3
      have HNX := Lib.hid hnx
      have HCN := Lib.hid hcn
      have HRL := Lib.hid hrl
      have hp1 : (cat (ll.take j)).length ≤ 2000000 := by omega
      rw [← zY] at hp hhd
      rw [← zX] at hhd
      clear h2 h3 rr hgj hsp hgl hnx hcn hrl hll
      obtain ⟨nl, hnl⟩ : ∃ nl, nl = l.length := ⟨_, rfl⟩
      have HNL := Lib.hid hnl
      rw [← hnl] at c1 hg16
      rw [← HNL.out] at H2 H3 HC1
      obtain ⟨P, hP⟩ : ∃ P, P = (cat (ll.take j)).length := ⟨_, rfl⟩
      have HP := Lib.hid hP
      rw [← hP] at hp hp1 HNX HCN ⊢
      clear hP hnl
      have HXX := Lib.hid zX
      have HYY := Lib.hid zY
      clear zX zY
      obtain ⟨hg1, hg2⟩ := hg16
      generalize bs (encs l) = X at *
      generalize bs (fbs l) = Y at *
      have Q1 : Hid (Y.size = head l + X.size) := Lib.hid hhd
      have q3 : X.size ≤ Y.size := by omega
      clear hhd
      have hlti : (j : Int) < (N : Int) := by omega
      go_wp2_with fail
      (with_reducible refine (H2.out _ hb1).mono ?_)
      rintro e w2 ⟨rfl, b2⟩
      have B2 := Lib.hid (hb1.trans (b2.mono hb1.size))
      have c2 := HC1.out
      rw [← B2.out.cell (p := ⟨g1, _, none⟩) hbl1] at c2
      go_wp2_with fail
      (with_reducible refine (H3.out _ B2.out).mono ?_)
      rintro e w3 ⟨rfl, b3⟩
      have b23 := b2.trans (b3.mono b2.size)
      have B3 := Lib.hid (hb1.trans (b23.mono hb1.size))
      have W3 := Lib.hid (hbw.trans (b23.mono hbw.size))
      have O3 := Lib.hid (owns_later HO.out b23)
      clear b2 b3 b23 B2 hb1 hbw HO H2 H3 c1 c2
      go_wp2_with fail
      go_loopw [4, 13, 14] (fun v p i wr => ∃ (u : Value) (k o : Nat), u = v ∧ i = .int .i64 k ∧ k ≤ nl ∧ p = .int .i64 (o : Int) ∧ o = P + head l + (encs (l.take k)).length ∧ wr.ownsRow w1.heap.size 53 5 u (hof 0 (ll.take j) ++ rows (P + head l) (l.take k)).length (eflat (hof 0 (ll.take j) ++ rows (P + head l) (l.take k))) ∧ Below w1.heap.size w1 wr ∧ Below w.heap.size w wr) (fun _ _ i _ => nl - (intOf i).toNat)
      case atStart => exact ⟨_, 0, P + head l, rfl, rfl, by omega, by congr 1; have := Q1.out; omega, by simp [encs], by simpa [rows] using O3.out, B3.out, W3.out⟩
      case round =>
        obtain ⟨u, k, o, rfl, rfl, hk, rfl, ho, hown, hb1, hbw⟩ := hrel
        have HOO := Lib.hid ho
        clear ho O3 B3 W3
        have c5 := HC1.out
        rw [← hb1.cell (p := ⟨g1, _, none⟩) hbl1] at c5
        by_cases hkl : k < nl
        · have hkl' : k < l.length := by rw [← HNL.out]; exact hkl
          obtain ⟨g2, off2, rfl, hbl2, c0, c1, c2, c3⟩ := cells_of HRR.out k hkl'
          rw [← hb1.cell (p := ⟨g2, _, none⟩) hbl2] at c0 c1 c2 c3
          have hri : right l[k] = true := by
            have := HRL.out
            rw [rights, List.all_eq_true] at this
            exact this _ (List.getElem_mem hkl')
          obtain ⟨y1, y2, y3, y4, y5, y6⟩ := (right_iff _).1 hri
          have h4 := fun W => refbytes_any l[k] W (by omega) (by omega) (by omega)
          rw [one_yes hri] at h4
          simp only [rv] at h4
          have hel := enc_len hri
          have HTK := Lib.hid (take_next l k hkl')
          have hcut : (encs (l.take (k + 1))).length ≤ (encs l).length := by
            have := congrArg (fun t => (encs t).length) (List.take_append_drop (k + 1) l)
            simp only [encs, List.flatMap_append, List.length_append] at this
            show (List.flatMap enc (List.take (k + 1) l)).length ≤ (List.flatMap enc l).length
            omega
          have HRN := Lib.hid (rows_next (P + head l) l hkl')
          have hsm2 : (hof 0 (ll.take j) ++ rows (P + head l) (l.take k)).length ≤ 16 * j + 16 := by
            rw [List.length_append, rows_len]
            have := List.length_take_le k l
            omega
          clear y1 y2 y3 y4 y5 y6 hri
          generalize l[k] = r at *
          rw [HTK.out, encs_snoc, List.length_append] at hcut
          have HEN : Hid ((encs (l.take (k + 1))).length = (encs (l.take k)).length + (enc r).length) := Lib.hid (by rw [HTK.out, encs_snoc, List.length_append])
          have ho2 : o + (enc r).length ≤ 2000000 := by
            have := HOO.out
            have := Q1.out
            have := HXX.out
            omega
          have HFL := Lib.hid (ent_flat (hof 0 (ll.take j) ++ rows (P + head l) (l.take k)) o r)
          have hes := bs_size (enc r)
          rw [← hes] at ho2 hel
          have HES := Lib.hid hes
          rw [← hes] at HFL
          obtain ⟨m, hm⟩ : ∃ m, m = (hof 0 (ll.take j) ++ rows (P + head l) (l.take k)).length := ⟨_, rfl⟩
          rw [← hm] at hown hsm2
          have HM := Lib.hid hm
          have HO := Lib.hid hown
          clear hm hown
          have hlk : (k : Int) < (nl : Int) := by omega
          have hbz := hbw.size
          have H4 := Lib.hid h4
          clear hes h4 hcut
          generalize bs (enc r) = E at *
          generalize bs r.k = K at *
          generalize bs r.v = V at *
          generalize ((r.q : Nat) : Int) = Q at *
          generalize r.g = G at *
          go_wp2_with fail
          (with_reducible refine (H4.out _).mono ?_)
          rintro e w4 ⟨rfl, b4⟩
          have B4 := Lib.hid (hb1.trans (b4.mono hb1.size))
          have W4 := Lib.hid (hbw.trans (b4.mono hbz))
          have O4 := Lib.hid (owns_later HO.out b4)
          have hz1 := hb1.size
          rw [← b4.cell (p := ⟨g2, _, none⟩) (by show g2 < wr.heap.size; omega)] at c0 c1 c2 c3
          rw [← b4.cell (p := ⟨g1, _, none⟩) (by show g1 < wr.heap.size; omega)] at c5
          have hz4 := B4.out.size
          have av1 : u.ownBlock ≠ some g1 := fun q => by have := (O4.out.lt _ q).1; omega
          have av2 : u.ownBlock ≠ some g2 := fun q => by have := (O4.out.lt _ q).1; omega
          have lt1 : g1 < w4.heap.size := by omega
          have lt2 : g2 < w4.heap.size := by omega
          clear b4 H4 HO hb1 hbw c2
          go_wp2_with fail
          go_region_held3 (fun w' => w'.cell? ⟨g1, off1 + j, none⟩ = some (.slice (some ⟨g2, off2, none⟩) nl capb) ∧ w'.cell? ⟨g2, off2 + k * 4, none⟩ = some (.int .u64 Q) ∧ w'.cell? ⟨g2, off2 + k * 4 + 1, none⟩ = some (.string K) ∧ w'.cell? ⟨g2, off2 + k * 4 + 3, none⟩ = some (.bool G))
            (first
              | go_keep
              | (go_split_ands
                 refine ⟨?_, ?_, ?_, ?_⟩
                 · (rw [hgrow.cell_far _ (by simp; omega) (Ne.symm av1)]; assumption)
                 all_goals (rw [hgrow.cell_far _ (by simp; omega) (Ne.symm av2)]; assumption)))
            ((refine step_append_lies _ (by rfl) _ _ _ (by rfl) w1.heap.size 53 i0 _ 5 48 Tryz.underlying40 HI.out.1 HI.out.2.1 HI.out.2.2.1 HI.out.2.2.2 rfl (by omega) u _ _ (by rfl) ((O4.out.alloc _).drew)
                ⟨w4.heap.size, 0, none⟩ 1 1 [.string K, .int .i64 (o : Int), .int .i64 (E.size : Int), .int .u64 Q, .bool G] (by rfl) (by rfl) (World.news_of_block (cs := #[.string K, .int .i64 (o : Int), .int .i64 (E.size : Int), .int .u64 Q, .bool G]) (t := 53) (fr := (0, 0)) (heap_alloc_new w4 _)) (by simp [Value.oneCell'])
                (by omega) (by unfold maxLen; omega) (by omega) (by simp; omega) (w4.heap.size + 1) (by simp) ?_; intro gg cap2 w6 hown2 hgrow hat hlt2))
          have B6 : Hid (Below w1.heap.size w1 w6) := Lib.hid (Below.grown ((B4.out.alloc hz4 _).drew) hgrow (by simp; omega) (fun j hj => (O4.out.lt _ hj).1))
          have W6 : Hid (Below w.heap.size w w6) := Lib.hid (B1.out.trans (B6.out.mono B1.out.size))
          have O6 := Lib.hid hown2
          clear hown2 hgrow
          go_wp2_with fail
          exact ⟨⟨_, k + 1, o + E.size, rfl, by go_num, by omega, by go_num, by have := HOO.out; have := HEN.out; have := HES.out; omega, by rw [HRN.out, ← HOO.out, ← List.append_assoc, HFL.out, List.length_append, ← HM.out]; exact O6.out, B6.out, W6.out⟩, by simp [intOf]; omega⟩
        · have hkn : k = nl := by omega
          have hlk : ¬ (k : Int) < (nl : Int) := by omega
          have htk : l.take k = l := by rw [hkn, HNL.out, List.take_length]
          have HO := Lib.hid hown
          clear hown
          rw [htk] at HO HOO
          have HO2 := Lib.hid HO.out
          have hy6 : Y.size ≤ 2000000 := by omega
          have hpy : P + Y.size ≤ 2000000 := by omega
          clear htk
          go_wp2_with fail
          exact ⟨⟨_, j + 1, rfl, by go_num, by omega, by congr 1; have := HCN.out; have := HYY.out; omega, by rw [HNX.out, Nat.zero_add]; exact HO2.out, hb1, hbw⟩, by simp [intOf]; omega⟩
    · obtain rfl : j = N := by omega
      have hall : ll.take j = ll := by rw [HN.out, List.take_length]
      rw [hall] at HO ⊢
      have hnlt : ¬ (j : Int) < (j : Int) := by omega
      obtain ⟨a, cap, rfl, hrec⟩ := owns_ents HO.out
      clear hrec
      go_wp2_with fail
      go_ret2
      exact ⟨a, cap, rfl, owns_lower HO.out B1.out.size, hbw⟩

theorem refhof_any (b : List UInt8) (w : World) (hb : b.length ≤ 2000000) :
    Calls Tryz.prog 58 #[.string (bs b)] w (HoPost w (hof 0 (fs b).1, (fs b).2)) := (refhofT_any b w hb).mono fun _ _ h => h.ho
end Go.Proofs.YtmekkbhblghbmaaGreatDoor

/- What the call At of package hint returns. -/
namespace Go.Proofs.YtmekkbhblghbmaaGreatDoor
open Go.RowKit

/-- Nothing that was there has turned; the first new block is the entry that came in, the second one the record that goes out, still empty. -/
def At0 (t : TypeId) (w0 : World) (c0 c1 c2 c3 c4 : Value) (W : World) : Prop :=
  Below w0.heap.size w0 W ∧ W.heap[w0.heap.size]? = some (.cells #[c0, c1, c2, c3, c4] t (0, 0)) ∧ W.heap[w0.heap.size + 1]? = some (.cells #[.int .u64 0, .string ⟨#[]⟩, .string ⟨#[]⟩, .bool false] 47 (0, 0))

section
variable {t : TypeId} {w0 W W' : World} {c0 c1 c2 c3 c4 : Value}
theorem At0.made (t : TypeId) (w : World) (c0 c1 c2 c3 c4 : Value) : At0 t w c0 c1 c2 c3 c4 ((w.alloc (.cells #[c0, c1, c2, c3, c4] t)).alloc (.cells #[.int .u64 0, .string ⟨#[]⟩, .string ⟨#[]⟩, .bool false] 47)) :=
  ⟨((Below.refl _ _).alloc (Nat.le_refl _) _).alloc (by simp) _, heap_alloc2_old w _ _, heap_alloc2_new w _ _⟩
theorem At0.lt (h : At0 t w0 c0 c1 c2 c3 c4 W) : w0.heap.size + 1 < W.heap.size := lt_of_block h.2.2
theorem At0.call (h : At0 t w0 c0 c1 c2 c3 c4 W) (b : Below W.heap.size W W') : At0 t w0 c0 c1 c2 c3 c4 W' := by
  have hl := h.lt
  exact ⟨h.1.trans (b.mono h.1.size), by rw [b.block _ (by omega)]; exact h.2.1, by rw [b.block _ hl]; exact h.2.2⟩
theorem At0.alloc (h : At0 t w0 c0 c1 c2 c3 c4 W) (o : Obj) : At0 t w0 c0 c1 c2 c3 c4 (W.alloc o) := h.call ((Below.refl _ _).alloc (Nat.le_refl _) _)
theorem At0.drew (h : At0 t w0 c0 c1 c2 c3 c4 W) : At0 t w0 c0 c1 c2 c3 c4 W.drew := ⟨h.1.drew, h.2⟩
theorem At0.cells (h : At0 t w0 c0 c1 c2 c3 c4 W) : W.cell? ⟨w0.heap.size, 0, none⟩ = some c0 ∧ W.cell? ⟨w0.heap.size, 1, none⟩ = some c1 ∧ W.cell? ⟨w0.heap.size, 2, none⟩ = some c2 ∧ W.cell? ⟨w0.heap.size, 3, none⟩ = some c3 ∧ W.cell? ⟨w0.heap.size, 4, none⟩ = some c4 :=
  ⟨by rw [Lib.cell_of_heap h.2.1]; rfl, by rw [Lib.cell_of_heap h.2.1]; rfl, by rw [Lib.cell_of_heap h.2.1]; rfl, by rw [Lib.cell_of_heap h.2.1]; rfl, by rw [Lib.cell_of_heap h.2.1]; rfl⟩
theorem At0.out (h : At0 t w0 c0 c1 c2 c3 c4 W) : (W.cell? ⟨w0.heap.size + 1, 0, none⟩ = some (.int .u64 0) ∧ W.cell? ⟨w0.heap.size + 1, 1, none⟩ = some (.string ⟨#[]⟩) ∧ W.cell? ⟨w0.heap.size + 1, 2, none⟩ = some (.string ⟨#[]⟩) ∧ W.cell? ⟨w0.heap.size + 1, 3, none⟩ = some (.bool false)) ∧
    W.frozen? ⟨w0.heap.size + 1, 0, none⟩ = false ∧ W.frozen? ⟨w0.heap.size + 1, 1, none⟩ = false ∧ W.frozen? ⟨w0.heap.size + 1, 2, none⟩ = false ∧ W.frozen? ⟨w0.heap.size + 1, 3, none⟩ = false :=
  ⟨⟨by rw [Lib.cell_of_heap h.2.2]; rfl, by rw [Lib.cell_of_heap h.2.2]; rfl, by rw [Lib.cell_of_heap h.2.2]; rfl, by rw [Lib.cell_of_heap h.2.2]; rfl⟩, Lib.frozen_of_heap h.2.2 0, Lib.frozen_of_heap h.2.2 1, Lib.frozen_of_heap h.2.2 2, Lib.frozen_of_heap h.2.2 3⟩
end

/-- .. and a third block is the record that was read. -/
def At1 (t : TypeId) (w0 : World) (c0 c1 c2 c3 c4 : Value) (R : Nat) (q k v g : Value) (W : World) : Prop := At0 t w0 c0 c1 c2 c3 c4 W ∧ w0.heap.size + 1 < R ∧ W.heap[R]? = some (.cells #[q, k, v, g] 47 (0, 0))

section
variable {t : TypeId} {w0 W W' : World} {c0 c1 c2 c3 c4 q k v g : Value} {R : Nat}
theorem At0.more (h : At0 t w0 c0 c1 c2 c3 c4 W) (q k v g : Value) : At1 t w0 c0 c1 c2 c3 c4 W.heap.size q k v g (W.alloc (.cells #[q, k, v, g] 47)) := ⟨h.alloc _, h.lt, heap_alloc_new W _⟩
theorem At1.call (h : At1 t w0 c0 c1 c2 c3 c4 R q k v g W) (b : Below W.heap.size W W') : At1 t w0 c0 c1 c2 c3 c4 R q k v g W' := ⟨h.1.call b, h.2.1, by rw [b.block _ (lt_of_block h.2.2)]; exact h.2.2⟩
theorem At1.drew (h : At1 t w0 c0 c1 c2 c3 c4 R q k v g W) : At1 t w0 c0 c1 c2 c3 c4 R q k v g W.drew := ⟨h.1.drew, h.2⟩
theorem At1.rec (h : At1 t w0 c0 c1 c2 c3 c4 R q k v g W) : W.cell? ⟨R, 0, none⟩ = some q ∧ W.cell? ⟨R, 1, none⟩ = some k ∧ W.cell? ⟨R, 2, none⟩ = some v ∧ W.cell? ⟨R, 3, none⟩ = some g :=
  ⟨by rw [Lib.cell_of_heap h.2.2]; rfl, by rw [Lib.cell_of_heap h.2.2]; rfl, by rw [Lib.cell_of_heap h.2.2]; rfl, by rw [Lib.cell_of_heap h.2.2]; rfl⟩
theorem At1.cells (h : At1 t w0 c0 c1 c2 c3 c4 R q k v g W) : At1 t w0 c0 c1 c2 c3 c4 R q k v g W ∧ (W.cell? ⟨w0.heap.size, 0, none⟩ = some c0 ∧ W.cell? ⟨w0.heap.size, 1, none⟩ = some c1 ∧ W.cell? ⟨w0.heap.size, 2, none⟩ = some c2 ∧ W.cell? ⟨w0.heap.size, 3, none⟩ = some c3 ∧ W.cell? ⟨w0.heap.size, 4, none⟩ = some c4) ∧
    W.cell? ⟨R, 0, none⟩ = some q ∧ W.cell? ⟨R, 1, none⟩ = some k ∧ W.cell? ⟨R, 2, none⟩ = some v ∧ W.cell? ⟨R, 3, none⟩ = some g := ⟨h, h.1.cells, h.rec⟩
end

theorem below_set4' {w W : World} (h : Below w.heap.size w W) (v0 v1 v2 v3 : Value) : Below w.heap.size w ((((W.setCell ⟨w.heap.size + 1, 0, none⟩ v0).setCell ⟨w.heap.size + 1, 1, none⟩ v1).setCell ⟨w.heap.size + 1, 2, none⟩ v2).setCell ⟨w.heap.size + 1, 3, none⟩ v3) :=
  (((h.setCell (p := ⟨w.heap.size + 1, 0, none⟩) (Nat.le_succ _) _).setCell (p := ⟨w.heap.size + 1, 1, none⟩) (Nat.le_succ _) _).setCell (p := ⟨w.heap.size + 1, 2, none⟩) (Nat.le_succ _) _).setCell (p := ⟨w.heap.size + 1, 3, none⟩) (Nat.le_succ _) _

/-- What At returns. -/
def hatV (b : List UInt8) (e : Et) : Value := .tuple #[rv (hat b e).1, .int .i64 (((hat b e).2 : Nat) : Int)]

theorem ext_mid (b : List UInt8) (o l : Nat) : (bs b).extract o (o + l) = bs ((b.drop o).take l) := by
  rw [Lib.extract_eq, bs_list]
  simp [bs]

set_option maxRecDepth 100000 in
set_option maxHeartbeats 4000000 in
theorem hat_any (b : List UInt8) (e : Et) (w : World) (h : EFit e) :
    Calls Tryz.prog 60 #[.string (bs b), ev e] w fun x w' => x = .returned (hatV b e) ∧ Below w.heap.size w w' := by
  have h1 := fun W => valid_any e W h
  have A0 := Lib.hid (At0.made 51 w (.string (bs e.k)) (.int .i64 e.o) (.int .i64 e.l) (.int .u64 ((e.q : Nat) : Int)) (.bool e.g))
  have hB := bs_size b
  simp only [ev] at h1 ⊢
  cases hr : eright e with
  | false =>
    have hv : hatV b e = .tuple #[.agg #[.int .u64 0, .string ⟨#[]⟩, .string ⟨#[]⟩, .bool false], .int .i64 1] := by rw [hatV, hat_arg (.inl hr)]; rfl
    rw [hv]
    rw [hr] at h1
    have H1 := Lib.hid h1
    clear h1 hv hr hB
    go_enter Tryz.func60, Tryz.ntmps60
    go_wp2_with fail
    (with_reducible refine (H1.out _).mono ?_)
    rintro e w1 ⟨rfl, b1⟩
    have A1 := A0.out.call b1
    obtain ⟨⟨d0, d1, d2, d3⟩, g0, g1, g2, g3⟩ := A1.out
    go_wp2_with fail
    exact bodyPost_ret (v := .tuple #[.agg #[.int .u64 0, .string ⟨#[]⟩, .string ⟨#[]⟩, .bool false], .int .i64 1]) (by simp [results, Tryz.results60, go_sem, d0, d1, d2, d3]) rfl ⟨rfl, below_set4' A1.1 _ _ _ _⟩
  | true =>
    obtain ⟨r1, r2, r3, r4, r5, r6, r7, r8⟩ := (eright_iff e).1 hr
    rw [hr] at h1
    have H1 := Lib.hid h1
    by_cases hlt : (b.length : Int) < e.o + e.l
    · have hv : hatV b e = .tuple #[.agg #[.int .u64 0, .string ⟨#[]⟩, .string ⟨#[]⟩, .bool false], .int .i64 1] := by rw [hatV, hat_arg (.inr hlt)]; rfl
      rw [hv]
      rw [← hB] at hlt
      clear h1 hv hr hB
      generalize e.o = O at *
      generalize e.l = L at *
      generalize bs e.k = K at *
      generalize ((e.q : Nat) : Int) = Q at *
      generalize e.g = G at *
      go_enter Tryz.func60, Tryz.ntmps60
      go_wp2_with fail
      (with_reducible refine (H1.out _).mono ?_)
      rintro e w1 ⟨rfl, b1⟩
      have A1 := A0.out.call b1
      obtain ⟨⟨d0, d1, d2, d3⟩, g0, g1, g2, g3⟩ := A1.out
      obtain ⟨c0, c1, c2, c3, c4⟩ := A1.cells
      go_wp2_with fail
      exact bodyPost_ret (v := .tuple #[.agg #[.int .u64 0, .string ⟨#[]⟩, .string ⟨#[]⟩, .bool false], .int .i64 1]) (by simp [results, Tryz.results60, go_sem, d0, d1, d2, d3]) rfl ⟨rfl, below_set4' A1.1 _ _ _ _⟩
    · obtain ⟨r, s, er, hrd⟩ : ∃ r s x, rd ((b.drop e.o.toNat).take e.l.toNat) = (r, s, x) := ⟨_, _, _, rfl⟩
      have hv := hat_of hr hlt hrd
      have hsl : s.length ≤ e.l.toNat := by
        rcases rd_cases ((b.drop e.o.toNat).take e.l.toNat) with ⟨x, _, _, hx⟩ | ⟨r', s', hx, _, hy⟩
        · rw [hrd] at hx; simp at hx; rw [hx.2.1]; simp
        · rw [hrd] at hx; simp at hx
          obtain ⟨_, rfl, _⟩ := hx
          have := congrArg List.length hy
          rw [List.length_append] at this
          have h3 := List.length_take_le e.l.toNat (b.drop e.o.toNat)
          omega
      have h2 := read_of ((b.drop e.o.toNat).take e.l.toNat) (by have := List.length_take_le e.l.toNat (b.drop e.o.toNat); omega) r s er hrd
      rw [← ext_mid] at h2
      obtain ⟨o, ho⟩ : ∃ o : Nat, e.o = (o : Int) := ⟨e.o.toNat, by omega⟩
      obtain ⟨l, hl⟩ : ∃ l : Nat, e.l = (l : Int) := ⟨e.l.toNat, by omega⟩
      rw [ho, hl, Int.toNat_natCast, Int.toNat_natCast] at h2
      have H2 := Lib.hid h2
      rw [ho, hl] at A0 H1 ⊢
      rw [ho, hl, ← hB] at hlt
      rw [hl, Int.toNat_natCast] at hsl
      have zs := bs_size s
      have hsz : (bs s).size ≤ l := by omega
      have l400 : l ≤ 400 := by omega
      have o1m : o ≤ 1048576 := by omega
      have hol : o + l ≤ (bs b).size := by omega
      by_cases he : er = 0
      · subst he
        have h3 := fun W => entry_of ((r.q : Nat) : Int) (bs r.k) (bs r.v) r.g (o : Int) ((l : Int) - ((bs s).size : Int)) W
        have H3 := Lib.hid h3
        by_cases hok : s = [] ∧ r.k = e.k ∧ r.q = e.q ∧ r.g = e.g
        · rw [if_pos ⟨rfl, hok⟩] at hv
          obtain ⟨rfl, hk, hq, hg⟩ := hok
          have hvv : hatV b e = .tuple #[.agg #[.int .u64 ((r.q : Nat) : Int), .string (bs r.k), .string (bs r.v), .bool r.g], .int .i64 0] := by rw [hatV, hv]; rfl
          rw [hvv, ← hk, ← hq, ← hg]
          rw [← hk, ← hq, ← hg] at H1 A0
          clear h1 h2 hv hvv hr hrd r1 r2 r3 r4 r5 r6 r7 r8 ho hl zs hsl hlt h hB h3 hk hq hg
          rw [show bs ([] : List UInt8) = ⟨#[]⟩ from rfl] at H2 H3 hsz
          have w1' := IntWalk.i64_in ((l : Int) - 0) ⟨by omega, by omega⟩
          rw [Int.sub_zero] at w1'
          rw [show (((⟨#[]⟩ : ByteArray).size : Nat) : Int) = 0 from rfl, Int.sub_zero] at H3
          clear hsz
          generalize bs b = B at *
          generalize ((r.q : Nat) : Int) = Q1 at *
          generalize bs r.k = K1 at *
          generalize bs r.v = V1 at *
          generalize r.g = G1 at *
          go_enter Tryz.func60, Tryz.ntmps60
          go_wp2_with fail
          (with_reducible refine (H1.out _).mono ?_)
          rintro e w1 ⟨rfl, b1⟩
          have A1 := A0.out.call b1
          obtain ⟨c0, c1, c2, c3, c4⟩ := A1.cells
          have HA1 := Lib.hid A1
          clear A0 b1 A1
          go_wp2_with fail
          (with_reducible refine (H2.out _).mono ?_)
          rintro e w2 ⟨rfl, b2⟩
          have A2 := Lib.hid ((HA1.out.call b2).more (.int .u64 Q1) (.string K1) (.string V1) (.bool G1))
          have C2 := Lib.hid fun W (hW : At1 51 w (.string K1) (.int .i64 (o : Int)) (.int .i64 (l : Int)) (.int .u64 Q1) (.bool G1) w2.heap.size (.int .u64 Q1) (.string K1) (.string V1) (.bool G1) W) => (H3.out W).mono fun e W' ⟨he, hb⟩ => And.intro he (hW.call hb)
          clear HA1 b2 c0 c1 c2 c3 c4 H1 H2 H3
          go_wp2_with fail
          generalize w2.alloc (.cells #[.int .u64 Q1, .string K1, .string V1, .bool G1] 47) = w3 at *
          generalize w2.heap.size = R at *
          go_region_held3 (fun W => At1 51 w (.string K1) (.int .i64 (o : Int)) (.int .i64 (l : Int)) (.int .u64 Q1) (.bool G1) R (.int .u64 Q1) (.string K1) (.string V1) (.bool G1) W ∧ (W.cell? ⟨w.heap.size, 0, none⟩ = some (.string K1) ∧ W.cell? ⟨w.heap.size, 1, none⟩ = some (.int .i64 (o : Int)) ∧ W.cell? ⟨w.heap.size, 2, none⟩ = some (.int .i64 (l : Int)) ∧ W.cell? ⟨w.heap.size, 3, none⟩ = some (.int .u64 Q1) ∧ W.cell? ⟨w.heap.size, 4, none⟩ = some (.bool G1)) ∧ W.cell? ⟨R, 0, none⟩ = some (.int .u64 Q1) ∧ W.cell? ⟨R, 1, none⟩ = some (.string K1) ∧ W.cell? ⟨R, 2, none⟩ = some (.string V1) ∧ W.cell? ⟨R, 3, none⟩ = some (.bool G1))
            (first | exact At1.cells ‹_› | exact At1.cells A2.out | exact At1.cells A2.out.drew | exact At1.cells (At1.drew ‹_›))
            (first | (go_at_call 93; (with_reducible refine (C2.out _ ?_).mono ?_); (first | assumption | exact A2.out | exact A2.out.drew | exact At1.drew ‹_›); rintro e w4 ⟨rfl, k4⟩))
          obtain ⟨⟨d0, d1, d2, d3⟩, g0, g1, g2, g3⟩ := At0.out (And.left ‹At1 51 w _ _ _ _ _ _ _ _ _ _ _›)
          have HB4 := Lib.hid (And.left (And.left ‹At1 51 w _ _ _ _ _ _ _ _ _ _ _›))
          go_wp2_with fail
          exact bodyPost_ret (v := .tuple #[.agg #[.int .u64 Q1, .string K1, .string V1, .bool G1], .int .i64 0]) (by simp [results, Tryz.results60, go_sem, d0, d1, d2, d3]) rfl ⟨rfl, below_set4' HB4.out _ _ _ _⟩
        · rw [if_neg (by simp only [true_and]; exact hok)] at hv
          have hvv : hatV b e = .tuple #[.agg #[.int .u64 0, .string ⟨#[]⟩, .string ⟨#[]⟩, .bool false], .int .i64 2] := by rw [hatV, hv]; rfl
          rw [hvv]
          have hok2 : r.k ≠ e.k ∨ (r.k = e.k ∧ s ≠ []) ∨ (r.k = e.k ∧ s = [] ∧ r.q ≠ e.q) ∨ (r.k = e.k ∧ s = [] ∧ r.q = e.q ∧ r.g ≠ e.g) := by
            by_cases a1 : r.k = e.k
            · by_cases a2 : s = []
              · by_cases a3 : r.q = e.q
                · exact .inr (.inr (.inr ⟨a1, a2, a3, fun a4 => hok ⟨a2, a1, a3, a4⟩⟩))
                · exact .inr (.inr (.inl ⟨a1, a2, a3⟩))
              · exact .inr (.inl ⟨a1, a2⟩)
            · exact .inl a1
          have w1' := IntWalk.i64_in ((l : Int) - ((bs s).size : Int)) ⟨by omega, by omega⟩
          have hls : (0 : Int) ≤ (l : Int) - ((bs s).size : Int) := by omega
          clear h1 h2 hv hvv hr hrd r1 r2 r3 r4 r5 r6 r7 r8 ho hl hsl hlt h hB h3 hok zs
          rcases hok2 with hne | hok2 | hok2 | hok2
          · have hcmp : ((bs r.k).toList == (bs e.k).toList) = false := by rw [bs_toList, bs_toList, beq_eq_false_iff_ne]; exact hne
            clear hne
            generalize bs b = B at *
            generalize bs s = S at *
            generalize ((r.q : Nat) : Int) = Q1 at *
            generalize bs r.k = K1 at *
            generalize bs r.v = V1 at *
            generalize r.g = G1 at *
            generalize ((e.q : Nat) : Int) = Q at *
            generalize bs e.k = K at *
            generalize e.g = G at *
            go_enter Tryz.func60, Tryz.ntmps60
            go_wp2_with fail
            (with_reducible refine (H1.out _).mono ?_)
            rintro e w1 ⟨rfl, b1⟩
            have A1 := A0.out.call b1
            obtain ⟨c0, c1, c2, c3, c4⟩ := A1.cells
            have HA1 := Lib.hid A1
            clear A0 b1 A1
            go_wp2_with fail
            (with_reducible refine (H2.out _).mono ?_)
            rintro e w2 ⟨rfl, b2⟩
            have A2 := Lib.hid ((HA1.out.call b2).more (.int .u64 Q1) (.string K1) (.string V1) (.bool G1))
            have C2 := Lib.hid fun W (hW : At1 51 w (.string K) (.int .i64 (o : Int)) (.int .i64 (l : Int)) (.int .u64 Q) (.bool G) w2.heap.size (.int .u64 Q1) (.string K1) (.string V1) (.bool G1) W) => (H3.out W).mono fun e W' ⟨he, hb⟩ => And.intro he (hW.call hb)
            clear HA1 b2 c0 c1 c2 c3 c4 H1 H2 H3
            go_wp2_with fail
            generalize w2.alloc (.cells #[.int .u64 Q1, .string K1, .string V1, .bool G1] 47) = w3 at *
            generalize w2.heap.size = R at *
            go_region_held3 (fun W => At1 51 w (.string K) (.int .i64 (o : Int)) (.int .i64 (l : Int)) (.int .u64 Q) (.bool G) R (.int .u64 Q1) (.string K1) (.string V1) (.bool G1) W ∧ (W.cell? ⟨w.heap.size, 0, none⟩ = some (.string K) ∧ W.cell? ⟨w.heap.size, 1, none⟩ = some (.int .i64 (o : Int)) ∧ W.cell? ⟨w.heap.size, 2, none⟩ = some (.int .i64 (l : Int)) ∧ W.cell? ⟨w.heap.size, 3, none⟩ = some (.int .u64 Q) ∧ W.cell? ⟨w.heap.size, 4, none⟩ = some (.bool G)) ∧ W.cell? ⟨R, 0, none⟩ = some (.int .u64 Q1) ∧ W.cell? ⟨R, 1, none⟩ = some (.string K1) ∧ W.cell? ⟨R, 2, none⟩ = some (.string V1) ∧ W.cell? ⟨R, 3, none⟩ = some (.bool G1))
              (first | exact At1.cells ‹_› | exact At1.cells A2.out | exact At1.cells A2.out.drew | exact At1.cells (At1.drew ‹_›))
              (first | (go_at_call 93; (with_reducible refine (C2.out _ ?_).mono ?_); (first | assumption | exact A2.out | exact A2.out.drew | exact At1.drew ‹_›); rintro e w4 ⟨rfl, k4⟩))
            obtain ⟨⟨d0, d1, d2, d3⟩, g0, g1, g2, g3⟩ := At0.out (And.left ‹At1 51 w _ _ _ _ _ _ _ _ _ _ _›)
            have HB4 := Lib.hid (And.left (And.left ‹At1 51 w _ _ _ _ _ _ _ _ _ _ _›))
            go_wp2_with fail
            exact bodyPost_ret (v := .tuple #[.agg #[.int .u64 0, .string ⟨#[]⟩, .string ⟨#[]⟩, .bool false], .int .i64 2]) (by simp [results, Tryz.results60, go_sem, d0, d1, d2, d3]) rfl ⟨rfl, below_set4' HB4.out _ _ _ _⟩
          · obtain ⟨hk, hs⟩ := hok2
            have hcmp : ((bs r.k).toList == (bs e.k).toList) = true := by rw [hk]; simp
            have hsz0 : 0 < (bs s).size := by rw [bs_size]; exact List.length_pos_iff.2 hs
            have hcm2 : ((l : Int) - ((bs s).size : Int) == (l : Int)) = false := by rw [beq_eq_false_iff_ne]; omega
            have hcm2' : ¬ (l : Int) - ((bs s).size : Int) = (l : Int) := by omega
            clear hk hs hsz0
            generalize bs b = B at *
            generalize bs s = S at *
            generalize ((r.q : Nat) : Int) = Q1 at *
            generalize bs r.k = K1 at *
            generalize bs r.v = V1 at *
            generalize r.g = G1 at *
            generalize ((e.q : Nat) : Int) = Q at *
            generalize bs e.k = K at *
            generalize e.g = G at *
            go_enter Tryz.func60, Tryz.ntmps60
            go_wp2_with fail
            (with_reducible refine (H1.out _).mono ?_)
            rintro e w1 ⟨rfl, b1⟩
            have A1 := A0.out.call b1
            obtain ⟨c0, c1, c2, c3, c4⟩ := A1.cells
            have HA1 := Lib.hid A1
            clear A0 b1 A1
            go_wp2_with fail
            (with_reducible refine (H2.out _).mono ?_)
            rintro e w2 ⟨rfl, b2⟩
            have A2 := Lib.hid ((HA1.out.call b2).more (.int .u64 Q1) (.string K1) (.string V1) (.bool G1))
            have C2 := Lib.hid fun W (hW : At1 51 w (.string K) (.int .i64 (o : Int)) (.int .i64 (l : Int)) (.int .u64 Q) (.bool G) w2.heap.size (.int .u64 Q1) (.string K1) (.string V1) (.bool G1) W) => (H3.out W).mono fun e W' ⟨he, hb⟩ => And.intro he (hW.call hb)
            clear HA1 b2 c0 c1 c2 c3 c4 H1 H2 H3
            go_wp2_with fail
            generalize w2.alloc (.cells #[.int .u64 Q1, .string K1, .string V1, .bool G1] 47) = w3 at *
            generalize w2.heap.size = R at *
            go_region_held3 (fun W => At1 51 w (.string K) (.int .i64 (o : Int)) (.int .i64 (l : Int)) (.int .u64 Q) (.bool G) R (.int .u64 Q1) (.string K1) (.string V1) (.bool G1) W ∧ (W.cell? ⟨w.heap.size, 0, none⟩ = some (.string K) ∧ W.cell? ⟨w.heap.size, 1, none⟩ = some (.int .i64 (o : Int)) ∧ W.cell? ⟨w.heap.size, 2, none⟩ = some (.int .i64 (l : Int)) ∧ W.cell? ⟨w.heap.size, 3, none⟩ = some (.int .u64 Q) ∧ W.cell? ⟨w.heap.size, 4, none⟩ = some (.bool G)) ∧ W.cell? ⟨R, 0, none⟩ = some (.int .u64 Q1) ∧ W.cell? ⟨R, 1, none⟩ = some (.string K1) ∧ W.cell? ⟨R, 2, none⟩ = some (.string V1) ∧ W.cell? ⟨R, 3, none⟩ = some (.bool G1))
              (first | exact At1.cells ‹_› | exact At1.cells A2.out | exact At1.cells A2.out.drew | exact At1.cells (At1.drew ‹_›))
              (first | (go_at_call 93; (with_reducible refine (C2.out _ ?_).mono ?_); (first | assumption | exact A2.out | exact A2.out.drew | exact At1.drew ‹_›); rintro e w4 ⟨rfl, k4⟩))
            obtain ⟨⟨d0, d1, d2, d3⟩, g0, g1, g2, g3⟩ := At0.out (And.left ‹At1 51 w _ _ _ _ _ _ _ _ _ _ _›)
            have HB4 := Lib.hid (And.left (And.left ‹At1 51 w _ _ _ _ _ _ _ _ _ _ _›))
            go_wp2_with fail
            exact bodyPost_ret (v := .tuple #[.agg #[.int .u64 0, .string ⟨#[]⟩, .string ⟨#[]⟩, .bool false], .int .i64 2]) (by simp [results, Tryz.results60, go_sem, d0, d1, d2, d3]) rfl ⟨rfl, below_set4' HB4.out _ _ _ _⟩
          · obtain ⟨hk, hs, hq⟩ := hok2
            have hcmp : ((bs r.k).toList == (bs e.k).toList) = true := by rw [hk]; simp
            have hcm2 : ((l : Int) - ((bs s).size : Int) == (l : Int)) = true := by rw [hs, beq_iff_eq]; show (l : Int) - ((0 : Nat) : Int) = l; omega
            have hcm3 : ((((r.q : Nat) : Int)) == (((e.q : Nat) : Int))) = false := by rw [beq_eq_false_iff_ne]; omega
            have hcm3' : ¬ (((r.q : Nat) : Int)) = (((e.q : Nat) : Int)) := by omega
            clear hk hs hq
            generalize bs b = B at *
            generalize bs s = S at *
            generalize ((r.q : Nat) : Int) = Q1 at *
            generalize bs r.k = K1 at *
            generalize bs r.v = V1 at *
            generalize r.g = G1 at *
            generalize ((e.q : Nat) : Int) = Q at *
            generalize bs e.k = K at *
            generalize e.g = G at *
            go_enter Tryz.func60, Tryz.ntmps60
            go_wp2_with fail
            (with_reducible refine (H1.out _).mono ?_)
            rintro e w1 ⟨rfl, b1⟩
            have A1 := A0.out.call b1
            obtain ⟨c0, c1, c2, c3, c4⟩ := A1.cells
            have HA1 := Lib.hid A1
            clear A0 b1 A1
            go_wp2_with fail
            (with_reducible refine (H2.out _).mono ?_)
            rintro e w2 ⟨rfl, b2⟩
            have A2 := Lib.hid ((HA1.out.call b2).more (.int .u64 Q1) (.string K1) (.string V1) (.bool G1))
            have C2 := Lib.hid fun W (hW : At1 51 w (.string K) (.int .i64 (o : Int)) (.int .i64 (l : Int)) (.int .u64 Q) (.bool G) w2.heap.size (.int .u64 Q1) (.string K1) (.string V1) (.bool G1) W) => (H3.out W).mono fun e W' ⟨he, hb⟩ => And.intro he (hW.call hb)
            clear HA1 b2 c0 c1 c2 c3 c4 H1 H2 H3
            go_wp2_with fail
            generalize w2.alloc (.cells #[.int .u64 Q1, .string K1, .string V1, .bool G1] 47) = w3 at *
            generalize w2.heap.size = R at *
            go_region_held3 (fun W => At1 51 w (.string K) (.int .i64 (o : Int)) (.int .i64 (l : Int)) (.int .u64 Q) (.bool G) R (.int .u64 Q1) (.string K1) (.string V1) (.bool G1) W ∧ (W.cell? ⟨w.heap.size, 0, none⟩ = some (.string K) ∧ W.cell? ⟨w.heap.size, 1, none⟩ = some (.int .i64 (o : Int)) ∧ W.cell? ⟨w.heap.size, 2, none⟩ = some (.int .i64 (l : Int)) ∧ W.cell? ⟨w.heap.size, 3, none⟩ = some (.int .u64 Q) ∧ W.cell? ⟨w.heap.size, 4, none⟩ = some (.bool G)) ∧ W.cell? ⟨R, 0, none⟩ = some (.int .u64 Q1) ∧ W.cell? ⟨R, 1, none⟩ = some (.string K1) ∧ W.cell? ⟨R, 2, none⟩ = some (.string V1) ∧ W.cell? ⟨R, 3, none⟩ = some (.bool G1))
              (first | exact At1.cells ‹_› | exact At1.cells A2.out | exact At1.cells A2.out.drew | exact At1.cells (At1.drew ‹_›))
              (first | (go_at_call 93; (with_reducible refine (C2.out _ ?_).mono ?_); (first | assumption | exact A2.out | exact A2.out.drew | exact At1.drew ‹_›); rintro e w4 ⟨rfl, k4⟩))
            obtain ⟨⟨d0, d1, d2, d3⟩, g0, g1, g2, g3⟩ := At0.out (And.left ‹At1 51 w _ _ _ _ _ _ _ _ _ _ _›)
            have HB4 := Lib.hid (And.left (And.left ‹At1 51 w _ _ _ _ _ _ _ _ _ _ _›))
            go_wp2_with fail
            exact bodyPost_ret (v := .tuple #[.agg #[.int .u64 0, .string ⟨#[]⟩, .string ⟨#[]⟩, .bool false], .int .i64 2]) (by simp [results, Tryz.results60, go_sem, d0, d1, d2, d3]) rfl ⟨rfl, below_set4' HB4.out _ _ _ _⟩
          · obtain ⟨hk, hs, hq, hg⟩ := hok2
            have hcmp : ((bs r.k).toList == (bs e.k).toList) = true := by rw [hk]; simp
            have hcm2 : ((l : Int) - ((bs s).size : Int) == (l : Int)) = true := by rw [hs, beq_iff_eq]; show (l : Int) - ((0 : Nat) : Int) = l; omega
            have hcm4 : (r.g == e.g) = false := by rw [beq_eq_false_iff_ne]; exact hg
            rw [← hq] at A0 H1 ⊢
            clear hk hs hq hg
            generalize bs b = B at *
            generalize bs s = S at *
            generalize ((r.q : Nat) : Int) = Q1 at *
            generalize bs r.k = K1 at *
            generalize bs r.v = V1 at *
            generalize r.g = G1 at *
            generalize bs e.k = K at *
            generalize e.g = G at *
            go_enter Tryz.func60, Tryz.ntmps60
            go_wp2_with fail
            (with_reducible refine (H1.out _).mono ?_)
            rintro e w1 ⟨rfl, b1⟩
            have A1 := A0.out.call b1
            obtain ⟨c0, c1, c2, c3, c4⟩ := A1.cells
            have HA1 := Lib.hid A1
            clear A0 b1 A1
            go_wp2_with fail
            (with_reducible refine (H2.out _).mono ?_)
            rintro e w2 ⟨rfl, b2⟩
            have A2 := Lib.hid ((HA1.out.call b2).more (.int .u64 Q1) (.string K1) (.string V1) (.bool G1))
            have C2 := Lib.hid fun W (hW : At1 51 w (.string K) (.int .i64 (o : Int)) (.int .i64 (l : Int)) (.int .u64 Q1) (.bool G) w2.heap.size (.int .u64 Q1) (.string K1) (.string V1) (.bool G1) W) => (H3.out W).mono fun e W' ⟨he, hb⟩ => And.intro he (hW.call hb)
            clear HA1 b2 c0 c1 c2 c3 c4 H1 H2 H3
            go_wp2_with fail
            generalize w2.alloc (.cells #[.int .u64 Q1, .string K1, .string V1, .bool G1] 47) = w3 at *
            generalize w2.heap.size = R at *
            go_region_held3 (fun W => At1 51 w (.string K) (.int .i64 (o : Int)) (.int .i64 (l : Int)) (.int .u64 Q1) (.bool G) R (.int .u64 Q1) (.string K1) (.string V1) (.bool G1) W ∧ (W.cell? ⟨w.heap.size, 0, none⟩ = some (.string K) ∧ W.cell? ⟨w.heap.size, 1, none⟩ = some (.int .i64 (o : Int)) ∧ W.cell? ⟨w.heap.size, 2, none⟩ = some (.int .i64 (l : Int)) ∧ W.cell? ⟨w.heap.size, 3, none⟩ = some (.int .u64 Q1) ∧ W.cell? ⟨w.heap.size, 4, none⟩ = some (.bool G)) ∧ W.cell? ⟨R, 0, none⟩ = some (.int .u64 Q1) ∧ W.cell? ⟨R, 1, none⟩ = some (.string K1) ∧ W.cell? ⟨R, 2, none⟩ = some (.string V1) ∧ W.cell? ⟨R, 3, none⟩ = some (.bool G1))
              (first | exact At1.cells ‹_› | exact At1.cells A2.out | exact At1.cells A2.out.drew | exact At1.cells (At1.drew ‹_›))
              (first | (go_at_call 93; (with_reducible refine (C2.out _ ?_).mono ?_); (first | assumption | exact A2.out | exact A2.out.drew | exact At1.drew ‹_›); rintro e w4 ⟨rfl, k4⟩))
            obtain ⟨⟨d0, d1, d2, d3⟩, g0, g1, g2, g3⟩ := At0.out (And.left ‹At1 51 w _ _ _ _ _ _ _ _ _ _ _›)
            have HB4 := Lib.hid (And.left (And.left ‹At1 51 w _ _ _ _ _ _ _ _ _ _ _›))
            go_wp2_with fail
            exact bodyPost_ret (v := .tuple #[.agg #[.int .u64 0, .string ⟨#[]⟩, .string ⟨#[]⟩, .bool false], .int .i64 2]) (by simp [results, Tryz.results60, go_sem, d0, d1, d2, d3]) rfl ⟨rfl, below_set4' HB4.out _ _ _ _⟩
      · rw [if_neg (by simp [he])] at hv
        have hvv : hatV b e = .tuple #[.agg #[.int .u64 0, .string ⟨#[]⟩, .string ⟨#[]⟩, .bool false], .int .i64 2] := by rw [hatV, hv]; rfl
        rw [hvv]
        have hb0 : ((er : Int) != 0) = true := by rw [bne_iff_ne]; omega
        clear h1 h2 hv hvv hr hrd r1 r2 r3 r4 r5 r6 r7 r8 ho hl zs hsl hlt h he hB
        generalize bs e.k = K at *
        generalize ((e.q : Nat) : Int) = Q at *
        generalize e.g = G at *
        generalize bs b = B at *
        generalize bs s = S at *
        generalize ((r.q : Nat) : Int) = Q1 at *
        generalize bs r.k = K1 at *
        generalize bs r.v = V1 at *
        generalize r.g = G1 at *
        go_enter Tryz.func60, Tryz.ntmps60
        go_wp2_with fail
        (with_reducible refine (H1.out _).mono ?_)
        rintro e w1 ⟨rfl, b1⟩
        have A1 := A0.out.call b1
        obtain ⟨c0, c1, c2, c3, c4⟩ := A1.cells
        have HA1 := Lib.hid A1
        clear A0 b1 A1
        go_wp2_with fail
        (with_reducible refine (H2.out _).mono ?_)
        rintro e w2 ⟨rfl, b2⟩
        have A2 := (HA1.out.call b2).alloc (.cells #[.int .u64 Q1, .string K1, .string V1, .bool G1] 47)
        obtain ⟨⟨d0, d1, d2, d3⟩, g0, g1, g2, g3⟩ := A2.out
        have HA2 := Lib.hid A2.1
        clear HA1 b2 A2 c0 c1 c2 c3 c4
        go_wp2_with fail
        generalize w2.alloc (.cells #[.int .u64 Q1, .string K1, .string V1, .bool G1] 47) = w3 at *
        go_quiet (fail)
        go_wp2_with fail
        exact bodyPost_ret (v := .tuple #[.agg #[.int .u64 0, .string ⟨#[]⟩, .string ⟨#[]⟩, .bool false], .int .i64 2]) (by simp [results, Tryz.results60, go_sem, d0, d1, d2, d3]) rfl ⟨rfl, below_set4' (below_drewN HA2.out _) _ _ _ _⟩

end Go.Proofs.YtmekkbhblghbmaaGreatDoor

/- What the document's own At of layer 5 returns. -/
namespace Go.Proofs.YtmekkbhblghbmaaGreatDoor
open Go.RowKit

set_option maxRecDepth 100000 in
set_option maxHeartbeats 4000000 in
theorem refhat_any (b : List UInt8) (e : Et) (w : World) (h : EFit e) :
    Calls Tryz.prog 62 #[.string (bs b), ev e] w fun x w' => x = .returned (hatV b e) ∧ Below w.heap.size w w' := by
  have h1 := fun W => refvalid_any e W h
  have A0 := Lib.hid (At0.made 53 w (.string (bs e.k)) (.int .i64 e.o) (.int .i64 e.l) (.int .u64 ((e.q : Nat) : Int)) (.bool e.g))
  have hB := bs_size b
  simp only [ev] at h1 ⊢
  cases hr : eright e with
  | false =>
    have hv : hatV b e = .tuple #[.agg #[.int .u64 0, .string ⟨#[]⟩, .string ⟨#[]⟩, .bool false], .int .i64 1] := by rw [hatV, hat_arg (.inl hr)]; rfl
    rw [hv]
    rw [hr] at h1
    have H1 := Lib.hid h1
    clear h1 hv hr hB
    go_enter Tryz.func62, Tryz.ntmps62
    go_wp2_with fail
    (with_reducible refine (H1.out _).mono ?_)
    rintro e w1 ⟨rfl, b1⟩
    have A1 := A0.out.call b1
    obtain ⟨⟨d0, d1, d2, d3⟩, g0, g1, g2, g3⟩ := A1.out
    go_wp2_with fail
    exact bodyPost_ret (v := .tuple #[.agg #[.int .u64 0, .string ⟨#[]⟩, .string ⟨#[]⟩, .bool false], .int .i64 1]) (by simp [results, Tryz.results62, go_sem, d0, d1, d2, d3]) rfl ⟨rfl, below_set4' A1.1 _ _ _ _⟩
  | true =>
    obtain ⟨r1, r2, r3, r4, r5, r6, r7, r8⟩ := (eright_iff e).1 hr
    rw [hr] at h1
    have H1 := Lib.hid h1
    by_cases hlt : (b.length : Int) < e.o + e.l
    · have hv : hatV b e = .tuple #[.agg #[.int .u64 0, .string ⟨#[]⟩, .string ⟨#[]⟩, .bool false], .int .i64 1] := by rw [hatV, hat_arg (.inr hlt)]; rfl
      rw [hv]
      rw [← hB] at hlt
      clear h1 hv hr hB
      generalize e.o = O at *
      generalize e.l = L at *
      generalize bs e.k = K at *
      generalize ((e.q : Nat) : Int) = Q at *
      generalize e.g = G at *
      go_enter Tryz.func62, Tryz.ntmps62
      go_wp2_with fail
      (with_reducible refine (H1.out _).mono ?_)
      rintro e w1 ⟨rfl, b1⟩
      have A1 := A0.out.call b1
      obtain ⟨⟨d0, d1, d2, d3⟩, g0, g1, g2, g3⟩ := A1.out
      obtain ⟨c0, c1, c2, c3, c4⟩ := A1.cells
      go_wp2_with fail
      exact bodyPost_ret (v := .tuple #[.agg #[.int .u64 0, .string ⟨#[]⟩, .string ⟨#[]⟩, .bool false], .int .i64 1]) (by simp [results, Tryz.results62, go_sem, d0, d1, d2, d3]) rfl ⟨rfl, below_set4' A1.1 _ _ _ _⟩
    · obtain ⟨r, s, er, hrd⟩ : ∃ r s x, rd ((b.drop e.o.toNat).take e.l.toNat) = (r, s, x) := ⟨_, _, _, rfl⟩
      have hv := hat_of hr hlt hrd
      have h2 := refread_of ((b.drop e.o.toNat).take e.l.toNat) (by have := List.length_take_le e.l.toNat (b.drop e.o.toNat); omega) r s er hrd
      rw [← ext_mid] at h2
      obtain ⟨o, ho⟩ : ∃ o : Nat, e.o = (o : Int) := ⟨e.o.toNat, by omega⟩
      obtain ⟨l, hl⟩ : ∃ l : Nat, e.l = (l : Int) := ⟨e.l.toNat, by omega⟩
      rw [ho, hl, Int.toNat_natCast, Int.toNat_natCast] at h2
      have H2 := Lib.hid h2
      rw [ho, hl] at A0 H1 ⊢
      rw [ho, hl, ← hB] at hlt
      have l400 : l ≤ 400 := by omega
      have o1m : o ≤ 1048576 := by omega
      have hol : o + l ≤ (bs b).size := by omega
      have hcs : (er ≠ 0 ∨ (er = 0 ∧ s ≠ []) ∨ (er = 0 ∧ s = [] ∧ r.k ≠ e.k) ∨ (er = 0 ∧ s = [] ∧ r.k = e.k ∧ r.q ≠ e.q) ∨ (er = 0 ∧ s = [] ∧ r.k = e.k ∧ r.q = e.q ∧ r.g ≠ e.g)) ∨ (er = 0 ∧ s = [] ∧ r.k = e.k ∧ r.q = e.q ∧ r.g = e.g) := by
        by_cases a0 : er = 0
        · by_cases a2 : s = []
          · by_cases a1 : r.k = e.k
            · by_cases a3 : r.q = e.q
              · by_cases a4 : r.g = e.g
                · exact .inr ⟨a0, a2, a1, a3, a4⟩
                · exact .inl (.inr (.inr (.inr (.inr ⟨a0, a2, a1, a3, a4⟩))))
              · exact .inl (.inr (.inr (.inr (.inl ⟨a0, a2, a1, a3⟩))))
            · exact .inl (.inr (.inr (.inl ⟨a0, a2, a1⟩)))
          · exact .inl (.inr (.inl ⟨a0, a2⟩))
        · exact .inl (.inl a0)
      rcases hcs with hbad | hok
      · rw [if_neg (by intro ⟨q0, q1, q2, q3, q4⟩; rcases hbad with q | ⟨_, q⟩ | ⟨_, _, q⟩ | ⟨_, _, _, q⟩ | ⟨_, _, _, _, q⟩ <;> exact absurd (by assumption) q)] at hv
        have hvv : hatV b e = .tuple #[.agg #[.int .u64 0, .string ⟨#[]⟩, .string ⟨#[]⟩, .bool false], .int .i64 2] := by rw [hatV, hv]; rfl
        rw [hvv]
        clear h1 h2 hv hvv hr hrd r1 r2 r3 r4 r5 r6 r7 r8 ho hl hlt h hB
        rcases hbad with he | ⟨rfl, hs⟩ | ⟨rfl, rfl, hk⟩ | ⟨rfl, rfl, hk, hq⟩ | ⟨rfl, rfl, hk, hq, hg⟩
        · have hb0 : ((er : Int) != 0) = true := by rw [bne_iff_ne]; omega
          clear he
          generalize bs s = S at *
          generalize bs b = B at *
          generalize ((r.q : Nat) : Int) = Q1 at *
          generalize bs r.k = K1 at *
          generalize bs r.v = V1 at *
          generalize r.g = G1 at *
          generalize ((e.q : Nat) : Int) = Q at *
          generalize bs e.k = K at *
          generalize e.g = G at *
          go_enter Tryz.func62, Tryz.ntmps62
          go_wp2_with fail
          (with_reducible refine (H1.out _).mono ?_)
          rintro e w1 ⟨rfl, b1⟩
          have A1 := A0.out.call b1
          obtain ⟨c0, c1, c2, c3, c4⟩ := A1.cells
          have HA1 := Lib.hid A1
          clear A0 b1 A1
          go_wp2_with fail
          (with_reducible refine (H2.out _).mono ?_)
          rintro e w2 ⟨rfl, b2⟩
          have A2 := HA1.out.call b2
          obtain ⟨⟨d0, d1, d2, d3⟩, g0, g1, g2, g3⟩ := A2.out
          obtain ⟨k0, k1, k2, k3, k4⟩ := A2.cells
          have hz := A2.lt
          have hz' : w.heap.size < w2.heap.size := by omega
          have HA2 := Lib.hid A2.1
          clear HA1 b2 A2 c0 c1 c2 c3 c4
          go_wp2_with fail
          exact bodyPost_ret (v := .tuple #[.agg #[.int .u64 0, .string ⟨#[]⟩, .string ⟨#[]⟩, .bool false], .int .i64 2]) (by simp [results, Tryz.results62, go_sem, d0, d1, d2, d3, hz]) rfl ⟨rfl, (below_set4' HA2.out _ _ _ _).alloc (below_set4' HA2.out _ _ _ _).size _⟩
        · have hne := bs_ne hs
          have hne2 : (bs s).toList.isEmpty = false := List.isEmpty_eq_false_iff.2 hne
          clear hs
          generalize bs s = S at *
          generalize bs b = B at *
          generalize ((r.q : Nat) : Int) = Q1 at *
          generalize bs r.k = K1 at *
          generalize bs r.v = V1 at *
          generalize r.g = G1 at *
          generalize ((e.q : Nat) : Int) = Q at *
          generalize bs e.k = K at *
          generalize e.g = G at *
          go_enter Tryz.func62, Tryz.ntmps62
          go_wp2_with fail
          (with_reducible refine (H1.out _).mono ?_)
          rintro e w1 ⟨rfl, b1⟩
          have A1 := A0.out.call b1
          obtain ⟨c0, c1, c2, c3, c4⟩ := A1.cells
          have HA1 := Lib.hid A1
          clear A0 b1 A1
          go_wp2_with fail
          (with_reducible refine (H2.out _).mono ?_)
          rintro e w2 ⟨rfl, b2⟩
          have A2 := HA1.out.call b2
          obtain ⟨⟨d0, d1, d2, d3⟩, g0, g1, g2, g3⟩ := A2.out
          obtain ⟨k0, k1, k2, k3, k4⟩ := A2.cells
          have hz := A2.lt
          have hz' : w.heap.size < w2.heap.size := by omega
          have HA2 := Lib.hid A2.1
          clear HA1 b2 A2 c0 c1 c2 c3 c4
          go_wp2_with fail
          exact bodyPost_ret (v := .tuple #[.agg #[.int .u64 0, .string ⟨#[]⟩, .string ⟨#[]⟩, .bool false], .int .i64 2]) (by simp [results, Tryz.results62, go_sem, d0, d1, d2, d3, hz]) rfl ⟨rfl, (below_set4' HA2.out _ _ _ _).alloc (below_set4' HA2.out _ _ _ _).size _⟩
        · have hcmp : ((bs r.k).toList == (bs e.k).toList) = false := by rw [bs_toList, bs_toList, beq_eq_false_iff_ne]; exact hk
          clear hk
          rw [show bs ([] : List UInt8) = ⟨#[]⟩ from rfl] at H2
          generalize bs b = B at *
          generalize ((r.q : Nat) : Int) = Q1 at *
          generalize bs r.k = K1 at *
          generalize bs r.v = V1 at *
          generalize r.g = G1 at *
          generalize ((e.q : Nat) : Int) = Q at *
          generalize bs e.k = K at *
          generalize e.g = G at *
          go_enter Tryz.func62, Tryz.ntmps62
          go_wp2_with fail
          (with_reducible refine (H1.out _).mono ?_)
          rintro e w1 ⟨rfl, b1⟩
          have A1 := A0.out.call b1
          obtain ⟨c0, c1, c2, c3, c4⟩ := A1.cells
          have HA1 := Lib.hid A1
          clear A0 b1 A1
          go_wp2_with fail
          (with_reducible refine (H2.out _).mono ?_)
          rintro e w2 ⟨rfl, b2⟩
          have A2 := HA1.out.call b2
          obtain ⟨⟨d0, d1, d2, d3⟩, g0, g1, g2, g3⟩ := A2.out
          obtain ⟨k0, k1, k2, k3, k4⟩ := A2.cells
          have hz := A2.lt
          have hz' : w.heap.size < w2.heap.size := by omega
          have HA2 := Lib.hid A2.1
          clear HA1 b2 A2 c0 c1 c2 c3 c4
          go_wp2_with fail
          exact bodyPost_ret (v := .tuple #[.agg #[.int .u64 0, .string ⟨#[]⟩, .string ⟨#[]⟩, .bool false], .int .i64 2]) (by simp [results, Tryz.results62, go_sem, d0, d1, d2, d3, hz]) rfl ⟨rfl, (below_set4' HA2.out _ _ _ _).alloc (below_set4' HA2.out _ _ _ _).size _⟩
        · have hcmp : ((bs r.k).toList == (bs e.k).toList) = true := by rw [hk]; simp
          have hcm3 : ((((r.q : Nat) : Int)) == (((e.q : Nat) : Int))) = false := by rw [beq_eq_false_iff_ne]; omega
          have hcm3' : ¬ (((r.q : Nat) : Int)) = (((e.q : Nat) : Int)) := by omega
          clear hk hq
          rw [show bs ([] : List UInt8) = ⟨#[]⟩ from rfl] at H2
          generalize bs b = B at *
          generalize ((r.q : Nat) : Int) = Q1 at *
          generalize bs r.k = K1 at *
          generalize bs r.v = V1 at *
          generalize r.g = G1 at *
          generalize ((e.q : Nat) : Int) = Q at *
          generalize bs e.k = K at *
          generalize e.g = G at *
          go_enter Tryz.func62, Tryz.ntmps62
          go_wp2_with fail
          (with_reducible refine (H1.out _).mono ?_)
          rintro e w1 ⟨rfl, b1⟩
          have A1 := A0.out.call b1
          obtain ⟨c0, c1, c2, c3, c4⟩ := A1.cells
          have HA1 := Lib.hid A1
          clear A0 b1 A1
          go_wp2_with fail
          (with_reducible refine (H2.out _).mono ?_)
          rintro e w2 ⟨rfl, b2⟩
          have A2 := HA1.out.call b2
          obtain ⟨⟨d0, d1, d2, d3⟩, g0, g1, g2, g3⟩ := A2.out
          obtain ⟨k0, k1, k2, k3, k4⟩ := A2.cells
          have hz := A2.lt
          have hz' : w.heap.size < w2.heap.size := by omega
          have HA2 := Lib.hid A2.1
          clear HA1 b2 A2 c0 c1 c2 c3 c4
          go_wp2_with fail
          exact bodyPost_ret (v := .tuple #[.agg #[.int .u64 0, .string ⟨#[]⟩, .string ⟨#[]⟩, .bool false], .int .i64 2]) (by simp [results, Tryz.results62, go_sem, d0, d1, d2, d3, hz]) rfl ⟨rfl, (below_set4' HA2.out _ _ _ _).alloc (below_set4' HA2.out _ _ _ _).size _⟩
        · have hcmp : ((bs r.k).toList == (bs e.k).toList) = true := by rw [hk]; simp
          have hcm4 : (r.g == e.g) = false := by rw [beq_eq_false_iff_ne]; exact hg
          rw [← hq] at A0 H1 ⊢
          clear hk hq hg
          rw [show bs ([] : List UInt8) = ⟨#[]⟩ from rfl] at H2
          generalize bs b = B at *
          generalize ((r.q : Nat) : Int) = Q1 at *
          generalize bs r.k = K1 at *
          generalize bs r.v = V1 at *
          generalize r.g = G1 at *
          generalize bs e.k = K at *
          generalize e.g = G at *
          go_enter Tryz.func62, Tryz.ntmps62
          go_wp2_with fail
          (with_reducible refine (H1.out _).mono ?_)
          rintro e w1 ⟨rfl, b1⟩
          have A1 := A0.out.call b1
          obtain ⟨c0, c1, c2, c3, c4⟩ := A1.cells
          have HA1 := Lib.hid A1
          clear A0 b1 A1
          go_wp2_with fail
          (with_reducible refine (H2.out _).mono ?_)
          rintro e w2 ⟨rfl, b2⟩
          have A2 := HA1.out.call b2
          obtain ⟨⟨d0, d1, d2, d3⟩, g0, g1, g2, g3⟩ := A2.out
          obtain ⟨k0, k1, k2, k3, k4⟩ := A2.cells
          have hz := A2.lt
          have hz' : w.heap.size < w2.heap.size := by omega
          have HA2 := Lib.hid A2.1
          clear HA1 b2 A2 c0 c1 c2 c3 c4
          go_wp2_with fail
          exact bodyPost_ret (v := .tuple #[.agg #[.int .u64 0, .string ⟨#[]⟩, .string ⟨#[]⟩, .bool false], .int .i64 2]) (by simp [results, Tryz.results62, go_sem, d0, d1, d2, d3, hz]) rfl ⟨rfl, (below_set4' HA2.out _ _ _ _).alloc (below_set4' HA2.out _ _ _ _).size _⟩
      · rw [if_pos hok] at hv
        obtain ⟨rfl, rfl, hk, hq, hg⟩ := hok
        have hvv : hatV b e = .tuple #[.agg #[.int .u64 ((r.q : Nat) : Int), .string (bs r.k), .string (bs r.v), .bool r.g], .int .i64 0] := by rw [hatV, hv]; rfl
        rw [hvv, ← hk, ← hq, ← hg]
        rw [← hk, ← hq, ← hg] at H1 A0
        clear h1 h2 hv hvv hr hrd r1 r2 r3 r4 r5 r6 r7 r8 ho hl hlt h hB hk hq hg
        rw [show bs ([] : List UInt8) = ⟨#[]⟩ from rfl] at H2
        generalize bs b = B at *
        generalize ((r.q : Nat) : Int) = Q1 at *
        generalize bs r.k = K1 at *
        generalize bs r.v = V1 at *
        generalize r.g = G1 at *
        go_enter Tryz.func62, Tryz.ntmps62
        go_wp2_with fail
        (with_reducible refine (H1.out _).mono ?_)
        rintro e w1 ⟨rfl, b1⟩
        have A1 := A0.out.call b1
        obtain ⟨c0, c1, c2, c3, c4⟩ := A1.cells
        have HA1 := Lib.hid A1
        clear A0 b1 A1
        go_wp2_with fail
        (with_reducible refine (H2.out _).mono ?_)
        rintro e w2 ⟨rfl, b2⟩
        have A2 := HA1.out.call b2
        obtain ⟨⟨d0, d1, d2, d3⟩, g0, g1, g2, g3⟩ := A2.out
        obtain ⟨k0, k1, k2, k3, k4⟩ := A2.cells
        have hz := A2.lt
        have hz' : w.heap.size < w2.heap.size := by omega
        have HA2 := Lib.hid A2.1
        clear HA1 b2 A2 c0 c1 c2 c3 c4
        go_wp2_with fail
        exact bodyPost_ret (v := .tuple #[.agg #[.int .u64 Q1, .string K1, .string V1, .bool G1], .int .i64 0]) (by simp [results, Tryz.results62, go_sem, d0, d1, d2, d3, hz]) rfl ⟨rfl, (below_set4' HA2.out _ _ _ _).alloc (below_set4' HA2.out _ _ _ _).size _⟩

end Go.Proofs.YtmekkbhblghbmaaGreatDoor

/- An entry, and a slice of entries, that come in as arguments: how they are read. -/
namespace Go.Proofs.YtmekkbhblghbmaaGreatDoor
open Go.Joins Go.ChangeShapes Go.WideShapes Go.RowKit Go.Deep

theorem cellsEnt : Tryz.prog.cellsOf 51 = 5 := by kernel_rfl
theorem cellsInt : Tryz.prog.cellsOf 3 = 1 := by kernel_rfl

/-- An entry's datum. -/
def edat {H : Type} (e : Et) : DataW H := .agg [.lit (.string e.k), .lit (.int .i64 e.o), .lit (.int .i64 e.l), .lit (.int .u64 ((e.q : Nat) : Int)), .lit (.bool e.g)]

/-- What is known of an entry that came in. -/
def ECame (e : Et) : Prop := e.k.length ≤ maxLen ∧ (Lit.int .i64 e.o).wf = true ∧ (Lit.int .i64 e.l).wf = true ∧ e.q ≤ 18446744073709551615

theorem ECame.fit {e : Et} (h : ECame e) : EFit e := by
  obtain ⟨h1, h2, h3, h4⟩ := h
  unfold maxLen at h1
  exact ⟨by omega, bounds_i64 h2, bounds_i64 h3, h4⟩

theorem ECame.all {l : List Et} (h : ∀ e ∈ l, ECame e) : EFits l := fun e he => (h e he).fit

instance : Inhabited Et := ⟨⟨[], 0, 0, 0, false⟩⟩

section
variable {H : Type} {enc : TypeId × Value → H}

set_option maxRecDepth 100000 in
theorem ent_of_cells {W : World} {base : Nat} {spare : Nat → Bool} {held : Bool} {n : Nat} {c0 c1 c2 c3 c4 : Value} {x : DataW H × List MemPlace}
    (h : DataW.trod enc Tryz.prog W base spare held n 51 [c0, c1, c2, c3, c4] = some x) :
    ∃ e : Et, ECame e ∧ c0 = .string (bs e.k) ∧ c1 = .int .i64 e.o ∧ c2 = .int .i64 e.l ∧ c3 = .int .u64 ((e.q : Nat) : Int) ∧ c4 = .bool e.g ∧ x = (edat e, []) := by
  obtain ⟨xs, m, _, rfl, _, hlen, hf⟩ := DataW.trod_struct Tryz.underlying51 h
  obtain ⟨y0, y1, y2, y3, y4, rfl⟩ : ∃ y0 y1 y2 y3 y4, xs = [y0, y1, y2, y3, y4] := by
    match xs, hlen with
    | [y0, y1, y2, y3, y4], _ => exact ⟨y0, y1, y2, y3, y4, rfl⟩
  have h0 := hf 0 _ rfl
  have h1 := hf 1 _ rfl
  have h2 := hf 2 _ rfl
  have h3 := hf 3 _ rfl
  have h4 := hf 4 _ rfl
  simp [cellsStr, cellsInt, cellsU64, cellsBool] at h0 h1 h2 h3 h4
  obtain ⟨k, e0, rfl, z0⟩ := DataW.trod_string Tryz.underlying9 h0
  obtain ⟨o, e1, rfl, z1⟩ := DataW.trod_int Tryz.underlying3 h1
  obtain ⟨l, e2, rfl, z2⟩ := DataW.trod_int Tryz.underlying3 h2
  obtain ⟨q, e3, rfl, z3⟩ := DataW.trod_int Tryz.underlying45 h3
  obtain ⟨g, e4, rfl⟩ := DataW.trod_bool Tryz.underlying4 h4
  simp only [List.cons.injEq, and_true] at e0 e1 e2 e3 e4
  obtain ⟨q0, q1⟩ := bounds_u64 z3
  have hq : ((q.toNat : Nat) : Int) = q := by omega
  refine ⟨⟨k.data.toList, o, l, q.toNat, g⟩, ⟨by show k.data.toList.length ≤ _; rw [len_size]; exact z0, z1, z2, by show q.toNat ≤ _; omega⟩, ?_, e1, e2, ?_, e4, ?_⟩
  · rw [e0, bs_of]
  · rw [e3, hq]
  · simp only [edat, hq]
    rfl

theorem ent_reads {e : Et} (h : ECame e) (W : World) (base : Nat) (sp : Nat → Bool) (held : Bool) : DataW.Trod enc Tryz.prog W base sp held 51 (ev e) (edat e) [] := by
  obtain ⟨h1, h2, h3, h4⟩ := h
  have z := wf_u64 h4
  rw [← bs_size] at h1
  refine ⟨2, ?_⟩
  simp [DataW.trod, Value.cells, ev, edat, Tryz.underlying51, Tryz.underlying3, Tryz.underlying45, Tryz.underlying9, Tryz.underlying4, cellsEnt, cellsStr, cellsInt, cellsU64, cellsBool, z, h1, h2, h3, bs_list]

set_option maxRecDepth 100000 in
theorem open_ent {r : Reach} {b0 : Nat} {W : World} {base : Nat} {sp : Nat → Bool} {held : Bool} {v : Value} {d : DataW H} {p : List MemPlace}
    (hv : Value.okWide Tryz.prog W r b0 51 v) (h : DataW.Trod enc Tryz.prog W base sp held 51 v d p) : ∃ x : Et, ECame x ∧ v = ev x ∧ d = edat x ∧ p = [] := by
  obtain ⟨⟨cs⟩, rfl, hsz⟩ := okWide_struct Tryz.underlying51 hv
  rw [cellsEnt] at hsz
  obtain ⟨c0, c1, c2, c3, c4, rfl⟩ : ∃ c0 c1 c2 c3 c4, cs = [c0, c1, c2, c3, c4] := by
    match cs, hsz with
    | [c0, c1, c2, c3, c4], _ => exact ⟨c0, c1, c2, c3, c4, rfl⟩
  obtain ⟨fuel, hf⟩ := h
  obtain ⟨x, hx, rfl, rfl, rfl, rfl, rfl, hd⟩ := ent_of_cells (by simpa [Value.cells] using hf)
  simp only [Prod.mk.injEq] at hd
  exact ⟨x, hx, rfl, hd.1, hd.2⟩

theorem open_ents {W : World} {t : TypeId} (ht : Tryz.prog.underlying t = some (.slice 51)) {a : Option Addr} {len cap : Nat} {d : DataW H} {p : List MemPlace}
    (h : DataW.Trod enc Tryz.prog W 0 (fun _ => true) true t (.slice a len cap) d p) : ∃ l : List Et, l.length = len ∧ len ≤ maxLen ∧ EntsIn W a l ∧ ∀ e ∈ l, ECame e := by
  obtain ⟨fuel, hf⟩ := h
  rcases open_slice ht hf with ⟨hcs, _⟩ | ⟨x, l, c, m, n, D, Pl, hcs, _, hl, hm, hmm, hx, hi⟩
  · simp [Value.cells] at hcs
    obtain ⟨rfl, rfl, rfl⟩ := hcs
    exact ⟨[], rfl, by unfold maxLen; omega, EntsIn.nil _ _, fun r hr => by simp at hr⟩
  · simp [Value.cells] at hcs
    obtain ⟨rfl, rfl, rfl⟩ := hcs
    simp only [if_true] at hmm
    subst hmm
    rw [cellsEnt] at hi
    have hex : ∀ i, i < len → ∃ e : Et, ECame e ∧ W.cell? (x.add (i * 5)) = some (.string (bs e.k)) ∧ W.cell? (x.add (i * 5 + 1)) = some (.int .i64 e.o) ∧ W.cell? (x.add (i * 5 + 2)) = some (.int .i64 e.l) ∧ W.cell? (x.add (i * 5 + 3)) = some (.int .u64 ((e.q : Nat) : Int)) ∧ W.cell? (x.add (i * 5 + 4)) = some (.bool e.g) := fun i hil => by
      obtain ⟨cs, hc, hd⟩ := hi i (by omega)
      obtain ⟨_, hcl, hat⟩ := World.cells?_some hc
      obtain ⟨c0, c1, c2, c3, c4, rfl⟩ : ∃ c0 c1 c2 c3 c4, cs = [c0, c1, c2, c3, c4] := by
        match cs, hcl with
        | [c0, c1, c2, c3, c4], _ => exact ⟨c0, c1, c2, c3, c4, rfl⟩
      obtain ⟨e, he, rfl, rfl, rfl, rfl, rfl, _⟩ := ent_of_cells hd
      have e0 := hat 0 (by omega)
      have e1 := hat 1 (by omega)
      have e2 := hat 2 (by omega)
      have e3 := hat 3 (by omega)
      have e4 := hat 4 (by omega)
      rw [add_add] at e0 e1 e2 e3 e4
      exact ⟨e, he, e0, e1, e2, e3, e4⟩
    obtain ⟨f, hf2⟩ := choose_lt hex
    refine ⟨(List.range len).map f, by simp, by omega, fun h0 => ?_, fun r hr => ?_⟩
    · have hpos : 0 < len := by simpa using h0
      obtain ⟨b, off, spot⟩ := x
      have hs : spot = none := by simpa [Addr.add] using World.cell?_spot (hf2 0 hpos).2.1
      subst hs
      refine ⟨b, off, rfl, ?_, fun i hi2 => ?_⟩
      · have := World.block_lt_of_cell? _ _ (hf2 0 hpos).2.1
        simpa [Addr.add] using this
      · have hil : i < len := by simpa using hi2
        obtain ⟨_, e0, e1, e2, e3, e4⟩ := hf2 i hil
        simp only [Addr.add_lit] at e0 e1 e2 e3 e4
        simp only [List.getElem_map, List.getElem_range]
        exact ⟨e0, e1, e2, e3, e4⟩
    · obtain ⟨i, hi3, rfl⟩ := List.mem_map.1 hr
      exact (hf2 i (List.mem_range.1 hi3)).1

end
end Go.Proofs.YtmekkbhblghbmaaGreatDoor

/- The first, small test of every law of layer 5 returns true. -/
namespace Go.Proofs.YtmekkbhblghbmaaGreatDoor
open Go.RowKit

def rA : Rc := ⟨3, [107], [118], false⟩
def eA : Et := ⟨[107], 5, 5, 3, false⟩
theorem good_rA : good [rA] = true := rfl
theorem fits_rA : Fits [rA] := fun r hr => by
  simp at hr
  subst hr
  decide
theorem enc_rA : enc rA = [6, 1, 107, 1, 118] := by
  rw [enc_here rfl]
  show put 6 ++ (put 1 ++ [107]) ++ (put 1 ++ [118]) = _
  rw [put_lo (n := 6) (by omega), put_lo (n := 1) (by omega)]; rfl
theorem head_rA : head [rA] = 5 := by
  have h : encs [rA] = [6, 1, 107, 1, 118] := by rw [encs_cons, encs_nil, List.append_nil, enc_rA]
  rw [head, fbs, txt, List.length_append, seal_len, h]
  rw [show (4 + ([6, 1, 107, 1, 118] : List UInt8).length : Nat) = 9 from rfl, put_lo (n := 9) (by omega)]; rfl
theorem hof_rA : hof 0 [[rA]] = [eA] := by
  rw [hof, hof, rows, rows, List.append_nil, head_rA]
  unfold ent
  rw [enc_rA]; rfl
theorem fs_rA : fs (fbs [rA]) = ([[rA]], (fbs [rA]).length) := by
  have := fs_cat [[rA]] [] (fun l hl => by simp at hl; subst hl; exact good_rA) ft_nil (by omega)
  rwa [List.append_nil, cat_cons, cat_nil, List.append_nil] at this
theorem eright_eA : eright eA = true := by rw [eright_iff]; simp [eA]
theorem efit_eA : EFit eA := by simp [EFit, eA]
theorem efits_eA : EFits [eA] := fun e he => by rw [List.mem_singleton] at he; subst he; exact efit_eA
theorem hat_eA : hat (fbs [rA]) eA = (rA, 0) := by
  have h : ∀ l ∈ [[rA]], good l = true := fun l hl => by simp at hl; subst hl; exact good_rA
  have hl := fbs_len good_rA
  have := hat_hof [[rA]] (fbs [rA]) [] 0 h (by rw [cat_cons, cat_nil, List.append_nil]; omega) (by simp [cat])
  rw [hof_rA] at this
  simpa using this

theorem recs_rA (W : World) : Recs (W.alloc (.cells #[.int .u64 3, .string ⟨#[107]⟩, .string ⟨#[118]⟩, .bool false] 47)) (some ⟨W.heap.size, 0, none⟩) [rA] := by
  intro _
  refine ⟨W.heap.size, 0, rfl, by simp, fun i hi => ?_⟩
  obtain rfl : i = 0 := by simp at hi; omega
  simp only [World.cell?_alloc_mark]
  exact ⟨rfl, rfl, rfl, rfl⟩

theorem ents_eA {w : World} {a : Option Addr} (h : EntsIn w a [eA]) : ∃ b off, a = some ⟨b, off, none⟩ ∧ b < w.heap.size ∧
    w.cell? ⟨b, off, none⟩ = some (.string ⟨#[107]⟩) ∧ w.cell? ⟨b, off + 1, none⟩ = some (.int .i64 5) ∧
    w.cell? ⟨b, off + 2, none⟩ = some (.int .i64 5) ∧ w.cell? ⟨b, off + 3, none⟩ = some (.int .u64 3) ∧ w.cell? ⟨b, off + 4, none⟩ = some (.bool false) := by
  obtain ⟨b, off, ha, hb, c0, c1, c2, c3, c4⟩ := ents_of_mem h 0 (by simp)
  simp only [Nat.zero_mul, Nat.add_zero] at c0 c1 c2 c3 c4
  exact ⟨b, off, ha, hb, c0, c1, c2, c3, c4⟩

end Go.Proofs.YtmekkbhblghbmaaGreatDoor
