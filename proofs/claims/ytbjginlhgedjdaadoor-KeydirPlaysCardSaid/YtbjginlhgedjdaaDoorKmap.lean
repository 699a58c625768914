/- Plain facts on what such a table tells: its keys by rising names, one put in, one deleted, all inserted again in one of twice the size. Nothing of the program is used here. -/
import Derived.Test.YtbjginlhgedjdaaDoorKmath
import Derived.Test.YtbjginlhgedjdaaDoorBord
namespace Go.Proofs.YtbjginlhgedjdaaDoor.K
set_option linter.unusedVariables false

section
variable {V : Type} {home : List UInt8 → Nat → Nat}

/-- Two rows by rising names with the same members are one. -/
theorem up_ext {α : Type} {k : α → List UInt8} : ∀ {l m : List α}, Up k l → Up k m → (∀ x, x ∈ l ↔ x ∈ m) → l = m
  | [], [], _, _, _ => rfl
  | [], y :: m, _, _, h => by have := (h y).2 (List.mem_cons_self ..); simp at this
  | x :: l, [], _, _, h => by have := (h x).1 (List.mem_cons_self ..); simp at this
  | x :: l, y :: m, hl, hm, h => by
    have hxy : x = y := by
      rcases List.mem_cons.1 ((h x).1 (List.mem_cons_self ..)) with e | e
      · exact e
      · rcases List.mem_cons.1 ((h y).2 (List.mem_cons_self ..)) with e2 | e2
        · exact e2.symm
        · have a := up_head hm e; have b := up_head hl e2
          rw [lt_asymm a] at b; cases b
    subst hxy
    refine congrArg (x :: ·) (up_ext (up_tail hl) (up_tail hm) fun z => ?_)
    constructor
    · intro hz
      rcases List.mem_cons.1 ((h z).1 (List.mem_cons_of_mem _ hz)) with e | e
      · subst e; have := up_head hl hz; rw [lt_irrefl] at this; cases this
      · exact e
    · intro hz
      rcases List.mem_cons.1 ((h z).2 (List.mem_cons_of_mem _ hz)) with e | e
      · subst e; have := up_head hm hz; rw [lt_irrefl] at this; cases this
      · exact e

abbrev Ent (V : Type) := List UInt8 × V
/-- All, by rising keys. -/
def insO (l : List (Ent V)) : Option (Ent V) → List (Ent V)
  | none => l
  | some s => ins Prod.fst l s
def sre (S : Ring (List UInt8) V) : List (Ent V) := S.foldl insO []

theorem has_cons {o : Option (Ent V)} {S : Ring (List UInt8) V} {k : List UInt8} {v : V} : (∃ i, Has (S ++ [o]) i k v) ↔ (∃ i, Has S i k v) ∨ o = some (k, v) := by
  unfold Has
  constructor
  · rintro ⟨i, hi⟩
    rw [List.getElem?_append] at hi
    split at hi
    · exact Or.inl ⟨i, hi⟩
    · rename_i h
      rcases Nat.lt_or_ge (i - S.length) 1 with g | g
      · rw [show i - S.length = 0 by omega] at hi
        exact Or.inr (by simpa using hi)
      · rw [List.getElem?_eq_none (by simp; omega)] at hi; cases hi
  · rintro (⟨i, hi⟩ | rfl)
    · exact ⟨i, by rw [List.getElem?_append_left (List.getElem?_eq_some_iff.1 hi).1]; exact hi⟩
    · exact ⟨S.length, by simp⟩

/-- Each key stands in one place alone. -/
def One (S : Ring (List UInt8) V) : Prop := ∀ i j k v v', Has S i k v → Has S j k v' → i = j
theorem one_left {S T : Ring (List UInt8) V} (h : One (S ++ T)) : One S := fun i j k v v' h1 h2 =>
  h i j k v v' (by unfold Has; rw [List.getElem?_append_left (has_lt h1)]; exact h1) (by unfold Has; rw [List.getElem?_append_left (has_lt h2)]; exact h2)

theorem sre_snoc (S : Ring (List UInt8) V) (o : Option (Ent V)) : sre (S ++ [o]) = insO (sre S) o := by simp [sre]
theorem snoc_ind {α : Type} {p : List α → Prop} (h0 : p []) (hs : ∀ l x, p l → p (l ++ [x])) (l : List α) : p l := by
  have : ∀ n (l : List α), l.length = n → p l := by
    intro n
    induction n with
    | zero => intro l hl; rw [List.length_eq_zero_iff.1 hl]; exact h0
    | succ n ih =>
      intro l hl
      have hne : l ≠ [] := fun e => by rw [e] at hl; simp at hl
      rw [← List.dropLast_concat_getLast hne]
      exact hs _ _ (ih _ (by simp [hl]))
  exact this _ l rfl
theorem sre_facts (S : Ring (List UInt8) V) : (∀ k v, (k, v) ∈ sre S ↔ ∃ i, Has S i k v) ∧ (sre S).length = cnt S ∧ (One S → Up Prod.fst (sre S)) := by
  refine snoc_ind (p := fun S => (∀ k v, (k, v) ∈ sre S ↔ ∃ i, Has S i k v) ∧ (sre S).length = cnt S ∧ (One S → Up Prod.fst (sre S))) ?_ ?_ S
  · exact ⟨fun k v => by simp [sre, Has], rfl, fun _ => List.Pairwise.nil⟩
  · rintro S o ⟨h1, h2, h3⟩
    rw [sre_snoc]
    refine ⟨fun k v => ?_, ?_, fun ho => ?_⟩
    · rw [has_cons]
      cases o with
      | none => simp [insO, h1]
      | some s =>
        show _ ∈ ins Prod.fst _ _ ↔ _
        rw [mem_ins, h1, Option.some.injEq]
        constructor
        · rintro (e | e)
          · exact Or.inr e.symm
          · exact Or.inl e
        · rintro (e | e)
          · exact Or.inr e
          · exact Or.inl e.symm
    · unfold cnt at h2 ⊢
      rw [List.countP_append, ← h2]
      cases o with
      | none => simp [insO]
      | some s => simp [insO, length_ins]
    · cases o with
      | none => exact h3 (one_left ho)
      | some s =>
        refine up_ins (h3 (one_left ho)) fun c hc e => ?_
        obtain ⟨k, v⟩ := c
        obtain ⟨k', v'⟩ := s
        obtain rfl : k = k' := e
        obtain ⟨i, hi⟩ := (h1 k v).1 hc
        have hl := has_lt hi
        have := ho i S.length k v v' (by unfold Has; rw [List.getElem?_append_left hl]; exact hi) (by simp [Has])
        omega
theorem sre_mem {S : Ring (List UInt8) V} {k : List UInt8} {v : V} : (k, v) ∈ sre S ↔ ∃ i, Has S i k v := (sre_facts S).1 k v
theorem sre_len (S : Ring (List UInt8) V) : (sre S).length = cnt S := (sre_facts S).2.1
theorem sre_up {S : Ring (List UInt8) V} (h : One S) : Up Prod.fst (sre S) := (sre_facts S).2.2 h

/-- An empty table. -/
def none' (c : Nat) : Ring (List UInt8) V := List.replicate c none
theorem not_has_none {c i : Nat} {k : List UInt8} {v : V} : ¬ Has (none' c) i k v := by
  unfold Has none'
  rw [List.getElem?_replicate]
  split <;> simp
theorem inv_none (c : Nat) : Inv home (none' c : Ring (List UInt8) V) := ⟨fun i j k v v' h => absurd h not_has_none, fun i k v h => absurd h not_has_none⟩
theorem cnt_none' (c : Nat) : cnt (none' c : Ring (List UInt8) V) = 0 := by
  unfold cnt none'
  rw [List.countP_eq_zero]
  intro o ho
  rw [(List.mem_replicate.1 ho).2]; simp

variable (home)
/-- All of them are inserted, one behind the other. -/
noncomputable def lays (S : Ring (List UInt8) V) (l : List (Ent V)) : Ring (List UInt8) V := l.foldl (lay home) S
variable {home}
theorem lays_snoc (S : Ring (List UInt8) V) (l : List (Ent V)) (s : Ent V) : lays home S (l ++ [s]) = lay home (lays home S l) s := by simp [lays]
theorem lays_facts (hH : HomeLt home) {S : Ring (List UInt8) V} (h : Inv home S) : ∀ l : List (Ent V), Up Prod.fst l → (∀ s ∈ l, ∀ i v, ¬ Has S i s.1 v) → cnt S + l.length < S.length →
    Inv home (lays home S l) ∧ (lays home S l).length = S.length ∧ cnt (lays home S l) = cnt S + l.length ∧ ∀ k v, (∃ i, Has (lays home S l) i k v) ↔ ((k, v) ∈ l ∨ ∃ i, Has S i k v) := by
  intro l
  refine snoc_ind (p := fun l => Up Prod.fst l → (∀ s ∈ l, ∀ i v, ¬ Has S i s.1 v) → cnt S + l.length < S.length → Inv home (lays home S l) ∧ (lays home S l).length = S.length ∧ cnt (lays home S l) = cnt S + l.length ∧ ∀ k v, (∃ i, Has (lays home S l) i k v) ↔ ((k, v) ∈ l ∨ ∃ i, Has S i k v)) ?_ ?_ l
  · intro _ _ _
    exact ⟨h, rfl, rfl, fun k v => by simp [lays]⟩
  · rintro l s ih hup hno hc
    rw [List.length_append, List.length_singleton] at hc
    obtain ⟨h1, h2, h3, h4⟩ := ih (List.pairwise_append.1 hup).1 (fun t ht => hno t (List.mem_append_left _ ht)) (by omega)
    rw [lays_snoc]
    obtain ⟨e, he⟩ := empty_is (S := lays home S l) (by omega)
    have hh : home s.1 (lays home S l).length < (lays home S l).length := hH _ _ (by omega)
    have hn : ∀ i v, ¬ Has (lays home S l) i s.1 v := fun i v hi => by
      rcases (h4 s.1 v).1 ⟨i, hi⟩ with g | ⟨j, g⟩
      · have := (List.pairwise_append.1 hup).2.2 _ g s (List.mem_singleton.2 rfl)
        rw [lt_irrefl] at this; cases this
      · exact hno s (List.mem_append_right _ (List.mem_singleton.2 rfl)) _ _ g
    refine ⟨lay_inv hh h1 hn he, by rw [lay_len, h2], by rw [lay_cnt hh he, h3, List.length_append, List.length_singleton]; omega, fun k v => ?_⟩
    rw [lay_has hh he, h4]
    obtain ⟨k0, v0⟩ := s
    simp only [List.mem_append, List.mem_singleton, Prod.mk.injEq]
    constructor
    · rintro (g | g | g)
      · exact Or.inl (Or.inr g)
      · exact Or.inl (Or.inl g)
      · exact Or.inr g
    · rintro ((g | g) | g)
      · exact Or.inr (Or.inl g)
      · exact Or.inl g
      · exact Or.inr (Or.inr g)

variable (home)
/-- All are inserted again, in a table of twice the size. -/
noncomputable def grow (S : Ring (List UInt8) V) : Ring (List UInt8) V := lays home (none' (2 * S.length)) (sre S)
noncomputable def room (S : Ring (List UInt8) V) : Ring (List UInt8) V := if S.length < 2 * (cnt S + 1) then grow home S else S
variable {home}
theorem grow_facts (hH : HomeLt home) {S : Ring (List UInt8) V} (h : Inv home S) (h0 : 0 < S.length) : Inv home (grow home S) ∧ (grow home S).length = 2 * S.length ∧ cnt (grow home S) = cnt S ∧ ∀ k v, (∃ i, Has (grow home S) i k v) ↔ ∃ i, Has S i k v := by
  have hl := sre_len S
  have hc := cnt_le S
  obtain ⟨h1, h2, h3, h4⟩ := lays_facts hH (inv_none (home := home) (V := V) (2 * S.length)) (sre S) (sre_up h.one) (fun _ _ _ _ => not_has_none) (by rw [cnt_none', hl]; simp [none']; omega)
  refine ⟨h1, by unfold grow; rw [h2]; simp [none'], by unfold grow; rw [h3, cnt_none', hl]; omega, fun k v => ?_⟩
  unfold grow
  rw [h4, sre_mem]
  constructor
  · rintro (g | ⟨i, g⟩)
    · exact g
    · exact absurd g not_has_none
  · exact Or.inl

/-- A directory: its places, all right. -/
structure Ok (home : List UInt8 → Nat → Nat) (S : Ring (List UInt8) V) : Prop where
  inv : Inv home S
  half : 2 * cnt S ≤ S.length
  pow : ∃ p, 3 ≤ p ∧ S.length = 2 ^ p
theorem Ok.pos {S : Ring (List UInt8) V} (h : Ok home S) : 0 < S.length := by
  obtain ⟨p, _, e⟩ := h.pow
  rw [e]; exact Nat.two_pow_pos p
theorem Ok.less {S : Ring (List UInt8) V} (h : Ok home S) : cnt S < S.length := by have := h.pos; have := h.half; omega
theorem ok_new : Ok home (none' 8 : Ring (List UInt8) V) := ⟨inv_none _, by rw [cnt_none']; omega, 3, by omega, by simp [none']⟩
theorem room_facts (hH : HomeLt home) {S : Ring (List UInt8) V} (h : Ok home S) : Inv home (room home S) ∧ cnt (room home S) = cnt S ∧ 2 * (cnt S + 1) ≤ (room home S).length ∧ (∃ p, 3 ≤ p ∧ (room home S).length = 2 ^ p) ∧ ∀ k v, (∃ i, Has (room home S) i k v) ↔ ∃ i, Has S i k v := by
  unfold room
  split
  · obtain ⟨h1, h2, h3, h4⟩ := grow_facts hH h.inv h.pos
    obtain ⟨p, hp, e⟩ := h.pow
    have := h.half; have := h.pos
    exact ⟨h1, h3, by rw [h2]; omega, ⟨p + 1, by omega, by rw [h2, e, Nat.pow_succ]; omega⟩, h4⟩
  · exact ⟨h.inv, rfl, by omega, h.pow, fun k v => Iff.rfl⟩

/-- A new key is put in. -/
theorem ok_put (hH : HomeLt home) {S : Ring (List UInt8) V} (h : Ok home S) {s : Ent V} (hn : ∀ i v, ¬ Has S i s.1 v) :
    Ok home (lay home (room home S) s) ∧ sre (lay home (room home S) s) = ins Prod.fst (sre S) s ∧ cnt (lay home (room home S) s) = cnt S + 1 := by
  obtain ⟨h1, h2, h3, ⟨p, hp, h4⟩, h5⟩ := room_facts hH h
  obtain ⟨e, he⟩ := empty_is (S := room home S) (by omega)
  have hh : home s.1 (room home S).length < (room home S).length := hH _ _ (by omega)
  have hn' : ∀ i v, ¬ Has (room home S) i s.1 v := fun i v hi => by
    obtain ⟨j, hj⟩ := (h5 s.1 v).1 ⟨i, hi⟩
    exact hn _ _ hj
  have hi := lay_inv hh h1 hn' he
  have hc := lay_cnt hh he
  refine ⟨⟨hi, by rw [hc, lay_len]; omega, p, hp, by rw [lay_len, h4]⟩, ?_, by rw [hc, h2]⟩
  refine up_ext (sre_up hi.one) (up_ins (sre_up h.inv.one) fun c hc2 e2 => ?_) fun x => ?_
  · obtain ⟨k, v⟩ := c
    obtain ⟨i, hi2⟩ := sre_mem.1 hc2
    rw [← e2] at hn
    exact hn _ _ hi2
  · obtain ⟨k, v⟩ := x
    rw [sre_mem, mem_ins, sre_mem, lay_has hh he, h5]
    obtain ⟨k0, v0⟩ := s
    simp
/-- A key that is there is told anew. -/
theorem ok_set {S : Ring (List UInt8) V} (h : Ok home S) {i : Nat} {k : List UInt8} {v v' : V} (hi : Has S i k v) :
    Ok home (S.set i (some (k, v'))) ∧ sre (S.set i (some (k, v'))) = ins Prod.fst (wo Prod.fst (sre S) k) (k, v') ∧ cnt (S.set i (some (k, v'))) = cnt S := by
  have h1 := set_inv (v' := v') h.inv hi
  have h2 := cnt_same hi (k, v')
  have hl := has_lt hi
  obtain ⟨p, hp, e⟩ := h.pow
  refine ⟨⟨h1, by rw [h2, List.length_set]; exact h.half, p, hp, by rw [List.length_set, e]⟩, ?_, h2⟩
  refine up_ext (sre_up h1.one) (up_ins (up_wo (sre_up h.inv.one) _) fun c hc => (mem_wo.1 hc).2) fun x => ?_
  obtain ⟨k2, v2⟩ := x
  rw [sre_mem, mem_ins, mem_wo, sre_mem]
  constructor
  · rintro ⟨j, hj⟩
    rw [has_set hl] at hj
    rcases hj with ⟨_, rfl, rfl⟩ | ⟨hne, hj⟩
    · exact Or.inl rfl
    · exact Or.inr ⟨⟨j, hj⟩, fun e2 => hne (h.inv.one _ _ _ _ _ hj (by rw [show k2 = k from e2]; exact hi))⟩
  · rintro (e2 | ⟨⟨j, hj⟩, hne⟩)
    · cases e2; exact ⟨i, (has_set hl).2 (Or.inl ⟨rfl, rfl, rfl⟩)⟩
    · refine ⟨j, (has_set hl).2 (Or.inr ⟨fun e2 => hne ?_, hj⟩)⟩
      subst e2
      exact (has_one hj hi).1
/-- A key is deleted. -/
theorem ok_del (hH : HomeLt home) {S : Ring (List UInt8) V} (h : Ok home S) {i : Nat} {k : List UInt8} {v : V} (hi : Has S i k v) :
    Ok home (del home S i) ∧ sre (del home S i) = wo Prod.fst (sre S) k ∧ cnt (del home S i) + 1 = cnt S := by
  obtain ⟨h1, h2, h3, h4⟩ := del_inv hH h.inv hi h.less
  obtain ⟨p, hp, e⟩ := h.pow
  have := h.half
  refine ⟨⟨h1, by rw [h2]; omega, p, hp, by rw [h2, e]⟩, ?_, h3⟩
  refine up_ext (sre_up h1.one) (up_wo (sre_up h.inv.one) _) fun x => ?_
  obtain ⟨k2, v2⟩ := x
  rw [sre_mem, mem_wo, sre_mem, h4]

/-- No key stands farther behind its home than there are others. -/
theorem occ_le {K : Type} : ∀ (n : Nat) (S : Ring K V) (f : Nat → Nat), (∀ a b, a < n → b < n → f a = f b → a = b) → (∀ a, a < n → ∃ k v, Has S (f a) k v) → n ≤ cnt S
  | 0, S, f, _, _ => Nat.zero_le _
  | n + 1, S, f, hf, ho => by
    obtain ⟨k, v, hk⟩ := ho n (by omega)
    have h1 := cnt_none hk
    have := occ_le n (S.set (f n) none) f (fun a b ha hb => hf a b (by omega) (by omega)) (fun a ha => by
      obtain ⟨k', v', hk'⟩ := ho a (by omega)
      exact ⟨k', v', has_none.2 ⟨fun e => by have := hf a n (by omega) (by omega) e; omega, hk'⟩⟩)
    omega
theorem far_lt (hH : HomeLt home) {S : Ring (List UInt8) V} (h : Inv home S) {i : Nat} {k : List UInt8} {v : V} (hi : Has S i k v) : dist S.length (home k S.length) i < cnt S := by
  have hl := has_lt hi
  have hh := hH k S.length (by omega)
  have hd := dist_lt hh hl
  refine occ_le (dist S.length (home k S.length) i + 1) S (fun t => (home k S.length + t) % S.length) (fun a b ha hb e => ?_) (fun a ha => ?_)
  · obtain ⟨x, hx, hxa, hxe⟩ := dist_at hh (show a < S.length by omega)
    obtain ⟨y, hy, hyb, hye⟩ := dist_at hh (show b < S.length by omega)
    have : x = y := by rw [hxe, hye]; exact e
    rw [← hxa, ← hyb, this]
  · obtain ⟨x, hx, hxa, hxe⟩ := dist_at hh (show a < S.length by omega)
    show ∃ k' v', Has S ((home k S.length + a) % S.length) k' v'
    rw [← hxe]
    rcases Nat.lt_or_ge a (dist S.length (home k S.length) i) with g | g
    · exact not_empty hx (h.path _ _ _ hi x hx (by omega))
    · obtain rfl : x = i := dist_inj hh hx hl (by omega)
      exact ⟨k, v, hi⟩
end
end Go.Proofs.YtbjginlhgedjdaaDoor.K
