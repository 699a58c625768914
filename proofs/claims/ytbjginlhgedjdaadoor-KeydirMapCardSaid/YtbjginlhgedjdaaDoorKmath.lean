/- Plain facts on tables in which keys are searched from their home on, place by place. Nothing of the program is used here. -/
import Derived.ProofKit
namespace Go.Proofs.YtbjginlhgedjdaaDoor.K
set_option linter.unusedVariables false
set_option linter.unusedSectionVars false

section
variable {K V : Type}
/-- Places, each with a key and what is told of it, or empty. -/
abbrev Ring (K V : Type) := List (Option (K × V))

/-- How far b stands behind a, in a ring of c places. -/
def dist (c a b : Nat) : Nat := if a ≤ b then b - a else b + c - a
/-- The next place. -/
def nx (c i : Nat) : Nat := (i + 1) % c
theorem nx_eq {c i : Nat} (h : i < c) : nx c i = if i + 1 = c then 0 else i + 1 := by
  unfold nx
  split
  · rename_i e; rw [e, Nat.mod_self]
  · exact Nat.mod_eq_of_lt (by omega)
theorem nx_lt {c i : Nat} (h : i < c) : nx c i < c := Nat.mod_lt _ (by omega)
theorem dist_lt {c a b : Nat} (ha : a < c) (hb : b < c) : dist c a b < c := by unfold dist; split <;> omega
theorem dist_self (c a : Nat) : dist c a a = 0 := by simp [dist]
theorem dist_inj {c a b b' : Nat} (ha : a < c) (hb : b < c) (hb' : b' < c) (h : dist c a b = dist c a b') : b = b' := by unfold dist at h; split at h <;> split at h <;> omega
theorem dist_nx {c a b : Nat} (ha : a < c) (hb : b < c) (h : dist c a b + 1 < c) : dist c a (nx c b) = dist c a b + 1 := by
  rw [nx_eq hb]
  unfold dist at *
  split at h <;> split <;> split <;> omega
/-- The place that stands n behind a. -/
theorem dist_at {c a n : Nat} (ha : a < c) (hn : n < c) : ∃ b, b < c ∧ dist c a b = n ∧ b = (a + n) % c := by
  by_cases h : a + n < c
  · exact ⟨a + n, h, by unfold dist; split <;> omega, (Nat.mod_eq_of_lt h).symm⟩
  · exact ⟨a + n - c, by omega, by unfold dist; split <;> omega, by rw [show a + n = (a + n - c) + c by omega, Nat.add_mod_right, Nat.mod_eq_of_lt (by omega), Nat.add_sub_cancel]⟩
theorem mod_dist {c a b : Nat} (ha : a < c) (hb : b < c) : (b + c - a) % c = dist c a b := by
  unfold dist
  split
  · rw [show b + c - a = (b - a) + c by omega, Nat.add_mod_right]; exact Nat.mod_eq_of_lt (by omega)
  · exact Nat.mod_eq_of_lt (by omega)

/-- Who goes from x past i to p, and p stands farther behind i than e does, goes past e, too. -/
theorem arc1 {c x i p e : Nat} (hx : x < c) (hi : i < c) (hp : p < c) (he : e < c) (h : dist c x i < dist c x p) (hm : dist c (nx c i) e < dist c (nx c i) p) (hpi : p ≠ i) : dist c x e < dist c x p := by
  rw [nx_eq hi] at hm
  unfold dist at *
  (repeat' split at *) <;> omega

/-- .. and who stands at j, n behind i, is inserted again no farther than there. -/
theorem arc2 {c a x f j e : Nat} (ha : a < c) (hx : x < c) (hf : f < c) (hj : j < c) (he : e < c) (h : dist c x f ≤ dist c x j) (h1 : dist c a j < dist c a f) (h2 : dist c a f ≤ dist c a e) : dist c x e < dist c x j := by
  unfold dist at *
  (repeat' split at *) <;> omega
theorem arc3 {c a x p j e : Nat} (ha : a < c) (hx : x < c) (hp : p < c) (hj : j < c) (he : e < c) (h : dist c x j < dist c x p) (h1 : dist c a j < dist c a e) (h2 : dist c a p < dist c a j ∨ dist c a e < dist c a p) : dist c x e < dist c x p := by
  unfold dist at *
  (repeat' split at *) <;> omega

def Empty (S : Ring K V) (i : Nat) : Prop := S[i]? = some none
def Has (S : Ring K V) (i : Nat) (k : K) (v : V) : Prop := S[i]? = some (some (k, v))
theorem has_lt {S : Ring K V} {i : Nat} {k : K} {v : V} (h : Has S i k v) : i < S.length := (List.getElem?_eq_some_iff.1 h).1
theorem empty_lt {S : Ring K V} {i : Nat} (h : Empty S i) : i < S.length := (List.getElem?_eq_some_iff.1 h).1
theorem not_empty {S : Ring K V} {i : Nat} (h : i < S.length) (he : ¬ Empty S i) : ∃ k v, Has S i k v := by
  unfold Empty at he
  unfold Has
  rw [List.getElem?_eq_getElem h] at he ⊢
  rcases hx : S[i] with _ | ⟨k, v⟩
  · rw [hx] at he; exact absurd rfl he
  · exact ⟨k, v, rfl⟩
theorem has_not {S : Ring K V} {i : Nat} {k : K} {v : V} (h : Has S i k v) : ¬ Empty S i := by
  unfold Has at h; unfold Empty; rw [h]; simp
theorem has_one {S : Ring K V} {i : Nat} {k k' : K} {v v' : V} (h : Has S i k v) (h' : Has S i k' v') : k = k' ∧ v = v' := by
  unfold Has at h h'; rw [h] at h'; simp at h'; exact h'
theorem has_set {S : Ring K V} {i j : Nat} {k k' : K} {v v' : V} (hi : i < S.length) : Has (S.set i (some (k, v))) j k' v' ↔ (j = i ∧ k' = k ∧ v' = v) ∨ (j ≠ i ∧ Has S j k' v') := by
  unfold Has
  rw [List.getElem?_set]
  by_cases e : i = j
  · subst e; simp [hi, eq_comm]
  · rw [if_neg e]; simp [Ne.symm e]
theorem has_none {S : Ring K V} {i j : Nat} {k' : K} {v' : V} : Has (S.set i none) j k' v' ↔ (j ≠ i ∧ Has S j k' v') := by
  unfold Has
  rw [List.getElem?_set]
  by_cases e : i = j
  · subst e
    by_cases hi : i < S.length <;> simp [hi]
  · rw [if_neg e]; simp [Ne.symm e]
theorem empty_set {S : Ring K V} {i j : Nat} {s : K × V} : Empty (S.set i (some s)) j ↔ (j ≠ i ∧ Empty S j) := by
  unfold Empty
  rw [List.getElem?_set]
  by_cases e : i = j
  · subst e
    by_cases hi : i < S.length <;> simp [hi]
  · rw [if_neg e]; simp [Ne.symm e]
theorem empty_none {S : Ring K V} {i j : Nat} (hi : i < S.length) : Empty (S.set i none) j ↔ (j = i ∨ Empty S j) := by
  unfold Empty
  rw [List.getElem?_set]
  by_cases e : i = j
  · subst e; simp [hi]
  · rw [if_neg e]; simp [Ne.symm e]

/-- f is the first empty place from i on. -/
def First (S : Ring K V) (i f : Nat) : Prop := Empty S f ∧ ∀ q, q < S.length → dist S.length i q < dist S.length i f → ¬ Empty S q
theorem first_one {S : Ring K V} {i f f' : Nat} (hi : i < S.length) (h : First S i f) (h' : First S i f') : f = f' := by
  have l := empty_lt h.1; have l' := empty_lt h'.1
  rcases Nat.lt_trichotomy (dist S.length i f) (dist S.length i f') with e | e | e
  · exact absurd h.1 (h'.2 f l e)
  · exact dist_inj hi l l' e
  · exact absurd h'.1 (h.2 f' l' e)
theorem least {p : Nat → Prop} [DecidablePred p] : ∀ n, p n → ∃ m, m ≤ n ∧ p m ∧ ∀ k, k < m → ¬ p k := by
  intro n
  induction n using Nat.strongRecOn with
  | _ n ih =>
    intro hp
    by_cases h : ∃ k, k < n ∧ p k
    · obtain ⟨k, hk, hpk⟩ := h
      obtain ⟨m, hm, h1, h2⟩ := ih k hk hpk
      exact ⟨m, by omega, h1, h2⟩
    · exact ⟨n, Nat.le_refl _, hp, fun k hk hpk => h ⟨k, hk, hpk⟩⟩
theorem first_is {S : Ring K V} {i e : Nat} (hi : i < S.length) (he : Empty S e) : ∃ f, First S i f := by
  classical
  obtain ⟨m, hm, ⟨f, hf, hd⟩, hno⟩ := least (p := fun n => ∃ q, Empty S q ∧ dist S.length i q = n) _ ⟨e, he, rfl⟩
  exact ⟨f, hf, fun q hq hlt hqe => hno _ (by rw [← hd]; exact hlt) ⟨q, hqe, rfl⟩⟩
open Classical in
/-- The first empty place from i on. -/
noncomputable def ff (S : Ring K V) (i : Nat) : Nat := if h : ∃ f, First S i f then h.choose else i
theorem ff_first {S : Ring K V} {i e : Nat} (hi : i < S.length) (he : Empty S e) : First S i (ff S i) := by
  have h := first_is hi he
  unfold ff
  rw [dif_pos h]
  exact h.choose_spec
theorem ff_eq {S : Ring K V} {i f : Nat} (hi : i < S.length) (h : First S i f) : ff S i = f := first_one hi (ff_first hi h.1) h

/-- How many places have a key. -/
def cnt (S : Ring K V) : Nat := S.countP (·.isSome)
theorem empty_is {S : Ring K V} (h : cnt S < S.length) : ∃ e, Empty S e := by
  by_cases hc : ∃ e, Empty S e
  · exact hc
  · exfalso
    have : S.countP (·.isSome) = S.length := by
      rw [List.countP_eq_length]
      intro o ho
      obtain ⟨i, hi, rfl⟩ := List.mem_iff_getElem.1 ho
      obtain ⟨k, v, hkv⟩ := not_empty hi (fun he => hc ⟨i, he⟩)
      unfold Has at hkv
      rw [List.getElem?_eq_getElem hi] at hkv
      rw [Option.some.inj hkv]; rfl
    unfold cnt at h; omega
theorem cnt_le (S : Ring K V) : cnt S ≤ S.length := List.countP_le_length
theorem cnt_set {S : Ring K V} {i : Nat} (h : Empty S i) (s : K × V) : cnt (S.set i (some s)) = cnt S + 1 := by
  have hi := empty_lt h
  unfold Empty at h
  rw [List.getElem?_eq_getElem hi] at h
  have h0 := Option.some.inj h
  unfold cnt
  rw [List.countP_set hi, h0]
  simp
theorem cnt_none {S : Ring K V} {i : Nat} {k : K} {v : V} (h : Has S i k v) : cnt (S.set i none) + 1 = cnt S := by
  have hi := has_lt h
  unfold Has at h
  rw [List.getElem?_eq_getElem hi] at h
  have h0 := Option.some.inj h
  have hp : 0 < S.countP (·.isSome) := List.countP_pos_iff.2 ⟨S[i], List.getElem_mem hi, by rw [h0]; rfl⟩
  unfold cnt
  rw [List.countP_set hi, h0]
  simp
  omega
theorem cnt_same {S : Ring K V} {i : Nat} {k : K} {v : V} (h : Has S i k v) (s : K × V) : cnt (S.set i (some s)) = cnt S := by
  have hi := has_lt h
  unfold Has at h
  rw [List.getElem?_eq_getElem hi] at h
  have h0 := Option.some.inj h
  have hp : 0 < S.countP (·.isSome) := List.countP_pos_iff.2 ⟨S[i], List.getElem_mem hi, by rw [h0]; rfl⟩
  unfold cnt
  rw [List.countP_set hi, h0]
  simp
  omega

variable (home : K → Nat → Nat)
/-- A key is inserted at the first empty place from its home on. -/
noncomputable def lay (S : Ring K V) (s : K × V) : Ring K V := S.set (ff S (home s.1 S.length)) (some s)
theorem lay_len (S : Ring K V) (s : K × V) : (lay home S s).length = S.length := by simp [lay]

/-- Each key stands in one place, and from its home up to it no place is empty. -/
structure Inv (S : Ring K V) : Prop where
  one : ∀ i j k v v', Has S i k v → Has S j k v' → i = j
  path : ∀ i k v, Has S i k v → ∀ q, q < S.length → dist S.length (home k S.length) q < dist S.length (home k S.length) i → ¬ Empty S q
def HomeLt : Prop := ∀ k c, 0 < c → home k c < c

variable {home}
theorem lay_inv {S : Ring K V} {s : K × V} {e : Nat} (hH : home s.1 S.length < S.length) (h : Inv home S) (hn : ∀ i v, ¬ Has S i s.1 v) (he : Empty S e) : Inv home (lay home S s) := by
  obtain ⟨k, v⟩ := s
  have hf := ff_first hH he
  have hfl := empty_lt hf.1
  unfold lay
  generalize hF : ff S (home k S.length) = f at *
  refine ⟨fun i j k' v1 v2 h1 h2 => ?_, fun i k' v' h1 q hq hd => ?_⟩
  · rw [has_set hfl] at h1 h2
    rcases h1 with ⟨rfl, rfl, rfl⟩ | ⟨n1, h1⟩
    · rcases h2 with ⟨rfl, _, _⟩ | ⟨n2, h2⟩
      · rfl
      · exact absurd h2 (hn _ _)
    · rcases h2 with ⟨rfl, rfl, rfl⟩ | ⟨n2, h2⟩
      · exact absurd h1 (hn _ _)
      · exact h.one _ _ _ _ _ h1 h2
  · rw [List.length_set] at hq hd
    rw [empty_set]
    rintro ⟨hne, hqe⟩
    rw [has_set hfl] at h1
    rcases h1 with ⟨rfl, rfl, rfl⟩ | ⟨n1, h1⟩
    · exact hf.2 q hq hd hqe
    · exact h.path _ _ _ h1 q hq hd hqe
theorem lay_has {S : Ring K V} {s : K × V} {e : Nat} (hH : home s.1 S.length < S.length) (he : Empty S e) (k : K) (v : V) : (∃ i, Has (lay home S s) i k v) ↔ ((k = s.1 ∧ v = s.2) ∨ ∃ i, Has S i k v) := by
  have hf := ff_first hH he
  have hfl := empty_lt hf.1
  obtain ⟨k0, v0⟩ := s
  unfold lay
  constructor
  · rintro ⟨i, hi⟩
    rw [has_set hfl] at hi
    rcases hi with ⟨_, rfl, rfl⟩ | ⟨_, hi⟩
    · exact Or.inl ⟨rfl, rfl⟩
    · exact Or.inr ⟨i, hi⟩
  · rintro (⟨rfl, rfl⟩ | ⟨i, hi⟩)
    · exact ⟨_, (has_set hfl).2 (Or.inl ⟨rfl, rfl, rfl⟩)⟩
    · refine ⟨i, (has_set hfl).2 (Or.inr ⟨fun e2 => ?_, hi⟩)⟩
      subst e2
      exact has_not hi hf.1
theorem lay_cnt {S : Ring K V} {s : K × V} {e : Nat} (hH : home s.1 S.length < S.length) (he : Empty S e) : cnt (lay home S s) = cnt S + 1 :=
  cnt_set (ff_first hH he).1 s
/-- What is told of a key is changed in its place. -/
theorem set_inv {S : Ring K V} {i : Nat} {k : K} {v v' : V} (h : Inv home S) (hi : Has S i k v) : Inv home (S.set i (some (k, v'))) := by
  have hl := has_lt hi
  refine ⟨fun a b k' v1 v2 h1 h2 => ?_, fun a k' v1 h1 q hq hd => ?_⟩
  · rw [has_set hl] at h1 h2
    rcases h1 with ⟨rfl, rfl, rfl⟩ | ⟨n1, h1⟩
    · rcases h2 with ⟨rfl, _, _⟩ | ⟨n2, h2⟩
      · rfl
      · exact h.one _ _ _ _ _ hi h2
    · rcases h2 with ⟨rfl, rfl, rfl⟩ | ⟨n2, h2⟩
      · exact h.one _ _ _ _ _ h1 hi
      · exact h.one _ _ _ _ _ h1 h2
  · rw [List.length_set] at hq hd
    rw [empty_set]
    rintro ⟨hne, hqe⟩
    rw [has_set hl] at h1
    rcases h1 with ⟨rfl, rfl, rfl⟩ | ⟨n1, h1⟩
    · exact h.path _ _ _ hi q hq hd hqe
    · exact h.path _ _ _ h1 q hq hd hqe

/-! ### A key is deleted -/

variable (home)
/-- One that stands behind is inserted again. -/
noncomputable def stp (x : Ring K V × Nat) : Ring K V × Nat :=
  match x.1[x.2]? with
  | some (some s) => (lay home (x.1.set x.2 none) s, nx x.1.length x.2)
  | _ => x
noncomputable def stps : Nat → Ring K V × Nat → Ring K V × Nat
  | 0, x => x
  | n + 1, x => stp home (stps n x)
/-- How many stand behind place i, up to the first empty one. -/
noncomputable def run (S : Ring K V) (i : Nat) : Nat := dist S.length (nx S.length i) (ff S (nx S.length i))
noncomputable def at' (S : Ring K V) (i n : Nat) : Ring K V × Nat := stps home n (S.set i none, nx S.length i)
noncomputable def del (S : Ring K V) (i : Nat) : Ring K V := (at' home S i (run S i)).1

variable {home}
/-- What holds when n of them have been inserted again. -/
structure Mid (home : K → Nat → Nat) (S : Ring K V) (i : Nat) (k : K) (n : Nat) (T : Ring K V) (j : Nat) : Prop where
  len : T.length = S.length
  jlt : j < S.length
  jat : dist S.length (nx S.length i) j = n
  rest : ∀ p, p < S.length → n ≤ dist S.length (nx S.length i) p → dist S.length (nx S.length i) p ≤ run S i → T[p]? = S[p]?
  one : ∀ a b k v v', Has T a k v → Has T b k v' → a = b
  path : ∀ p k v, Has T p k v → ¬ (n ≤ dist S.length (nx S.length i) p ∧ dist S.length (nx S.length i) p < run S i) → ∀ q, q < S.length → dist S.length (home k S.length) q < dist S.length (home k S.length) p → ¬ Empty T q
  keys : ∀ k' v, (∃ p, Has T p k' v) ↔ ((∃ p, Has S p k' v) ∧ k' ≠ k)
  count : cnt T + 1 = cnt S

section
variable {S : Ring K V} {i : Nat} {k : K} {v : V} (hH : HomeLt home) (h : Inv home S) (hi : Has S i k v) (hc : cnt S < S.length)
include hH h hi hc
theorem run_facts : ∃ e, First S (nx S.length i) e ∧ dist S.length (nx S.length i) e = run S i ∧ e < S.length ∧ run S i + 1 < S.length ∧ dist S.length (nx S.length i) i + 1 = S.length := by
  obtain ⟨e0, he0⟩ := empty_is hc
  have hil := has_lt hi
  have hnl := nx_lt hil
  have hf := ff_first hnl he0
  have hfl := empty_lt hf.1
  have hne : ff S (nx S.length i) ≠ i := fun e => has_not hi (by rw [← e]; exact hf.1)
  have hdi : dist S.length (nx S.length i) i + 1 = S.length := by
    rw [nx_eq hil]; unfold dist; split <;> split <;> omega
  refine ⟨_, hf, rfl, hfl, ?_, hdi⟩
  unfold run
  have h1 := dist_lt hnl hfl
  rcases Nat.lt_or_ge (dist S.length (nx S.length i) (ff S (nx S.length i)) + 1) S.length with g | g
  · exact g
  · exact absurd (dist_inj hnl hfl hil (by omega)) hne
theorem mid_zero : Mid home S i k 0 (S.set i none) (nx S.length i) := by
  obtain ⟨e, he, hem, hel, hm, hdi⟩ := run_facts hH h hi hc
  have hil := has_lt hi
  have hnl := nx_lt hil
  have hne := nx_eq hil
  refine ⟨by simp, hnl, dist_self _ _, fun p hp h0 h1 => ?_, fun a b k1 v1 v2 h1 h2 => ?_, fun p k1 v1 h1 hn q hq hd hqe => ?_, fun k1 v1 => ?_, cnt_none hi⟩
  · rw [List.getElem?_set_ne]
    intro e2; subst e2; omega
  · exact h.one _ _ _ _ _ (has_none.1 h1).2 (has_none.1 h2).2
  · obtain ⟨hpi, hs⟩ := has_none.1 h1
    have hpl := has_lt hs
    have hpe : p ≠ e := fun e2 => has_not hs (by rw [e2]; exact he.1)
    have hpm : dist S.length (nx S.length i) p ≠ run S i := fun e2 => hpe (dist_inj hnl hpl hel (by omega))
    rcases (empty_none hil).1 hqe with e3 | hqe
    · have hk := h.path _ _ _ hs e hel
      have hkl := hH k1 S.length (by omega)
      refine hk ?_ he.1
      subst e3
      exact arc1 hkl hil hpl hel hd (by omega) hpi
    · exact h.path _ _ _ hs q hq hd hqe
  · constructor
    · rintro ⟨p, hp⟩
      obtain ⟨hpi, hp⟩ := has_none.1 hp
      exact ⟨⟨p, hp⟩, fun e2 => hpi (h.one _ _ _ _ _ hp (by rw [e2]; exact hi))⟩
    · rintro ⟨⟨p, hp⟩, hne2⟩
      exact ⟨p, has_none.2 ⟨fun e2 => hne2 (by subst e2; exact (has_one hp hi).1), hp⟩⟩
theorem mid_occ {n : Nat} {T : Ring K V} {j : Nat} (M : Mid home S i k n T j) (hn : n < run S i) : ∃ k1 v1, Has T j k1 v1 ∧ Has S j k1 v1 := by
  obtain ⟨e, he, hem, hel, hm, hdi⟩ := run_facts hH h hi hc
  have hj := M.jlt
  obtain ⟨k1, v1, hk⟩ := not_empty hj (he.2 j hj (by rw [M.jat]; omega))
  exact ⟨k1, v1, by unfold Has; rw [M.rest j hj (by rw [M.jat]; omega) (by rw [M.jat]; omega)]; exact hk, hk⟩
theorem mid_end {T : Ring K V} {j : Nat} (M : Mid home S i k (run S i) T j) : Empty T j := by
  obtain ⟨e, he, hem, hel, hm, hdi⟩ := run_facts hH h hi hc
  have hj := M.jlt
  have hje : j = e := dist_inj (nx_lt (has_lt hi)) hj hel (by rw [M.jat, hem])
  unfold Empty
  rw [M.rest j hj (by rw [M.jat]; omega) (by rw [M.jat]; omega), hje]
  exact he.1
theorem mid_step {n : Nat} {T : Ring K V} {j : Nat} (M : Mid home S i k n T j) (hn : n < run S i) {k1 : K} {v1 : V} (hj1 : Has T j k1 v1) (hs1 : Has S j k1 v1) : Mid home S i k (n + 1) (lay home (T.set j none) (k1, v1)) (nx S.length j) := by
  obtain ⟨e, he, hem, hel, hm, hdi⟩ := run_facts hH h hi hc
  have hil := has_lt hi
  have hnl := nx_lt hil
  have hj := M.jlt
  have hjT : j < T.length := by rw [M.len]; exact hj
  have hat := M.jat
  have hx := hH k1 S.length (by omega)
  have hH' : home k1 (T.set j none).length < (T.set j none).length := by rw [List.length_set, M.len]; exact hx
  have hej : Empty (T.set j none) j := (empty_none hjT).2 (Or.inl rfl)
  have hff := ff_first hH' hej
  have hfl := empty_lt hff.1
  have hlen : (T.set j none).length = S.length := by rw [List.length_set, M.len]
  have heT : Empty T e := by unfold Empty; rw [M.rest e hel (by omega) (by omega)]; exact he.1
  have hje : j ≠ e := fun e2 => has_not hj1 (by rw [e2]; exact heT)
  -- no farther than j
  have hd0 : dist S.length (home k1 S.length) (ff (T.set j none) (home k1 (T.set j none).length)) ≤ dist S.length (home k1 S.length) j := by
    rcases Nat.lt_or_ge (dist S.length (home k1 S.length) j) (dist S.length (home k1 S.length) (ff (T.set j none) (home k1 (T.set j none).length))) with g | g
    · exact absurd hej (hff.2 j (by rw [hlen]; exact hj) (by rw [hlen] at g ⊢; exact g))
    · exact g
  have hnotin : ¬ (n < dist S.length (nx S.length i) (ff (T.set j none) (home k1 (T.set j none).length)) ∧ dist S.length (nx S.length i) (ff (T.set j none) (home k1 (T.set j none).length)) ≤ run S i) := by
    rintro ⟨g1, g2⟩
    have := arc2 hnl hx (by rw [← hlen]; exact hfl) hj hel hd0 (by rw [hat]; exact g1) (by rw [hem]; exact g2)
    exact h.path _ _ _ hs1 e hel this he.1
  unfold lay
  simp only
  obtain ⟨f, hF⟩ : ∃ f, f = ff (T.set j none) (home k1 (T.set j none).length) := ⟨_, rfl⟩
  rw [← hF] at hd0 hnotin hff hfl ⊢
  have hfS : f < S.length := by rw [← hlen]; exact hfl
  have hasL : ∀ p k' v', Has ((T.set j none).set f (some (k1, v1))) p k' v' ↔ (p = f ∧ k' = k1 ∧ v' = v1) ∨ (p ≠ f ∧ p ≠ j ∧ Has T p k' v') := fun p k' v' => by
    rw [has_set hfl, has_none]
  have empL : ∀ p, Empty ((T.set j none).set f (some (k1, v1))) p ↔ p ≠ f ∧ (p = j ∨ Empty T p) := fun p => by
    rw [empty_set, empty_none hjT]
  have fnj : f ≠ j → ∀ k' v', ¬ Has T f k' v' := fun hne k' v' hh => by
    rcases (empty_none hjT).1 hff.1 with g | g
    · exact hne g
    · exact has_not hh g
  refine ⟨by simp [M.len], nx_lt hj, ?_, fun p hp h0 h1 => ?_, fun a b k' v2 v3 h1 h2 => ?_, fun p k' v' h1 hnn q hq hd hqe => ?_, fun k' v' => ?_, ?_⟩
  · rw [dist_nx hnl hj (by omega), hat]
  · rw [List.getElem?_set_ne (fun e2 => hnotin (by rw [e2]; exact ⟨by omega, h1⟩)), List.getElem?_set_ne (fun e2 => by subst e2; omega)]
    exact M.rest p hp (by omega) h1
  · rw [hasL] at h1 h2
    rcases h1 with ⟨rfl, rfl, rfl⟩ | ⟨n1, m1, h1⟩
    · rcases h2 with ⟨rfl, _, _⟩ | ⟨n2, m2, h2⟩
      · rfl
      · exact absurd (M.one _ _ _ _ _ h2 hj1) m2
    · rcases h2 with ⟨rfl, rfl, rfl⟩ | ⟨n2, m2, h2⟩
      · exact absurd (M.one _ _ _ _ _ h1 hj1) m1
      · exact M.one _ _ _ _ _ h1 h2
  · rw [hasL] at h1
    rw [empL] at hqe
    rcases h1 with ⟨rfl, rfl, rfl⟩ | ⟨n1, m1, h1⟩
    · refine hff.2 q (by rw [hlen]; exact hq) (by rw [hlen]; exact hd) ((empty_none hjT).2 hqe.2)
    · have hpl : p < S.length := by have := has_lt h1; rw [M.len] at this; exact this
      have hpn : dist S.length (nx S.length i) p ≠ n := fun e2 => m1 (dist_inj hnl hpl hj (by rw [e2, hat]))
      have hpath := M.path p k' v' h1 (by omega)
      rcases hqe.2 with e3 | hqT
      · subst e3
        have hpe : p ≠ e := fun e2 => has_not h1 (by rw [e2]; exact heT)
        have hpm : dist S.length (nx S.length i) p ≠ run S i := fun e2 => hpe (dist_inj hnl hpl hel (by rw [e2, hem]))
        exact hpath e hel (arc3 hnl (hH k' S.length (by omega)) hpl hj hel hd (by omega) (by omega)) heT
      · exact hpath q hq hd hqT
  · rw [← M.keys k' v']
    constructor
    · rintro ⟨p, hp⟩
      rw [hasL] at hp
      rcases hp with ⟨_, rfl, rfl⟩ | ⟨_, _, hp⟩
      · exact ⟨j, hj1⟩
      · exact ⟨p, hp⟩
    · rintro ⟨p, hp⟩
      by_cases hpj : p = j
      · subst hpj
        obtain ⟨rfl, rfl⟩ := has_one hp hj1
        exact ⟨f, (hasL _ _ _).2 (Or.inl ⟨rfl, rfl, rfl⟩)⟩
      · refine ⟨p, (hasL _ _ _).2 (Or.inr ⟨fun e2 => ?_, hpj, hp⟩)⟩
        rw [e2] at hp
        exact fnj (fun e3 => hpj (by rw [e2, e3])) _ _ hp
  · have c1 := cnt_none hj1
    have c2 := cnt_set hff.1 (k1, v1)
    have c3 := M.count
    omega

theorem at_mid : ∀ n, n ≤ run S i → Mid home S i k n (at' home S i n).1 (at' home S i n).2 := by
  intro n
  induction n with
  | zero => exact fun _ => mid_zero hH h hi hc
  | succ n ih =>
    intro hn
    have M := ih (by omega)
    obtain ⟨k1, v1, h1, h2⟩ := mid_occ hH h hi hc M (by omega)
    have hs := mid_step hH h hi hc M (by omega) h1 h2
    have e : at' home S i (n + 1) = (lay home ((at' home S i n).1.set (at' home S i n).2 none) (k1, v1), nx S.length (at' home S i n).2) := by
      show stp home (at' home S i n) = _
      unfold stp
      unfold Has at h1
      rw [h1]
      simp only [M.len]
    rw [e]
    exact hs
theorem del_inv : Inv home (del home S i) ∧ (del home S i).length = S.length ∧ cnt (del home S i) + 1 = cnt S ∧ ∀ k' v, (∃ p, Has (del home S i) p k' v) ↔ ((∃ p, Has S p k' v) ∧ k' ≠ k) := by
  have M := at_mid hH h hi hc (run S i) (Nat.le_refl _)
  refine ⟨⟨M.one, fun p k' v' hp q hq hd => ?_⟩, M.len, M.count, M.keys⟩
  have hl := M.len
  unfold del at hq hd ⊢
  rw [hl] at hq hd
  exact M.path p k' v' hp (by omega) q hq hd
end
end
end Go.Proofs.YtbjginlhgedjdaaDoor.K
