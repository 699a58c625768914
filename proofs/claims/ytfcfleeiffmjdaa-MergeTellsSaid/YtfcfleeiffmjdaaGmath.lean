/- Plain facts on merged records: the newest of each key, those that stand, and batches. Nothing of the program is used here. -/
import Derived.Test.YtfcfleeiffmjdaaBord
import Derived.Test.YtfcfleeiffmjdaaGbase
namespace Go.Proofs.Ytfcfleeiffmjdaa.G
open Go.RowKit
set_option linter.unusedVariables false

/-- What is newest, behind one more of its key. -/
def cmb (o : Option Rc) (r : Rc) : Option Rc := match o with
  | none => some r
  | some x => if x.q ≤ r.q then some r else some x
/-- The newest of a key, behind what was newest. -/
def bfrom (n : List UInt8) : Option Rc → List Rc → Option Rc
  | o, [] => o
  | o, r :: l => bfrom n (if r.k = n then cmb o r else o) l
def best (l : List Rc) (n : List UInt8) : Option Rc := bfrom n none l
def fnd (l : List Rc) (n : List UInt8) : Option Rc := l.find? (fun r => r.k == n)
def cm (o : Option Rc) : Option Rc → Option Rc
  | none => o
  | some y => cmb o y

theorem cmb_some (o : Option Rc) (r : Rc) : ∃ x, cmb o r = some x := by
  cases o with
  | none => exact ⟨r, rfl⟩
  | some x => unfold cmb; simp only; split <;> exact ⟨_, rfl⟩
theorem cm_cmb (o : Option Rc) (r : Rc) (p : Option Rc) : cm (cmb o r) p = cm o (cm (some r) p) := by
  cases p with
  | none => rfl
  | some y =>
    cases o with
    | none =>
      simp only [cm, cmb]
      split <;> rfl
    | some x =>
      simp only [cm, cmb]
      by_cases h1 : x.q ≤ r.q <;> by_cases h2 : r.q ≤ y.q <;> by_cases h3 : x.q ≤ y.q <;> simp only [h1, h2, h3, if_true, if_false] <;> first | rfl | (exfalso; omega) | simp [h3, h1, h2]
theorem bfrom_cm (n : List UInt8) : ∀ (l : List Rc) (o : Option Rc), bfrom n o l = cm o (best l n)
  | [], o => rfl
  | r :: l, o => by
    unfold best
    simp only [bfrom]
    by_cases h : r.k = n
    · rw [if_pos h, if_pos h, bfrom_cm n l, bfrom_cm n l (cmb none r)]
      exact cm_cmb o r _
    · rw [if_neg h, if_neg h, bfrom_cm n l o]
      rfl
theorem bfrom_app (n : List UInt8) : ∀ (a b : List Rc) (o : Option Rc), bfrom n o (a ++ b) = bfrom n (bfrom n o a) b
  | [], b, o => rfl
  | r :: a, b, o => by simp only [List.cons_append, bfrom]; exact bfrom_app n a b _
theorem best_app (a b : List Rc) (n : List UInt8) : best (a ++ b) n = cm (best a n) (best b n) := by
  unfold best
  rw [bfrom_app, bfrom_cm]
  rfl
theorem best_snoc (a : List Rc) (r : Rc) (n : List UInt8) : best (a ++ [r]) n = if r.k = n then cmb (best a n) r else best a n := by
  unfold best
  rw [bfrom_app]
  rfl
theorem best_nil (n : List UInt8) : best [] n = none := rfl
theorem bfrom_key (n : List UInt8) : ∀ (l : List Rc) (o : Option Rc) (x : Rc), bfrom n o l = some x → o = some x ∨ (x ∈ l ∧ x.k = n)
  | [], o, x, h => Or.inl h
  | r :: l, o, x, h => by
    simp only [bfrom] at h
    rcases bfrom_key n l _ x h with h1 | h1
    · by_cases hr : r.k = n
      · rw [if_pos hr] at h1
        cases o with
        | none => simp only [cmb, Option.some.injEq] at h1; subst h1; exact Or.inr ⟨List.mem_cons_self .., hr⟩
        | some y =>
          simp only [cmb] at h1
          split at h1
          · simp only [Option.some.injEq] at h1; subst h1; exact Or.inr ⟨List.mem_cons_self .., hr⟩
          · exact Or.inl h1
      · rw [if_neg hr] at h1; exact Or.inl h1
    · exact Or.inr ⟨List.mem_cons_of_mem _ h1.1, h1.2⟩
theorem best_key {l : List Rc} {n : List UInt8} {x : Rc} (h : best l n = some x) : x ∈ l ∧ x.k = n := by
  rcases bfrom_key n l none x h with h1 | h1
  · cases h1
  · exact h1
theorem best_has {l : List Rc} {r : Rc} (h : r ∈ l) : best l r.k ≠ none := by
  induction l with
  | nil => cases h
  | cons y l ih =>
    unfold best
    simp only [bfrom]
    rw [bfrom_cm]
    rcases List.mem_cons.1 h with rfl | h
    · rw [if_pos rfl]
      cases best l r.k with
      | none => simp [cm, cmb]
      | some z => simp only [cm]; obtain ⟨x, hx⟩ := cmb_some (cmb none r) z; rw [hx]; simp
    · have := ih h
      cases hb : best l r.k with
      | none => exact absurd hb this
      | some z => simp only [cm]; obtain ⟨x, hx⟩ := cmb_some (if y.k = r.k then cmb none y else none) z; rw [hx]; simp

/-! ### rows by rising keys -/
theorem fnd_mem {l : List Rc} {n : List UInt8} {x : Rc} (h : fnd l n = some x) : x ∈ l ∧ x.k = n := ⟨List.mem_of_find?_eq_some h, by have := List.find?_some h; simpa using this⟩
theorem fnd_none {l : List Rc} {n : List UInt8} (h : fnd l n = none) : ∀ x ∈ l, x.k ≠ n := fun x hx => by have := List.find?_eq_none.1 h x hx; simpa using this
theorem fnd_up {l : List Rc} (h : Up Rc.k l) {x : Rc} (hx : x ∈ l) : fnd l x.k = some x := by
  cases hf : fnd l x.k with
  | none => exact absurd rfl (fnd_none hf x hx)
  | some y =>
    obtain ⟨h1, h2⟩ := fnd_mem hf
    rw [up_inj h h1 hx h2]
theorem fnd_of {l : List Rc} (h : Up Rc.k l) {n : List UInt8} {x : Rc} (hx : x ∈ l) (hk : x.k = n) : fnd l n = some x := by subst hk; exact fnd_up h hx
theorem fnd_not {l : List Rc} {n : List UInt8} (h : ∀ x ∈ l, x.k ≠ n) : fnd l n = none := List.find?_eq_none.2 (fun x hx => by simpa using h x hx)
/-- A row by rising keys is known by what is found in it. -/
theorem up_ext : ∀ {a b : List Rc}, Up Rc.k a → Up Rc.k b → (∀ n, fnd a n = fnd b n) → a = b
  | [], [], _, _, _ => rfl
  | [], y :: b, _, hb, h => by have := h y.k; rw [fnd_up hb (List.mem_cons_self ..)] at this; cases this
  | x :: a, [], ha, _, h => by have := h x.k; rw [fnd_up ha (List.mem_cons_self ..)] at this; cases this
  | x :: a, y :: b, ha, hb, h => by
    have hx : x ∈ y :: b := (fnd_mem ((h x.k).symm.trans (fnd_up ha (List.mem_cons_self ..)))).1
    have hy : y ∈ x :: a := (fnd_mem ((h y.k).trans (fnd_up hb (List.mem_cons_self ..)))).1
    have hxy : x = y := by
      rcases List.mem_cons.1 hx with e | hx
      · exact e
      · rcases List.mem_cons.1 hy with e | hy
        · exact e.symm
        · have h1 := up_head hb hx
          have h2 := up_head ha hy
          rw [lt_asymm h1] at h2; cases h2
    subst hxy
    have : a = b := up_ext (up_tail ha) (up_tail hb) (fun n => by
      by_cases hn : x.k = n
      · subst hn
        rw [fnd_not (fun z hz => (lt_ne (up_head ha hz)).symm), fnd_not (fun z hz => (lt_ne (up_head hb hz)).symm)]
      · have := h n
        unfold fnd at this ⊢
        rwa [List.find?_cons_of_neg (by simpa using hn), List.find?_cons_of_neg (by simpa using hn)] at this)
    rw [this]
theorem best_up : ∀ {l : List Rc}, Up Rc.k l → ∀ n, best l n = fnd l n
  | [], _, n => rfl
  | x :: l, h, n => by
    have ih := best_up (up_tail h) n
    unfold best
    simp only [bfrom]
    rw [bfrom_cm]
    unfold fnd
    by_cases hx : x.k = n
    · rw [if_pos hx, List.find?_cons_of_pos (by simpa using hx), ih, fnd_not (fun z hz => by rw [← hx]; exact (lt_ne (up_head h hz)).symm)]
      rfl
    · rw [if_neg hx, List.find?_cons_of_neg (by simpa using hx), ih]
      unfold fnd
      cases List.find? (fun r => r.k == n) l <;> rfl

/-! ### the newest -/
/-- One more. -/
def put1 (out : List Rc) (r : Rc) : List Rc := match fnd out r.k with
  | none => ins Rc.k out r
  | some x => if x.q ≤ r.q then ins Rc.k (wo Rc.k out r.k) r else out
def nw (l : List Rc) : List Rc := l.foldl put1 []
def live (l : List Rc) : List Rc := (nw l).filter (fun r => !r.g)
def mrg (elder : Bool) (l : List Rc) : List Rc := if elder then nw l else live l
/-- These are the newest of those. -/
def IsNew (out l : List Rc) : Prop := Up Rc.k out ∧ ∀ n, fnd out n = best l n
theorem fnd_ins {l : List Rc} {x : Rc} (h : Up Rc.k l) (hne : ∀ c ∈ l, c.k ≠ x.k) (n : List UInt8) : fnd (ins Rc.k l x) n = if x.k = n then some x else fnd l n := by
  have hu := up_ins (k := Rc.k) h hne
  by_cases hx : x.k = n
  · rw [if_pos hx]; exact fnd_of hu (mem_ins.2 (Or.inl rfl)) hx
  · rw [if_neg hx]
    cases hf : fnd l n with
    | none =>
      refine fnd_not (fun y hy => ?_)
      rcases mem_ins.1 hy with rfl | hy
      · exact hx
      · exact fnd_none hf y hy
    | some y =>
      obtain ⟨h1, h2⟩ := fnd_mem hf
      exact fnd_of hu (mem_ins.2 (Or.inr h1)) h2
theorem fnd_wo {l : List Rc} (h : Up Rc.k l) (m n : List UInt8) : fnd (wo Rc.k l m) n = if m = n then none else fnd l n := by
  by_cases hm : m = n
  · rw [if_pos hm]; exact fnd_not (fun x hx => by rw [← hm]; exact (mem_wo.1 hx).2)
  · rw [if_neg hm]
    cases hf : fnd l n with
    | none => exact fnd_not (fun y hy => fnd_none hf y (mem_wo.1 hy).1)
    | some y =>
      obtain ⟨h1, h2⟩ := fnd_mem hf
      exact fnd_of (up_wo h m) (mem_wo.2 ⟨h1, by rw [h2]; exact fun e => hm e.symm⟩) h2
theorem put1_is {out l : List Rc} {r : Rc} (h : IsNew out l) : IsNew (put1 out r) (l ++ [r]) := by
  obtain ⟨hu, hf⟩ := h
  unfold put1
  have hr := hf r.k
  cases hx : fnd out r.k with
  | none =>
    have hne := fnd_none hx
    refine ⟨up_ins hu hne, fun n => ?_⟩
    rw [fnd_ins hu hne, best_snoc]
    by_cases hn : r.k = n
    · subst hn; rw [if_pos rfl, if_pos rfl, ← hr, hx]; rfl
    · rw [if_neg hn, if_neg hn, hf]
  | some x =>
    obtain ⟨h1, h2⟩ := fnd_mem hx
    by_cases hq : x.q ≤ r.q
    · simp only [hq, if_true]
      have hne : ∀ c ∈ wo Rc.k out r.k, c.k ≠ r.k := fun c hc => (mem_wo.1 hc).2
      refine ⟨up_ins (up_wo hu _) hne, fun n => ?_⟩
      rw [fnd_ins (up_wo hu _) hne, fnd_wo hu, best_snoc]
      by_cases hn : r.k = n
      · subst hn; rw [if_pos rfl, if_pos rfl, ← hr, hx]; simp [cmb, hq]
      · rw [if_neg hn, if_neg hn, if_neg hn, hf]
    · simp only [hq, if_false]
      refine ⟨hu, fun n => ?_⟩
      rw [best_snoc, hf]
      by_cases hn : r.k = n
      · subst hn; rw [if_pos rfl, ← hr, hx]; simp [cmb, hq]
      · rw [if_neg hn]
theorem fold_is : ∀ (m l out : List Rc), IsNew out l → IsNew (m.foldl put1 out) (l ++ m)
  | [], l, out, h => by rw [List.append_nil]; exact h
  | r :: m, l, out, h => by
    have := fold_is m (l ++ [r]) (put1 out r) (put1_is h)
    rwa [List.append_assoc, List.singleton_append] at this
theorem nw_is (l : List Rc) : IsNew (nw l) l := by
  have := fold_is l [] [] ⟨List.Pairwise.nil, fun n => rfl⟩
  rwa [List.nil_append] at this
theorem nw_snoc (l : List Rc) (r : Rc) : nw (l ++ [r]) = put1 (nw l) r := by unfold nw; rw [List.foldl_append]; rfl
theorem nw_nil : nw [] = [] := rfl
theorem IsNew.eq {out l : List Rc} (h : IsNew out l) : out = nw l := up_ext h.1 (nw_is l).1 (fun n => by rw [h.2, (nw_is l).2])
theorem nw_eq {a b : List Rc} (h : ∀ n, best a n = best b n) : nw a = nw b := up_ext (nw_is a).1 (nw_is b).1 (fun n => by rw [(nw_is a).2, (nw_is b).2, h])
theorem best_nw (l : List Rc) (n : List UInt8) : best (nw l) n = best l n := by rw [best_up (nw_is l).1, (nw_is l).2]
theorem nw_mem {l : List Rc} {x : Rc} (h : x ∈ nw l) : x ∈ l := by
  have := (nw_is l).2 x.k
  rw [fnd_up (nw_is l).1 h] at this
  exact (best_key this.symm).1
/-- Merged first, and then with others. -/
theorem nw_twice (a b : List Rc) : nw (nw a ++ b) = nw (a ++ b) := nw_eq (fun n => by rw [best_app, best_app, best_nw])
theorem nw_front (e a : List Rc) : nw (e ++ nw a) = nw (e ++ a) := nw_eq (fun n => by rw [best_app, best_app, best_nw])
theorem fnd_filter {l : List Rc} (h : Up Rc.k l) (p : Rc → Bool) (n : List UInt8) : fnd (l.filter p) n = (fnd l n).filter p := by
  cases hf : fnd l n with
  | none => exact fnd_not (fun y hy => fnd_none hf y (List.mem_filter.1 hy).1)
  | some y =>
    obtain ⟨h1, h2⟩ := fnd_mem hf
    cases hp : p y
    · have e : fnd (l.filter p) n = none := fnd_not (fun z hz hzn => by
        obtain ⟨z1, z2⟩ := List.mem_filter.1 hz
        rw [up_inj h z1 h1 (hzn.trans h2.symm), hp] at z2
        cases z2)
      rw [e]
      simp [Option.filter, hp]
    · have e := fnd_of (h.filter p) (List.mem_filter.2 ⟨h1, hp⟩) h2
      rw [e]
      simp [Option.filter, hp]
theorem live_up (l : List Rc) : Up Rc.k (live l) := (nw_is l).1.filter _
theorem fnd_live (l : List Rc) (n : List UInt8) : fnd (live l) n = (best l n).filter (fun r => !r.g) := by unfold live; rw [fnd_filter (nw_is l).1, (nw_is l).2]
theorem live_eq {a b : List Rc} (h : ∀ n, (best a n).filter (fun r => !r.g) = (best b n).filter (fun r => !r.g)) : live a = live b :=
  up_ext (live_up a) (live_up b) (fun n => by rw [fnd_live, fnd_live, h])
theorem live_front (e a : List Rc) : live (e ++ nw a) = live (e ++ a) := by unfold live; rw [nw_front]
theorem live_twice {a b : List Rc} (h : ∀ x ∈ a, ∀ y ∈ b, x.q < y.q) : live (live a ++ b) = live (a ++ b) := live_eq (fun n => by
  rw [best_app, best_app, best_up (live_up a), fnd_live]
  cases hb : best b n with
  | none => simp only [cm]; cases best a n <;> simp [Option.filter]; rename_i x; cases hg : x.g <;> simp [hg]
  | some y =>
    cases ha : best a n with
    | none => rfl
    | some x =>
      have := h x (best_key ha).1 y (best_key hb).1
      simp only [cm]
      have e1 : cmb (some x) y = some y := by simp [cmb, Nat.le_of_lt this]
      rw [e1]
      cases hg : x.g <;> simp [Option.filter, hg, cmb, Nat.le_of_lt this])
theorem nw_length (l : List Rc) : (nw l).length ≤ l.length := by
  have h : ∀ (m out : List Rc), (m.foldl put1 out).length ≤ out.length + m.length := by
    intro m
    induction m with
    | nil => intro out; simp
    | cons r m ih =>
      intro out
      have h1 : (put1 out r).length ≤ out.length + 1 := by
        unfold put1
        split
        · rw [length_ins]; exact Nat.le_refl _
        · split
          · rw [length_ins]
            have := List.length_filter_le (fun c => !(Rc.k c == r.k)) out
            unfold wo
            omega
          · omega
      have := ih (put1 out r)
      simp only [List.foldl_cons, List.length_cons]
      omega
  simpa [nw] using h l []
theorem live_length (l : List Rc) : (live l).length ≤ l.length := Nat.le_trans (List.length_filter_le _ _) (nw_length l)

/-! ### batches -/
def batF : Nat → List Rc → List (List Rc)
  | 0, _ => []
  | f + 1, l => if l = [] then [] else l.take 16 :: batF f (l.drop 16)
def bat (l : List Rc) : List (List Rc) := batF l.length l
theorem batF_spec : ∀ (f : Nat) (l : List Rc), l.length ≤ f → (batF f l).flatten = l ∧ (batF f l).length = (l.length + 15) / 16 ∧ ∀ i (h : i < (batF f l).length), (batF f l)[i] = (l.drop (16 * i)).take 16
  | 0, l, h => by
    have : l = [] := List.eq_nil_of_length_eq_zero (by omega)
    subst this
    exact ⟨rfl, rfl, fun i h => by simp [batF] at h⟩
  | f + 1, l, h => by
    by_cases hl : l = []
    · subst hl
      simp [batF]
    · have hp : 0 < l.length := List.length_pos_iff.2 hl
      obtain ⟨h1, h2, h3⟩ := batF_spec f (l.drop 16) (by rw [List.length_drop]; omega)
      rw [batF, if_neg hl]
      refine ⟨by rw [List.flatten_cons, h1, List.take_append_drop], by rw [List.length_cons, h2, List.length_drop]; omega, fun i hi => ?_⟩
      cases i with
      | zero => simp
      | succ i =>
        simp only [List.getElem_cons_succ]
        rw [h3 i (by simpa using hi), List.drop_drop]
        congr 2
        omega
theorem bat_flat (l : List Rc) : (bat l).flatten = l := (batF_spec _ l (Nat.le_refl _)).1
theorem bat_len (l : List Rc) : (bat l).length = (l.length + 15) / 16 := (batF_spec _ l (Nat.le_refl _)).2.1
theorem bat_at (l : List Rc) (i : Nat) (h : i < (bat l).length) : (bat l)[i] = (l.drop (16 * i)).take 16 := (batF_spec _ l (Nat.le_refl _)).2.2 i h
theorem bat_size (l : List Rc) (i : Nat) (h : i < (bat l).length) : 1 ≤ (bat l)[i].length ∧ (bat l)[i].length ≤ 16 := by
  rw [bat_at l i h, List.length_take, List.length_drop]
  rw [bat_len] at h
  omega
end Go.Proofs.Ytfcfleeiffmjdaa.G
