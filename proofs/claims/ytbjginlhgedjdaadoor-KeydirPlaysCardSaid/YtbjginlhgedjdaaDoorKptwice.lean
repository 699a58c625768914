/- Plain facts: entries of a directory, put in whatever order, and again, into one of twice the size. -/
import Derived.Test.YtbjginlhgedjdaaDoorKtotal
namespace Go.Proofs.YtbjginlhgedjdaaDoor.K
open Go.RowKit
set_option linter.unusedVariables false

theorem keys_le {A C : List (Ent Lc)} (hA : Up Prod.fst A) (hC : Up Prod.fst C) (h : ∀ a ∈ A, ∃ v, (a.1, v) ∈ C) : A.length ≤ C.length ∧ (∀ x ∈ C, (∀ a ∈ A, a.1 ≠ x.1) → A.length + 1 ≤ C.length) := by
  have e : A.map Prod.fst = (C.map Prod.fst).filter (fun k => decide (k ∈ A.map Prod.fst)) := by
    refine up_ext (k := id) ?_ ?_ (fun k => ?_)
    · exact List.pairwise_map.2 hA
    · exact (show Up id (C.map Prod.fst) from List.pairwise_map.2 hC).filter _
    · rw [List.mem_filter]
      constructor
      · intro hk
        obtain ⟨a, ha, rfl⟩ := List.mem_map.1 hk
        obtain ⟨v, hv⟩ := h a ha
        exact ⟨List.mem_map.2 ⟨_, hv, rfl⟩, decide_eq_true hk⟩
      · rintro ⟨_, hk⟩
        exact of_decide_eq_true hk
  have l1 : A.length = ((C.map Prod.fst).filter (fun k => decide (k ∈ A.map Prod.fst))).length := by rw [← e, List.length_map]
  have l2 : (C.map Prod.fst).length = C.length := List.length_map _
  refine ⟨by rw [l1, ← l2]; exact List.length_filter_le _ _, fun x hx hn => ?_⟩
  have : ((C.map Prod.fst).filter (fun k => decide (k ∈ A.map Prod.fst))).length < (C.map Prod.fst).length := by
    rw [List.length_filter_lt_length_iff_exists]
    refine ⟨x.1, List.mem_map.2 ⟨x, hx, rfl⟩, ?_⟩
    simp only [decide_eq_true_eq]
    intro hm
    obtain ⟨a, ha, e⟩ := List.mem_map.1 hm
    exact hn a ha e
  omega

/-- Entries are put, one behind the other, into an empty directory of c places. -/
noncomputable def Tf (c : Nat) (l : List (Ent Lc)) : Dr := l.foldl (fun T x => putS T x.1 x.2) (none' c)
theorem Tf_snoc (c : Nat) (l : List (Ent Lc)) (x : Ent Lc) : Tf c (l ++ [x]) = putS (Tf c l) x.1 x.2 := by simp [Tf]
theorem putS_room {T : Dr} {k : List UInt8} (hn : ∀ i v, ¬ Has T i k v) (hf : ¬ T.length < 2 * (cnt T + 1)) (l : Lc) : putS T k l = lay hm T (k, l) := by
  rw [putS_no hn]; unfold room; rw [if_neg hf]
theorem Tf_facts {S : Dr} (hO : Ok hm S) (l : List (Ent Lc)) : (∀ x ∈ l, x ∈ sre S) →
    Ok hm (Tf (2 * S.length) l) ∧ (Tf (2 * S.length) l).length = 2 * S.length ∧ ∀ s ∈ sre (Tf (2 * S.length) l), ∃ v, (s.1, v) ∈ sre S := by
  refine snoc_ind (p := fun l => (∀ x ∈ l, x ∈ sre S) → Ok hm (Tf (2 * S.length) l) ∧ (Tf (2 * S.length) l).length = 2 * S.length ∧ ∀ s ∈ sre (Tf (2 * S.length) l), ∃ v, (s.1, v) ∈ sre S) (fun _ => ?_) (fun l x ih hx => ?_) l
  · obtain ⟨p, hp, e⟩ := hO.pow
    have he : sre (none' (2 * S.length) : Dr) = [] := List.length_eq_zero_iff.1 (by rw [sre_len, cnt_none'])
    refine ⟨⟨inv_none _, by show 2 * cnt (none' (2 * S.length) : Dr) ≤ _; rw [cnt_none']; omega, p + 1, by omega, ?_⟩, by simp [Tf, none'], fun s hs => ?_⟩
    · show (none' (2 * S.length) : Dr).length = _
      rw [show (none' (2 * S.length) : Dr).length = 2 * S.length by simp [none'], e, Nat.pow_succ]; omega
    · rw [show Tf (2 * S.length) [] = none' (2 * S.length) from rfl, he] at hs; simp at hs
  · obtain ⟨h1, h2, h3⟩ := ih (fun y hy => hx y (List.mem_append_left _ hy))
    have hxs : x ∈ sre S := hx x (List.mem_append_right _ (List.mem_singleton.2 rfl))
    rw [Tf_snoc]
    have hkey : ∀ s ∈ ins Prod.fst (wo Prod.fst (sre (Tf (2 * S.length) l)) x.1) (x.1, x.2), ∃ v, (s.1, v) ∈ sre S := fun s hs => by
      rcases mem_ins.1 hs with rfl | hs
      · exact ⟨x.2, hxs⟩
      · exact h3 _ (mem_wo.1 hs).1
    rcases has_cases (Tf (2 * S.length) l) x.1 with ⟨_, i, v, hi⟩ | ⟨_, hno⟩
    · rw [putS_yes h1.inv.one hi]
      obtain ⟨g1, g2, g3⟩ := ok_set (v' := x.2) h1 hi
      exact ⟨g1, by rw [List.length_set]; exact h2, by rw [g2]; exact hkey⟩
    · have hle := (keys_le (sre_up h1.inv.one) (sre_up hO.inv.one) h3).2 x hxs (fun a ha e => by
        obtain ⟨k', v'⟩ := a
        obtain ⟨i, hi⟩ := sre_mem.1 ha
        rw [show k' = x.1 from e] at hi
        exact hno _ _ hi)
      rw [sre_len, sre_len] at hle
      have hf : ¬ (Tf (2 * S.length) l).length < 2 * (cnt (Tf (2 * S.length) l) + 1) := by rw [h2]; have := hO.half; omega
      have hr : room hm (Tf (2 * S.length) l) = Tf (2 * S.length) l := by unfold room; rw [if_neg hf]
      obtain ⟨g1, g2, g3⟩ := ok_put homeLt h1 (s := (x.1, x.2)) hno
      rw [hr] at g1 g2 g3
      have hw : wo Prod.fst (sre (Tf (2 * S.length) l)) x.1 = sre (Tf (2 * S.length) l) := wo_id (fun c hc e => by
        obtain ⟨k', v'⟩ := c
        obtain ⟨i, hi⟩ := sre_mem.1 hc
        rw [show k' = x.1 from e] at hi
        exact hno _ _ hi)
      rw [hw] at hkey
      rw [putS_room hno hf]
      exact ⟨g1, by rw [lay_len]; exact h2, by rw [g2]; exact hkey⟩
/-- A new one of them finds room. -/
theorem Tf_room {S : Dr} (hO : Ok hm S) {l : List (Ent Lc)} (hl : ∀ x ∈ l, x ∈ sre S) {x : Ent Lc} (hx : x ∈ sre S) (hno : ∀ i v, ¬ Has (Tf (2 * S.length) l) i x.1 v) :
    cnt (Tf (2 * S.length) l) < (Tf (2 * S.length) l).length ∧ ¬ (Tf (2 * S.length) l).length < 2 * (cnt (Tf (2 * S.length) l) + 1) := by
  obtain ⟨h1, h2, h3⟩ := Tf_facts hO l hl
  have hle := (keys_le (sre_up h1.inv.one) (sre_up hO.inv.one) h3).2 x hx (fun a ha e => by
    obtain ⟨k', v'⟩ := a
    obtain ⟨i, hi⟩ := sre_mem.1 ha
    rw [show k' = x.1 from e] at hi
    exact hno _ _ hi)
  rw [sre_len, sre_len] at hle
  have := hO.half; have := hO.pos
  rw [h2]; omega
/-- Put in order, each once, they are inserted again. -/
theorem Tf_lays {c : Nat} (l : List (Ent Lc)) : Up Prod.fst l → 2 * l.length ≤ c → Tf c l = lays hm (none' c) l := by
  refine snoc_ind (p := fun l => Up Prod.fst l → 2 * l.length ≤ c → Tf c l = lays hm (none' c) l) (fun _ _ => rfl) (fun l x ih hu hc => ?_) l
  rw [List.length_append, List.length_singleton] at hc
  have hul : Up Prod.fst l := (List.pairwise_append.1 hu).1
  obtain ⟨h1, h2, h3, h4⟩ := lays_facts homeLt (inv_none (home := hm) (V := Lc) c) l hul (fun _ _ _ _ => not_has_none) (by rw [cnt_none']; simp only [none', List.length_replicate]; omega)
  rw [Tf_snoc, ih hul (by omega), lays_snoc]
  refine putS_room (fun i v hi => ?_) ?_ _
  · rcases (h4 x.1 v).1 ⟨i, hi⟩ with g | ⟨j, g⟩
    · have := (List.pairwise_append.1 hu).2.2 _ g x (List.mem_singleton.2 rfl)
      rw [lt_irrefl] at this; cases this
    · exact not_has_none g
  · rw [h2, h3, cnt_none']; simp only [none', List.length_replicate]; omega
theorem Tf_grow {S : Dr} (hO : Ok hm S) : Tf (2 * S.length) (sre S) = grow hm S := Tf_lays _ (sre_up hO.inv.one) (by rw [sre_len]; have := hO.half; omega)
theorem from_all (S : Dr) : fromE S [] = sre S := by
  unfold fromE
  refine List.filter_eq_self.2 (fun s _ => ?_)
  have : lt s.1 [] = false := by
    cases h : lt s.1 []
    · rfl
    · have := (lt_iff _ _).1 h; simp at this
  rw [this]; rfl
end Go.Proofs.YtbjginlhgedjdaaDoor.K
