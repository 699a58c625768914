/- A region that draws its order and whose last operation waits for all others: that one may be left to the end. -/
import Derived.Deep.RegionHeld3
import Derived.StillTail
namespace Go.Proofs.YtbefhnpmilcffaaDoor
open Go
set_option linter.unusedVariables false

/-- What is to be shown ahead of the last operation. -/
def AtLast (P : Program) (ops : Array Oper) (Q : Exit → Act → World → Prop) (k : Nat) : Exit → Act → World → Prop
  | .normal, a, w => wpOp P ops Q k (fun a' w' => Q .normal a' w') a w
  | e, a, w => Q e a w

section
variable {P : Program} {ops : Array Oper} {Q : Exit → Act → World → Prop} {md : Region.Mode} {k : Nat}

theorem atLast_lets (h : LetsOut (AtLast P ops Q k)) : LetsOut Q := by
  obtain ⟨a, w, h⟩ := h
  exact ⟨a, w, h⟩

theorem operWp_last {o : Oper} {a : Act} {w : World} {K : Act → World → Prop} (h : Oper.wp P o a w K (AtLast P ops Q k)) : Oper.wp P o a w K Q := by
  unfold Oper.wp at *
  cases hr : (execOp a.eval o).run P w with
  | ok n w' =>
    rw [hr] at h
    cases n with
    | enter f args => exact Calls.mono h (fun e w'' he => by
        cases e with
        | returned v => exact he
        | panicked c => exact he
        | outgrown => exact atLast_lets he)
    | _ => exact h
  | halt x w' =>
    rw [hr] at h
    cases x <;> exact h

theorem wpOp_last {i : Nat} {a : Act} {w : World} {K : Act → World → Prop} (h : wpOp P ops (AtLast P ops Q k) i K a w) : wpOp P ops Q i K a w := by
  unfold wpOp at *
  cases ho : ops[i]? with
  | none => rw [ho] at h; exact h
  | some o =>
    rw [ho] at h
    dsimp only at h ⊢
    split
    · rename_i hw
      rw [if_pos hw] at h
      exact h.imp operWp_last (fun ⟨h1, h2⟩ => ⟨h1, atLast_lets h2⟩)
    · rename_i hw
      rw [if_neg hw] at h
      exact h

/-- Nobody waits for a later one. -/
def backB (md : Region.Mode) (ops : Array Oper) : Bool :=
  (List.range ops.size).all fun j => match ops[j]? with
    | some o => o.after.all fun e => !Region.binds md e || decide (e.on < j)
    | none => true
theorem backB_spec (h : backB md ops = true) {j : Nat} {o : Oper} (hj : ops[j]? = some o) {e} (he : e ∈ o.after) (hb : Region.binds md e = true) : e.on < j := by
  have hl : j < ops.size := (Array.getElem?_eq_some_iff.1 hj).1
  have h1 := List.all_eq_true.1 h j (List.mem_range.2 hl)
  rw [hj] at h1
  have h2 := Array.all_eq_true'.1 h1 e he
  simpa [hb] using h2

theorem ready_cases {listed : Array Bool} (hk : ops.size = k + 1) (hback : backB md ops = true) (hs : Region.sinkB md ops k = true) (hc : Region.chainB md ops k = true) (inv : HeadInv md ops k listed) :
    (∀ i, i ∈ Region.ready md ops (listed.setIfInBounds k true) → i ∈ Region.ready md ops listed ∧ i < k) ∧ (k ∈ Region.ready md ops listed → Region.ready md ops (listed.setIfInBounds k true) = []) ∧ (Region.ready md ops (listed.setIfInBounds k true) = [] → k ∈ Region.ready md ops listed) := by
  have h1 : ∀ i, i ∈ Region.ready md ops (listed.setIfInBounds k true) → i ∈ Region.ready md ops listed ∧ i < k := by
    intro i hi
    obtain ⟨hun, o, ho, hall⟩ := mem_ready.1 hi
    have hil : i < ops.size := (Array.getElem?_eq_some_iff.1 ho).1
    have hik : i ≠ k := by
      rintro rfl
      have : (listed.setIfInBounds i true).getD i true = true := by simp [inv.size, hil]
      rw [this] at hun; cases hun
    have hik' : i < k := by omega
    rw [getD_set_ne true (Ne.symm hik)] at hun
    refine ⟨mem_ready.2 ⟨hun, o, ho, fun e he hb => ?_⟩, hik'⟩
    have h2 := hall e he hb
    have h3 := backB_spec hback ho he hb
    rwa [getD_set_ne false (by omega)] at h2
  have hall : (∀ i, i < k → listed.getD i true = true) → k ∈ Region.ready md ops listed := by
    intro h
    obtain ⟨o, ho⟩ : ∃ o, ops[k]? = some o := ⟨_, Array.getElem?_eq_getElem (by omega)⟩
    refine mem_ready.2 ⟨inv.tail k (Nat.le_refl _) (by omega), o, ho, fun e he hb => ?_⟩
    have h3 := backB_spec hback ho he hb
    have h4 := h e.on h3
    have h5 : e.on < listed.size := by rw [inv.size]; omega
    simpa [h5] using h4
  refine ⟨h1, fun hkr => ?_, fun hnil => hall fun i hi => ?_⟩
  · rcases hr : Region.ready md ops (listed.setIfInBounds k true) with _ | ⟨i, r⟩
    · rfl
    · obtain ⟨hir, hik⟩ := h1 i (by rw [hr]; exact List.mem_cons_self)
      exact absurd hkr (tail_waits hs hc (by omega) inv (k - i) i rfl hik (mem_ready.1 hir).1 k (Nat.le_refl _))
  · -- the least that has not come up could come up
    cases hl : listed.getD i true with
    | true => rfl
    | false =>
      exfalso
      obtain ⟨m, ⟨hm, hml⟩, hmin⟩ : ∃ m, (m < k ∧ listed.getD m true = false) ∧ ∀ j, j < m → listed.getD j true = true := by
        clear hall h1 hnil
        induction i using Nat.strongRecOn with
        | _ i ih =>
          by_cases h : ∃ j, j < i ∧ listed.getD j true = false
          · obtain ⟨j, hj, hjl⟩ := h
            exact ih j hj (by omega) hjl
          · refine ⟨i, ⟨hi, hl⟩, fun j hj => ?_⟩
            cases hh : listed.getD j true with
            | true => rfl
            | false => exact absurd ⟨j, hj, hh⟩ h
      obtain ⟨o, ho⟩ : ∃ o, ops[m]? = some o := ⟨_, Array.getElem?_eq_getElem (by omega)⟩
      have : m ∈ Region.ready md ops (listed.setIfInBounds k true) := by
        refine mem_ready.2 ⟨by rw [getD_set_ne true (by omega)]; exact hml, o, ho, fun e he hb => ?_⟩
        have h3 := backB_spec hback ho he hb
        have h4 := hmin e.on h3
        have h5 : e.on < listed.size := by rw [inv.size]; omega
        rw [getD_set_ne false (by omega)]
        simpa [h5] using h4
      rw [hnil] at this
      cases this

theorem wpAny_last (hk : ops.size = k + 1) (hback : backB md ops = true) (hs : Region.sinkB md ops k = true) (hc : Region.chainB md ops k = true) :
    ∀ (fuel : Nat) (listed : Array Bool) (a : Act) (w : World), HeadInv md ops k listed → wpAny P md ops (AtLast P ops Q k) fuel (listed.setIfInBounds k true) a w → wpAny P md ops Q (fuel + 1) listed a w
  | 0, listed, a, w, inv, h => by
    obtain ⟨r1, r2, r3⟩ := ready_cases hk hback hs hc inv
    obtain ⟨hnil, hq⟩ := h
    have hkr := r3 hnil
    refine ⟨fun h0 => (by rw [h0] at hkr; cases hkr), fun i hi => ?_⟩
    by_cases hik : i = k
    · subst hik
      exact wpOp_mono (fun a' w' h' => ⟨hnil, h'⟩) hq
    · have := ready_mono hi hik
      rw [hnil] at this; cases this
  | fuel + 1, listed, a, w, inv, h => by
    obtain ⟨r1, r2, r3⟩ := ready_cases hk hback hs hc inv
    refine ⟨fun h0 => ?_, fun i hi => ?_⟩
    · rcases hr : Region.ready md ops (listed.setIfInBounds k true) with _ | ⟨i, r⟩
      · have := r3 hr; rw [h0] at this; cases this
      · have := (r1 i (by rw [hr]; exact List.mem_cons_self)).1
        rw [h0] at this; cases this
    · by_cases hik : i = k
      · subst hik
        have hnil := r2 hi
        exact wpOp_mono (fun a' w' h' => ⟨fun _ => h', fun j hj => by rw [hnil] at hj; cases hj⟩) (h.1 hnil)
      · have hi' := ready_mono hi hik
        have hik' := (r1 i hi').2
        have := h.2 i hi'
        refine wpOp_last (k := k) (wpOp_mono (fun a' w' h' => ?_) this)
        rw [Array.setIfInBounds_comm _ _ (Ne.symm hik)] at h'
        exact wpAny_last hk hback hs hc fuel _ a' w' (inv.set hi hik') h'

/-- THE BEGINNING: all but the last under a condition S; then the last. -/
theorem wp_region_last {id : Nat} {a : Act} {w : World} {S : World → Prop} (hm : P.follows .mixedOrders = true) (hk : ops.size = k + 1) (hback : backB .any ops = true) (hs : Region.sinkB .any ops k = true) (hc : Region.chainB .any ops k = true)
    (h : wpAnyH P .any ops (AtLast P ops Q k) S k ((Array.replicate ops.size false).setIfInBounds k true) a w.drew) : (Code.region id ops true).wp P Q a w := by
  refine wp_region_any hm ?_
  rw [hk]
  refine wpAny_last hk hback hs hc k _ a _ ⟨by simp [hk], fun j oj _ hl => (by rw [getD_replicate_false] at hl; cases hl), fun t _ ht => getD_in (by simpa using by omega) (getD_replicate_false _ _)⟩ ?_
  have := wpAny_of_held _ _ _ _ h
  rw [hk] at this
  exact this
end
end Go.Proofs.YtbefhnpmilcffaaDoor
