/- List. -/
import Derived.Test.YtadfajeiihonfaaMlists
namespace Go.Proofs.Ytadfajeiihonfaa
open Go.RowKit Go.Maps
set_option linter.unusedVariables false

def namesIf (S : Rs) : List (List UInt8) := if far S then [] else S.obs.map Ob.nm
theorem names_far {S : Rs} (h : far S) : namesIf S = [] := by unfold namesIf; rw [if_pos h]
theorem names_fine {S : Rs} (h : ¬ far S) : namesIf S = S.obs.map Ob.nm := by unfold namesIf; rw [if_neg h]

def callListAll (B pb mb : Nat) (sv : Value) (w : World) (S' : Rs) (ns : List (List UInt8)) (x : Int) (e : Ending) (w' : World) : Prop :=
  ∃ va vc, e = .returned (answ [] (.slice va ns.length vc) x) ∧ RkStep B pb mb sv w S' w' ∧ Names w w' (.slice va ns.length vc) ns

theorem call_list {B pb mb : Nat} {sv : Value} {S : Rs} {w : World} {n b : List UInt8} (h : Rk B w pb mb sv S) (hc : S.n < 1000000000000) :
    Calls Try.prog 21 #[.pointer (some ⟨pb, 0, none⟩), .func (.func 30) #[.pointer (some ⟨pb, 0, none⟩)] #[], .string (bs n), .string (bs b)] w (callListAll B pb mb sv w (used S) (namesIf S) (errOf S 0)) := by
  rcases fate_three S with hk | hk | hk
  · rw [err_far _ (Or.inl hk), names_far (Or.inl hk)]
    exact (call_list_lost h hc hk).mono fun e w' ⟨e1, hs⟩ => ⟨none, 0, e1, hs, World.ownsRow_nil _ _ _ _⟩
  · rw [err_far _ (Or.inr hk), names_far (Or.inr hk)]
    exact (call_list_late h hc hk).mono fun e w' ⟨e1, hs⟩ => ⟨none, 0, e1, hs, World.ownsRow_nil _ _ _ _⟩
  · rw [err_fine _ (by unfold far; omega), names_fine (by unfold far; omega)]
    exact call_list_fine h hc hk

/-- What is behind a List. -/
def listmPost (B pb : Nat) (F : Nat → Prop) (S' : Rs) (ns : List (List UInt8)) (x : Int) (w : World) (e : Ending) (w' : World) : Prop :=
  ∃ va vc, e = .returned (.tuple #[.slice va ns.length vc, .int .i64 x]) ∧ Names w w' (.slice va ns.length vc) ns ∧ ∃ F', RkS B w' pb F' S' ∧ (∀ k, F' k → F k ∨ w.heap.size ≤ k) ∧ Turn F w w'

theorem list_m {B pb : Nat} {S : Rs} {w : World} {F : Nat → Prop} (h : RkS B w pb F S) (hc : S.n < 1000000000000) :
    Calls Try.prog 16 #[.pointer (some ⟨pb, 0, none⟩)] w (listmPost B pb F (used S) (namesIf S) (errOf S 0) w) := by
  obtain ⟨mb, sv, hr, hF⟩ := h
  have hmf : ∀ (fn : Fn) (first cap : Array Value) (w : World), (Instr.makeFunc fn first cap).run Try.prog w = .ok (.func fn first cap) w := fun _ _ _ _ => rfl
  have HC := Lib.hid (call_list (n := []) (b := []) hr hc)
  have HF := Lib.hid hF
  clear hr hF
  generalize namesIf S = ns at HC ⊢
  generalize errOf S 0 = x at HC ⊢
  go_enter Try.func16, Try.ntmps16
  go_wp2_with fail
  refine HC.out.mono ?_
  rintro e w' ⟨va, vc, rfl, hs, hnm⟩
  unfold answ
  have HS := Lib.hid hs; have HNM := Lib.hid hnm; clear hs hnm
  go_wp2_with fail
  go_region
  go_wp2
  go_ret2
  have hb : Below w'.heap.size w' (w'.alloc (.cells #[.string (bs []), .slice va ns.length vc, .int .i64 x] 50)).drew := ((Below.refl _ w').alloc (Nat.le_refl _) _).trans ⟨rfl, rfl, rfl, Nat.le_refl _, fun _ _ => rfl⟩
  obtain ⟨sv', h', hf, t⟩ := HS.out.later hb
  refine ⟨va, vc, rfl, owns_kept HNM.out (fun g hg => hb.block g (HNM.out.lt g hg).2), foot pb mb sv', ⟨mb, sv', h', fun _ => Iff.rfl⟩, fun k hk => ?_, t.mono (fun k _ hk => (HF.out k).1 hk)⟩
  rcases hf k hk with hk | hk
  · exact Or.inl ((HF.out k).1 hk)
  · exact Or.inr hk
end Go.Proofs.Ytadfajeiihonfaa
