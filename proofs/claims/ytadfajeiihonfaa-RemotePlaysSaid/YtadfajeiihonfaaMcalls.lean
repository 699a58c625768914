/- Put, PutNew, Get, Delete. -/
import Derived.Test.YtadfajeiihonfaaMcallput
import Derived.Test.YtadfajeiihonfaaMcallputNew
import Derived.Test.YtadfajeiihonfaaMcallget
import Derived.Test.YtadfajeiihonfaaMcallremove
namespace Go.Proofs.Ytadfajeiihonfaa
open Go.RowKit Go.Maps
set_option linter.unusedVariables false

theorem fate_three (S : Rs) : fateOf S = 1 ∨ fateOf S = 2 ∨ (fateOf S ≠ 1 ∧ fateOf S ≠ 2) := by omega
theorem takes_lost {S : Rs} (l : List Ob) (h : fateOf S = 1) : takes S l = used S := by unfold takes; rw [if_pos h]; rfl
theorem takes_other {S : Rs} (l : List Ob) (h : fateOf S ≠ 1) : takes S l = { used S with obs := l } := by unfold takes; rw [if_neg h]
theorem takes_same (S : Rs) : takes S S.obs = used S := by unfold takes; rw [ite_self]; rfl
theorem err_far {S : Rs} (e : Int) (h : far S) : errOf S e = 9 := by unfold errOf; rw [if_pos h]
theorem err_fine {S : Rs} (e : Int) (h : ¬ far S) : errOf S e = e := by unfold errOf; rw [if_neg h]
def bytesIf (S : Rs) (b : List UInt8) : List UInt8 := if far S then [] else b
theorem bytes_far {S : Rs} (e : List UInt8) (h : far S) : bytesIf S e = [] := by unfold bytesIf; rw [if_pos h]
theorem bytes_fine {S : Rs} (e : List UInt8) (h : ¬ far S) : bytesIf S e = e := by unfold bytesIf; rw [if_neg h]

section
variable {B pb mb : Nat} {sv : Value} {S : Rs} {w : World} {n b : List UInt8} (h : Rk B w pb mb sv S) (hn : n.length ≤ maxLen) (hc : S.n < 1000000000000)
include h hn hc
theorem call_put (hf : S.obs.length < 1000000000) : Calls Try.prog 21 #[.pointer (some ⟨pb, 0, none⟩), .func (.func 22) #[.pointer (some ⟨pb, 0, none⟩)] #[], .string (bs n), .string (bs b)] w
    (effPost B pb mb sv w (takes S (lays S.obs n b)) [] (errOf S 0)) := by
  rcases fate_three S with hk | hk | hk
  · rw [takes_lost _ hk, err_far _ (Or.inl hk)]; exact call_put_lost h hn hf hc hk
  · rw [takes_other _ (by omega), err_far _ (Or.inr hk)]; exact call_put_late h hn hf hc hk
  · rw [takes_other _ hk.1, err_fine _ (by unfold far; omega)]; exact call_put_fine h hn hf hc hk
theorem call_putNew (hf : S.obs.length < 1000000000) : Calls Try.prog 21 #[.pointer (some ⟨pb, 0, none⟩), .func (.func 25) #[.pointer (some ⟨pb, 0, none⟩)] #[], .string (bs n), .string (bs b)] w
    (effPost B pb mb sv w (takes S (newL S.obs n b)) [] (errOf S (newE S.obs n))) := by
  rcases fate_three S with hk | hk | hk
  · rw [takes_lost _ hk, err_far _ (Or.inl hk)]; exact call_putNew_lost h hn hf hc hk
  · rw [takes_other _ (by omega), err_far _ (Or.inr hk)]; exact call_putNew_late h hn hf hc hk
  · rw [takes_other _ hk.1, err_fine _ (by unfold far; omega)]; exact call_putNew_fine h hn hf hc hk
theorem call_get : Calls Try.prog 21 #[.pointer (some ⟨pb, 0, none⟩), .func (.func 27) #[.pointer (some ⟨pb, 0, none⟩)] #[], .string (bs n), .string (bs b)] w
    (effPost B pb mb sv w (used S) (bytesIf S (getB S.obs n)) (errOf S (getE S.obs n))) := by
  rcases fate_three S with hk | hk | hk
  · rw [err_far _ (Or.inl hk), bytes_far _ (Or.inl hk)]; exact call_get_lost h hn hc hk
  · rw [err_far _ (Or.inr hk), bytes_far _ (Or.inr hk)]; exact call_get_late h hn hc hk
  · rw [err_fine _ (by unfold far; omega), bytes_fine _ (by unfold far; omega)]; exact call_get_fine h hn hc hk
theorem call_remove : Calls Try.prog 21 #[.pointer (some ⟨pb, 0, none⟩), .func (.func 28) #[.pointer (some ⟨pb, 0, none⟩)] #[], .string (bs n), .string (bs b)] w
    (effPost B pb mb sv w (takes S (wo Ob.nm S.obs n)) [] (errOf S 0)) := by
  rcases fate_three S with hk | hk | hk
  · rw [takes_lost _ hk, err_far _ (Or.inl hk)]; exact call_remove_lost h hn hc hk
  · rw [takes_other _ (by omega), err_far _ (Or.inr hk)]; exact call_remove_late h hn hc hk
  · rw [takes_other _ hk.1, err_fine _ (by unfold far; omega)]; exact call_remove_fine h hn hc hk
end

theorem cellsB : Try.prog.cellsOf 9 = 1 := by kernel_rfl
theorem cellsN : Try.prog.cellsOf 38 = 1 := by kernel_rfl
theorem cellsE : Try.prog.cellsOf 33 = 1 := by kernel_rfl
theorem errField (x : ByteArray) (a : Option Addr) (n c : Nat) (z : Int) (w : World) : (Instr.field 50 (.agg #[.string x, .slice a n c, .int .i64 z]) 2).run Try.prog w = .ok (.int .i64 z) w := by kernel_rfl

section
variable {B pb : Nat} {S : Rs} {w : World} {F : Nat → Prop} {n b : List UInt8} (h : RkS B w pb F S) (hn : n.length ≤ maxLen) (hc : S.n < 1000000000000)
include h hn hc

theorem put_m (hf : S.obs.length < 1000000000) : Calls Try.prog 8 #[.pointer (some ⟨pb, 0, none⟩), .string (bs n), .string (bs b)] w (RkPost B pb F (takes S (lays S.obs n b)) (.int .i64 (errOf S 0)) w) := by
  refine h.step (fun mb sv hr => ?_)
  have hmf : ∀ (fn : Fn) (first cap : Array Value) (w : World), (Instr.makeFunc fn first cap).run Try.prog w = .ok (.func fn first cap) w := fun _ _ _ _ => rfl
  have hef := errField
  have HC := Lib.hid (call_put (b := b) hr hn hc hf)
  clear h hr
  go_enter Try.func8, Try.ntmps8
  go_wp2_with fail
  refine HC.out.mono ?_
  rintro e w' ⟨rfl, hs⟩
  unfold answ
  go_wp2_with fail
  go_ret
  exact ⟨rfl, hs⟩

theorem putNew_m (hf : S.obs.length < 1000000000) : Calls Try.prog 10 #[.pointer (some ⟨pb, 0, none⟩), .string (bs n), .string (bs b)] w (RkPost B pb F (takes S (newL S.obs n b)) (.int .i64 (errOf S (newE S.obs n))) w) := by
  refine h.step (fun mb sv hr => ?_)
  have hmf : ∀ (fn : Fn) (first cap : Array Value) (w : World), (Instr.makeFunc fn first cap).run Try.prog w = .ok (.func fn first cap) w := fun _ _ _ _ => rfl
  have hef := errField
  have HC := Lib.hid (call_putNew (b := b) hr hn hc hf)
  clear h hr
  go_enter Try.func10, Try.ntmps10
  go_wp2_with fail
  refine HC.out.mono ?_
  rintro e w' ⟨rfl, hs⟩
  unfold answ
  go_wp2_with fail
  go_ret
  exact ⟨rfl, hs⟩

theorem delete_m : Calls Try.prog 14 #[.pointer (some ⟨pb, 0, none⟩), .string (bs n)] w (RkPost B pb F (takes S (wo Ob.nm S.obs n)) (.int .i64 (errOf S 0)) w) := by
  refine h.step (fun mb sv hr => ?_)
  have hmf : ∀ (fn : Fn) (first cap : Array Value) (w : World), (Instr.makeFunc fn first cap).run Try.prog w = .ok (.func fn first cap) w := fun _ _ _ _ => rfl
  have hef := errField
  have HC := Lib.hid (call_remove (b := []) hr hn hc)
  clear h hr
  go_enter Try.func14, Try.ntmps14
  go_wp2_with fail
  refine HC.out.mono ?_
  rintro e w' ⟨rfl, hs⟩
  unfold answ
  go_wp2_with fail
  go_ret
  exact ⟨rfl, hs⟩

theorem get_m : Calls Try.prog 12 #[.pointer (some ⟨pb, 0, none⟩), .string (bs n)] w (RkPost B pb F (used S) (.tuple #[.string (bs (bytesIf S (getB S.obs n))), .int .i64 (errOf S (getE S.obs n))]) w) := by
  refine h.step (fun mb sv hr => ?_)
  have hmf : ∀ (fn : Fn) (first cap : Array Value) (w : World), (Instr.makeFunc fn first cap).run Try.prog w = .ok (.func fn first cap) w := fun _ _ _ _ => rfl
  have hef := errField
  have HC := Lib.hid (call_get (b := []) hr hn hc)
  clear h hr
  go_enter Try.func12, Try.ntmps12
  go_wp2_with fail
  refine HC.out.mono ?_
  rintro e w' ⟨rfl, hs⟩
  unfold answ
  go_wp2_with fail
  go_region
  go_wp2
  go_ret2
  exact ⟨rfl, hs.later (((Below.refl _ w').alloc (Nat.le_refl _) _).trans ⟨rfl, rfl, rfl, Nat.le_refl _, fun _ _ => rfl⟩)⟩
end
end Go.Proofs.Ytadfajeiihonfaa
