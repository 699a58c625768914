/- call, with each of the effects. -/
import Derived.Test.YtadfajeiihonfaaMput
namespace Go.Proofs.Ytadfajeiihonfaa
open Go.RowKit Go.Maps
set_option linter.unusedVariables false

def counted (S : Rs) : Rs := { S with n := S.n + 1 }
theorem ok_counted {S : Rs} (h : Ok S) (hn : S.n < 1000000000000) : Ok (counted S) := { h with calls := ⟨by have := h.calls; show 0 ≤ S.n + 1; omega, by show S.n + 1 ≤ _; omega⟩ }

/-- The count has been raised. -/
theorem Rk.count {B pb mb : Nat} {sv : Value} {S : Rs} {w : World} (h : Rk B w pb mb sv S) (hn : S.n < 1000000000000) : RkStep B pb mb sv w (counted S) (w.setCell ⟨pb, 2, none⟩ (.int .i64 (S.n + 1))) := by
  have t := turn_head w pb 2 (.int .i64 (S.n + 1))
  refine ⟨sv, h.head (sc' := S.sc) (n' := S.n + 1) t (h.setAt 2 _) (h.script.kept (by simp [World.setCell]) (fun k off n c hk e => t.block k hk (fun ek => ?_))) (ok_counted h.ok hn), fun _ hk => Or.inl hk, t.mono (fun k _ e => Or.inl e)⟩
  obtain ⟨_, _, e', _, _, _, hA⟩ := h.script
  rw [e'] at e
  injection e with e1
  obtain ⟨g, o, eA, _, _, hp, _⟩ := hA _ e1
  injection eA with eg
  exact hp (eg ▸ ek)

theorem counted_used (S : Rs) : ({ counted S with sc := (counted S).sc.tail } : Rs) = used S := rfl
theorem fate_counted (S : Rs) : fateOf (counted S) = fateOf S := rfl
theorem ok_used {S : Rs} (h : Ok S) (hn : S.n < 1000000000000) : Ok (used S) := ok_tail (ok_counted h hn)
end Go.Proofs.Ytadfajeiihonfaa
