/- What the small functions of the laws of layer 8 return: ints; Light of one batch. -/
import Derived.Test.YtmekkbhblghbmaaGreatDoorSref7
import Derived.Test.YtmekkbhblghbmaaGreatDoorFb
import Derived.Deep.QuietTactic
import Derived.BigQuiet
namespace Go.Proofs.YtmekkbhblghbmaaGreatDoor
open Go.RowKit
set_option linter.unusedVariables false

theorem intsV_at (l : List Int) (i : Nat) (y : Int) (h : l[i]? = some y) : (intsV l)[i]? = some (.int .i64 y) := by simp [intsV, h]

theorem ints8_same {w : World} {Ba Bb : Nat} {a b : Option Addr} {ca cb : Nat} {ns : List Int} (ha : w.ownsRow Ba 3 1 (.slice a ns.length ca) ns.length (intsV ns)) (hb : w.ownsRow Bb 3 1 (.slice b ns.length cb) ns.length (intsV ns)) (hn : ns.length < 1000000000) :
    Calls Tryz.prog 41 #[.slice a ns.length ca, .slice b ns.length cb] w fun e w' => e = .returned (.bool true) ∧ Below w.heap.size w w' := by
  obtain ⟨L, hL⟩ : ∃ L, L = ns.length := ⟨_, rfl⟩
  rw [← hL] at ha hb hn ⊢
  have HL := Lib.hid hL; have HA := Lib.hid ha; have HB := Lib.hid hb
  clear hL ha hb
  go_enter Tryz.func41, Tryz.ntmps41
  go_wp2
  go_loopg [5] L (fun g it wr => ∃ (i q : Nat), i + g = L ∧ it = .int .i64 i ∧ wr = w.drewN q)
  case atStart => exact ⟨0, 0, by omega, rfl, rfl⟩
  case round =>
    obtain ⟨i, q, hi, rfl, rfl⟩ := hrel
    by_cases hlt : i < L
    · obtain ⟨n, hn'⟩ : ∃ n, ns[i]? = some n := ⟨ns[i]'(by have := HL.out; omega), List.getElem?_eq_getElem _⟩
      have hcell : ∀ {B : Nat} {a : Option Addr} {c : Nat}, w.ownsRow B 3 1 (.slice a L c) L (intsV ns) → ∃ g, a = some ⟨g, 0, none⟩ ∧ w.cell? ⟨g, i, none⟩ = some (.int .i64 n) := by
        intro B a c h
        rcases owns_cases h with ⟨_, h0, _⟩ | ⟨g, cap', cur, hv, _, _, _, _, _, _, _, _, hce, _⟩
        · omega
        · injection hv with e1 e2 e3
          exact ⟨g, e1, by rw [hce i hlt, intsV_at ns i n hn']⟩
      obtain ⟨ga, hga, da⟩ := hcell HA.out
      obtain ⟨gb, hgb, db⟩ := hcell HB.out
      subst hga hgb
      clear hcell hn'
      go_wp2
      go_quiet (fail)
      go_wp2
      go_roundg (gk - 1)
      case measure => omega
      case rel => exact ⟨i + 1, _, by omega, by go_num, rfl⟩
    · obtain rfl : i = L := by omega
      go_wp2
      go_ret
      exact ⟨rfl, ⟨rfl, rfl, rfl, Nat.le_refl _, fun _ _ => rfl⟩⟩

/-- Light of one batch that lies in a slice of its own. -/
theorem light8_any {w : World} {l : List Rc} {la : Option Addr} {lc g : Nat} (hg : w.heap[g]? = some (.cells #[.slice la l.length lc] 31 (0, 0))) (hr : Recs w la l) (hl : l.length ≤ 9223372036854775807) (hf : Fits l) :
    Calls Tryz.prog 10 #[.slice (some ⟨g, 0, none⟩) 1 1] w fun e w' => ∃ b : Bool, e = .returned (.bool b) ∧ (b = true → l.length ≤ 40) ∧ Below w.heap.size w w' := by
  have hb : Bats w (some ⟨g, 0, none⟩) [l] := fun _ => ⟨g, 0, rfl, (Array.getElem?_eq_some_iff.1 hg).1, fun i hi => by
    have h0 : i = 0 := by simpa using hi
    subst h0
    exact ⟨la, lc, by rw [Nat.add_zero, cell_of_row w g 0 _ _ (0, 0) hg]; rfl, hr⟩⟩
  have h2 : Fits2 [l] := fun x hx => by rw [List.mem_singleton] at hx; subst hx; exact ⟨hf, hl⟩
  refine (light2_any [l] (some ⟨g, 0, none⟩) 1 w (by simp) hb h2).mono ?_
  rintro e w' ⟨b, rfl, h1, h3⟩
  exact ⟨b, rfl, fun hb => (h1 hb).2 l (by simp), h3⟩
end Go.Proofs.YtmekkbhblghbmaaGreatDoor
