/- The set of the numbers that a manifest lists, and whether a name is obsolete. -/
import Derived.Test.YtkdidinekoaobaaGreatDoorPpnumber
import Derived.Test.YtkdidinekoaobaaGreatDoorPplatest
import Derived.Maps.OwnSet
namespace Go.Proofs.YtkdidinekoaobaaGreatDoor.P
open Go.RowKit Go.Maps M J
set_option linter.unusedVariables false
set_option linter.unusedSimpArgs false

theorem intKeyS : Keyed Tryz.prog 3 := int_keyed Tryz.underlying3
theorem zeroUnit (w : World) : (zeroValue 101).run Tryz.prog w = .ok (.agg #[]) w := by kernel_rfl
theorem intLit {k : Int} (h : i64 k) : keyOf Tryz.prog 3 (.int .i64 k) = some (.int .i64 k) := keyOf_int_mk Tryz.underlying3 (by simp [Lit.wf]; exact h)
/-- A set of numbers: n puts have made it. -/
def ISet (w : World) (mb n : Nat) (ks : List Int) : Prop := ∃ D : DataW Unit, w.ownsMap Tryz.prog 3 unitElem mb n D ∧ ∀ k : Int, Maps.has D (.int .i64 k) = decide (k ∈ ks)
theorem ISet.made (w : World) : ISet (w.alloc (.map #[] 0)) w.heap.size 0 [] := ⟨.map [], World.ownsMap_made w _ _ _, fun k => by simp [Maps.has]⟩
theorem ISet.kept {w w' : World} {mb n : Nat} {ks : List Int} (h : ISet w mb n ks) (hk : w'.heap[mb]? = w.heap[mb]?) : ISet w' mb n ks := by
  obtain ⟨D, ⟨es, clock, hb, r⟩, r2⟩ := h
  exact ⟨D, ⟨es, clock, by rw [hk]; exact hb, r⟩, r2⟩
theorem ISet.lt {w : World} {mb n : Nat} {ks : List Int} (h : ISet w mb n ks) : mb < w.heap.size := by
  obtain ⟨D, h, _⟩ := h
  exact h.lt
theorem int_key (n : Int) : WideAt.IsKeyLit (.int .i64 n) := trivial
theorem ISet.put {w w' : World} {mb n : Nat} {ks : List Int} {k : Int} {D : DataW Unit} (hD : w.ownsMap Tryz.prog 3 unitElem mb n D) (h2 : ∀ k : Int, Maps.has D (.int .i64 k) = decide (k ∈ ks)) (ho : w'.ownsMap Tryz.prog 3 unitElem mb (n + 1) (D.put (.int .i64 k) (.agg []))) : ISet w' mb (n + 1) (ks ++ [k]) :=
  ⟨_, ho, fun j => by
    by_cases e : j = k
    · subst e
      rw [has_put_same hD.isMap (int_key _)]
      simp
    · rw [has_put_other (fun e2 => e (by injection e2)), h2]
      simp [e]⟩

/-- What the closure sees. -/
structure Seen (W : World) (mx lx mb : Nat) (ver : Int) (v1 : Value) (n : Nat) (ks : List Int) : Prop where
  mx : W.heap[mx]? = some (.cells #[.int .i64 ver, v1] 33 (0, 0))
  lx : W.heap[lx]? = some (.cells #[.map (some mb)] 100 (0, 0))
  set : ISet W mb n ks
theorem Seen.later {W W' : World} {mx lx mb : Nat} {ver : Int} {v1 : Value} {n : Nat} {ks : List Int} (h : Seen W mx lx mb ver v1 n ks) (hb : Below W.heap.size W W') : Seen W' mx lx mb ver v1 n ks :=
  ⟨(hb.block _ (Array.getElem?_eq_some_iff.1 h.mx).1).trans h.mx, (hb.block _ (Array.getElem?_eq_some_iff.1 h.lx).1).trans h.lx, h.set.kept (hb.block _ h.set.lt)⟩
theorem pn_range (s : List UInt8) : 0 ≤ (pn s).1 ∧ (pn s).1 ≤ 999999 := by
  have := on_range s
  unfold pn
  split
  · exact ⟨by simp, by simp⟩
  · show 0 ≤ onum s ∧ onum s ≤ 999999
    omega
theorem ver_not_ob {s : List UInt8} (h : (vr s).2 = true) : onum s = -1 := on_no (fun k h1 h2 => by
  have e := nm_vr h
  have hr := vr_range h
  rw [nm_yes hr, ← h2, ob_yes h1] at e
  injection e with e
  cases e)

set_option maxRecDepth 100000 in
set_option maxHeartbeats 1000000 in
theorem obs_any {W : World} {mx lx mb n : Nat} {v1 : Value} {m : Mf} {ks : List Int} {s : List UInt8} (h : Seen W mx lx mb m.ver v1 n ks) (hks : ∀ k, k ∈ ks ↔ ∃ x ∈ m.segs, x.n = k) (hV : Vt W) (hs : s.length ≤ 1000) :
    Calls Tryz.prog 56 (#[.string (bs s)] ++ #[.pointer (some ⟨mx, 0, none⟩), .pointer (some ⟨lx, 0, none⟩)]) W fun e w' => e = .returned (.bool (isOld m s)) ∧ Below W.heap.size W w' := by
  have HVER := Lib.hid (manC.ver (s := s) hV hs)
  have HSN := Lib.hid (fun W2 (hb : Below W.heap.size W W2) => h.later hb)
  have HNU := Lib.hid (fun W2 (hb : Below W.heap.size W W2) => pnumber_any s W2 (hV.later hb) hs)
  by_cases hv : (vr s).2 = true
  · have hon := ver_not_ob hv
    have hrng := vr_range hv
    have hio : isOld m s = decide ((vr s).1 + 1 < m.ver) := by
      rw [Bool.eq_iff_iff, isOld_iff, old_iff, decide_eq_true_iff, hon]
      constructor
      · rintro (h | h)
        · exact h.2
        · exact absurd h.1 (by decide)
      · exact fun h => Or.inl ⟨hv, h⟩
    rw [hio]
    rw [hv] at HVER
    have hw : IntKind.i64.wrap ((vr s).1 + 1) = (vr s).1 + 1 := IntWalk.i64_in _ ⟨by omega, by omega⟩
    generalize (vr s).1 = v at *
    generalize m.ver = mv at *
    clear h hks hV hon hio hv hs HNU hrng
    generalize bs s = X at *
    go_enter Tryz.func56, Tryz.ntmps56
    go_wp2_with fail
    refine HVER.out.mono ?_
    rintro e w2 ⟨rfl, b2⟩
    have d0 := (two_cells (HSN.out _ b2).mx).1
    have HB := Lib.hid b2
    clear b2
    go_wp2_with fail
    go_ret
    exact ⟨rfl, HB.out⟩
  · have hv : (vr s).2 = false := by simpa using hv
    have hpn := pn_range s
    have hio : isOld m s = ((pn s).2 && !decide ((pn s).1 ∈ ks)) := by
      rw [Bool.eq_iff_iff, isOld_iff, old_iff, hv, Bool.and_eq_true, Bool.not_eq_true', decide_eq_false_iff_not, hks]
      unfold pn
      by_cases ho : onum s = -1
      · rw [if_pos ho, ho]
        simp
      · rw [if_neg ho]
        have := on_range s
        simp only [Bool.false_eq_true, false_and, false_or, true_and, not_exists, not_and]
        exact ⟨fun h x hx e => h.2 x hx e, fun h => ⟨by omega, fun x hx e => h x hx e⟩⟩
    rw [hio]
    rw [hv] at HVER
    obtain ⟨D0, hD0, hD1⟩ := h.set
    have hkey := intLit (k := (pn s).1) (by unfold i64; omega)
    clear hpn hio hv hs hV hks
    generalize pn s = PN at *
    obtain ⟨k, ok⟩ := PN
    simp only at hkey HNU ⊢
    generalize (vr s).1 = v at *
    generalize bs s = X at *
    have hh := hD1 k
    generalize decide (k ∈ ks) = y at *
    clear hD1
    go_enter Tryz.func56, Tryz.ntmps56
    go_wp2_with fail
    refine HVER.out.mono ?_
    rintro e w2 ⟨rfl, b2⟩
    go_wp2_with fail
    refine (HNU.out _ b2).mono ?_
    rintro e w3 ⟨rfl, b3⟩
    have b4 := b2.trans (b3.mono b2.size)
    have S4 := HSN.out _ b4
    have d0 : w3.cell? ⟨lx, 0, none⟩ = some (.map (some mb)) := by rw [cell_of_row w3 lx 0 _ _ (0, 0) S4.lx]; rfl
    have hown : w3.ownsMap Tryz.prog 3 unitElem mb n D0 := by
      obtain ⟨es, clock, hb, r⟩ := hD0
      exact ⟨es, clock, (b4.block _ h.set.lt).trans hb, r⟩
    have HB := Lib.hid (b4.alloc b4.size (.cells #[] 101))
    clear S4 b2 b3 b4 HVER HNU
    cases ok <;> cases y
    all_goals
      go_wp2_with (first
        | (at_lookup; refine wpList_lookup_own_unit _ rfl _ _ 100 rfl 3 101 intKeyS Tryz.underlying100 (zeroUnit _) mb n _ rfl hown _ _ rfl hkey ?_; rw [hh])
        | fail)
      go_ret
      exact ⟨rfl, HB.out⟩
end Go.Proofs.YtkdidinekoaobaaGreatDoor.P
