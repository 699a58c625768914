/- Slices of lists as they are handed on in the laws: appended to one another, and read as arguments. -/
import Derived.Test.YtfcfleeiffmjdaaGwant
namespace Go.Proofs.Ytfcfleeiffmjdaa.G
open Go.RowKit Go.Joins Go.ChangeShapes Go.WideShapes Go.Deep
set_option linter.unusedVariables false
set_option linter.unusedSimpArgs false

/-- The slices of lists, each with its room. -/
def Rows4 (w : World) (vs : List Value) (ll : List (List Rc)) : Prop := vs.length = ll.length ∧ ∀ i (h : i < ll.length), ∃ a cap, vs[i]? = some (.slice a ll[i].length cap) ∧ ll[i].length ≤ cap ∧ cap ≤ maxLen ∧ Recs w a ll[i]
theorem Rows4.nil (w : World) : Rows4 w [] [] := ⟨rfl, fun i h => by simp at h⟩
theorem Rows4.one {w : World} {a : Option Addr} {cap : Nat} {l : List Rc} (hc : l.length ≤ cap) (hm : cap ≤ maxLen) (hr : Recs w a l) : Rows4 w [.slice a l.length cap] [l] :=
  ⟨rfl, fun i h => by
    have : i = 0 := by simp at h; omega
    subst this
    exact ⟨a, cap, rfl, hc, hm, hr⟩⟩
theorem Rows4.later {w w' : World} {vs : List Value} {ll : List (List Rc)} (h : Rows4 w vs ll) (hb : Below w.heap.size w w') : Rows4 w' vs ll :=
  ⟨h.1, fun i hi => by obtain ⟨a, cap, h1, h2, h3, h4⟩ := h.2 i hi; exact ⟨a, cap, h1, h2, h3, h4.later hb (Nat.le_refl _)⟩⟩
theorem Rows4.append {w : World} {vs us : List Value} {ll mm : List (List Rc)} (h : Rows4 w vs ll) (k : Rows4 w us mm) : Rows4 w (vs ++ us) (ll ++ mm) := by
  refine ⟨by rw [List.length_append, List.length_append, h.1, k.1], fun i hi => ?_⟩
  by_cases e : i < ll.length
  · obtain ⟨a, cap, h1, h2, h3, h4⟩ := h.2 i e
    have e1 : (ll ++ mm)[i] = ll[i] := List.getElem_append_left e
    rw [e1]
    exact ⟨a, cap, by rw [List.getElem?_append_left (by rw [h.1]; exact e)]; exact h1, h2, h3, h4⟩
  · rw [List.length_append] at hi
    obtain ⟨a, cap, h1, h2, h3, h4⟩ := k.2 (i - ll.length) (by omega)
    have e1 : (ll ++ mm)[i]'(by rw [List.length_append]; exact hi) = mm[i - ll.length]'(by omega) := List.getElem_append_right (by omega)
    rw [e1]
    exact ⟨a, cap, by rw [List.getElem?_append_right (by rw [h.1]; omega), h.1]; exact h1, h2, h3, h4⟩
/-- The slices of an argument. -/
theorem Lst.rows {w : World} {a : Option Addr} {cap : Nat} {ll : List (List Rc)} (h : Lst w a cap ll) : ∃ vs, Rows4 w vs ll ∧ ∀ W, Old w W → Src Try.prog 1 22 (.slice a ll.length cap) ll.length vs W := by
  by_cases h0 : ll = []
  · subst h0
    refine ⟨[], Rows4.nil w, fun W _ => ?_⟩
    cases a with
    | none => exact Src.ofNil W Try.underlying22 cap
    | some A => exact Src.ofSlice W Try.underlying22 A 0 cap [] rfl (fun j u hu => by simp at hu) (fun u hu => by simp at hu)
  · have hp : 0 < ll.length := List.length_pos_iff.2 h0
    obtain ⟨b, off, rfl, hb, _⟩ := h.1 0 hp
    have hcell : ∀ i (hi : i < ll.length), ∃ a' cap', w.cell? ⟨b, off + i, none⟩ = some (.slice a' ll[i].length cap') ∧ ll[i].length ≤ cap' ∧ cap' ≤ maxLen ∧ Recs w a' ll[i] := fun i hi => by
      obtain ⟨b', off', e, _, r⟩ := h.1 i hi
      cases e
      exact r
    refine ⟨(List.range ll.length).map (fun i => (w.cell? ⟨b, off + i, none⟩).getD undef), ⟨by simp, fun i hi => ?_⟩, fun W hW => ?_⟩
    · obtain ⟨a', cap', h1, h2, h3, h4⟩ := hcell i hi
      exact ⟨a', cap', by simp [hi, h1], h2, h3, h4⟩
    · refine Src.ofSlice W Try.underlying22 ⟨b, off, none⟩ _ _ _ (by simp) (fun j u hu => ?_) (fun u hu => ?_)
      · have hj : j < ll.length := by have := (List.getElem?_eq_some_iff.1 hu).1; simpa using this
        obtain ⟨a', cap', h1, _⟩ := hcell j hj
        simp [hj, h1] at hu
        subst hu
        rw [Addr.add_lit]
        exact (Below.cell (p := ⟨b, off + j, none⟩) hW hb).trans h1
      · simp only [List.mem_map, List.mem_range] at hu
        obtain ⟨j, hj, rfl⟩ := hu
        obtain ⟨a', cap', h1, _⟩ := hcell j hj
        rw [h1]
        rfl
/-- A row of lists as an argument. -/
theorem lst_of {w : World} {B n : Nat} {v : Value} {vs : List Value} {ll : List (List Rc)} (h : w.ownsRow B 25 1 v n vs) (hn : n = ll.length) (hr : Rows4 w vs ll) : ∃ a c, v = .slice a ll.length c ∧ Lst w a c ll := by
  subst hn
  have hl := h.lt
  have hc := fun g hg => h.cells (g := g) hg
  rcases h.2 with ⟨rfl, h0⟩ | ⟨g, cap, cur, rfl, hbg, hg, h1, h2, _⟩
  · exact ⟨none, 0, by rw [h0], fun i hi => by omega, by omega, by unfold maxLen; omega, fun _ => rfl⟩
  · refine ⟨_, cap, rfl, fun i hi => ⟨g, 0, rfl, (hl g rfl).2, ?_⟩, h1, h2, fun e => by cases e⟩
    obtain ⟨a', cap', k1, k2, k3, k4⟩ := hr.2 i hi
    have := hc g rfl i _ k1
    rw [show (⟨g, 0, none⟩ : Addr).add i = ⟨g, 0 + i, none⟩ from by simp [Addr.add]; try omega] at this
    exact ⟨a', cap', this, k2, k3, k4⟩
theorem none_list {W : World} {B lb : Nat} (hB : B ≤ lb) (h : W.heap[lb]? = some (.cells #[] 25 (0, 0))) : W.ownsRow B 25 1 (.slice (some ⟨lb, 0, none⟩) 0 0) 0 [] :=
  ⟨rfl, Or.inr ⟨lb, 0, #[], rfl, hB, h, Nat.le_refl _, by unfold maxLen; omega, rfl, rfl⟩⟩
theorem one_list {W : World} {B lb : Nat} {v : Value} (hB : B ≤ lb) (h : W.heap[lb]? = some (.cells #[v] 25 (0, 0))) : W.ownsRow B 25 1 (.slice (some ⟨lb, 0, none⟩) 1 1) 1 [v] :=
  ⟨rfl, Or.inr ⟨lb, 1, #[v], rfl, hB, h, Nat.le_refl _, by unfold maxLen; omega, rfl, rfl⟩⟩
/-- A slice of records as a source. -/
theorem src_slice {W : World} {a : Option Addr} {cap : Nat} {l : List Rc} (h : Recs W a l) (h0 : 0 < l.length) : Src Try.prog 4 25 (.slice a l.length cap) l.length (flat l) W := by
  obtain ⟨b, off, rfl, hb, hc⟩ := h h0
  refine Src.ofSlice W Try.underlying25 ⟨b, off, none⟩ _ _ _ (flat_len l) (fun j u hu => ?_) (flat_one l)
  have hj : j < l.length * 4 := by rw [← flat_len]; exact (List.getElem?_eq_some_iff.1 hu).1
  obtain ⟨q, m, h4, rfl⟩ : ∃ q m, m < 4 ∧ j = q * 4 + m := ⟨j / 4, j % 4, by omega, by omega⟩
  obtain ⟨f0, f1, f2, f3⟩ := flat_get l q (by omega)
  obtain ⟨c0, c1, c2, c3⟩ := hc q (by omega)
  rw [Addr.add_lit]
  rcases (show m = 0 ∨ m = 1 ∨ m = 2 ∨ m = 3 by omega) with rfl | rfl | rfl | rfl
  · rw [Nat.add_zero] at hu ⊢; rw [f0] at hu; cases hu; exact c0
  · rw [f1] at hu; cases hu; exact c1
  · rw [f2] at hu; cases hu; exact c2
  · rw [f3] at hu; cases hu; exact c3

/-- What is handed to the laws. -/
structure Inp (w : World) (a : Option Addr) (cap : Nat) (ll : List (List Rc)) : Prop where
  lst : Lst w a cap ll
  came : Came2 ll
  len : ll.length ≤ maxLen
theorem room_of {ll : List (List Rc)} (h1 : ll.length ≤ 60) (h2 : ∀ l ∈ ll, l.length ≤ 1000) : Room ll := by
  refine ⟨by omega, fun l hl => by have := h2 l hl; omega, ?_⟩
  have h : ∀ (m : List (List Rc)), (∀ l ∈ m, l.length ≤ 1000) → m.flatten.length ≤ m.length * 1000 := by
    intro m
    induction m with
    | nil => intro _; simp
    | cons x m ih =>
      intro hm
      have := ih (fun l hl => hm l (List.mem_cons_of_mem _ hl))
      have hx := hm x (List.mem_cons_self ..)
      rw [List.flatten_cons, List.length_append, List.length_cons]
      omega
  have := h ll h2
  omega
theorem came_flat {ll : List (List Rc)} (h : Came2 ll) : ∀ r ∈ ll.flatten, Came r := fun r hr => by
  obtain ⟨l, hl, hrl⟩ := List.mem_flatten.1 hr
  exact (h l hl).2 r hrl

set_option maxRecDepth 100000 in
theorem light_law {ll : List (List Rc)} {a : Option Addr} {cap : Nat} {w : World} (h : Inp w a cap ll) :
    Calls Try.prog 8 #[.slice a ll.length cap] w (Light2Post w ll) := by
  have hl : ll.length ≤ 9223372036854775807 := by have := h.len; unfold maxLen at this; omega
  have H := Lib.hid (light2_any ll a cap w hl h.lst.1.bats (fun l hl => Came2.fits h.came l hl))
  clear h hl
  go_enter Try.func8, Try.ntmps8
  go_wp2_with fail
  refine H.out.mono ?_
  rintro e w1 ⟨b, rfl, h40, hb⟩
  have H1 := Lib.hid (And.intro h40 hb)
  clear h40 hb
  go_wp2_with fail
  go_ret
  exact ⟨b, rfl, H1.out.1, H1.out.2⟩

section
variable {H : Type} {enc : TypeId × Value → H}
/-- A slice of records that came in, with its room. -/
theorem open_recsK {W : World} {t : TypeId} (ht : Try.prog.underlying t = some (.slice 35)) {a : Option Addr} {len cap : Nat} {d : DataW H} {p : List MemPlace}
    (h : DataW.Trod enc Try.prog W 0 (fun _ => true) true t (.slice a len cap) d p) : ∃ l : List Rc, l.length = len ∧ len ≤ maxLen ∧ (Recs W a l ∧ len ≤ cap ∧ cap ≤ maxLen) ∧ ∀ r ∈ l, Came r := by
  obtain ⟨l, h1, h2, h3, h4⟩ := open_recs ht h
  refine ⟨l, h1, h2, ⟨h3, ?_⟩, h4⟩
  obtain ⟨fuel, hf⟩ := h
  rcases open_slice ht hf with ⟨hcs, _⟩ | ⟨x, l', c, m, n, D, Pl, hcs, _, hl, hm, _⟩
  · simp [Value.cells] at hcs
    obtain ⟨rfl, rfl, rfl⟩ := hcs
    exact ⟨Nat.le_refl _, by unfold maxLen; omega⟩
  · simp [Value.cells] at hcs
    obtain ⟨rfl, rfl, rfl⟩ := hcs
    exact ⟨hl, hm⟩
/-- A slice of lists that came in. -/
theorem open_inp {W : World} {t : TypeId} (ht : Try.prog.underlying t = some (.slice 25)) {a : Option Addr} {len cap : Nat} {d : DataW H} {p : List MemPlace}
    (h : DataW.Trod enc Try.prog W 0 (fun _ => true) true t (.slice a len cap) d p) : ∃ ll : List (List Rc), ll.length = len ∧ len ≤ maxLen ∧ Inp W a cap ll ∧ True := by
  obtain ⟨fuel, hf⟩ := h
  rcases open_slice ht hf with ⟨hcs, _⟩ | ⟨x, l, c, m, n, D, Pl, hcs, _, hl, hm, hmm, hx, hi⟩
  · simp [Value.cells] at hcs
    obtain ⟨rfl, rfl, rfl⟩ := hcs
    exact ⟨[], rfl, by unfold maxLen; omega, ⟨⟨fun i h => by simp at h, by simp, by unfold maxLen; omega, fun _ => rfl⟩, fun r hr => by simp at hr, by simp⟩, trivial⟩
  · simp [Value.cells] at hcs
    obtain ⟨rfl, rfl, rfl⟩ := hcs
    simp only [if_true] at hmm
    subst hmm
    rw [cellsRecs] at hi
    have hex : ∀ i, i < len → ∃ l : List Rc, (∃ a' cap', W.cell? (x.add i) = some (.slice a' l.length cap') ∧ l.length ≤ cap' ∧ cap' ≤ maxLen ∧ Recs W a' l) ∧ l.length ≤ maxLen ∧ ∀ r ∈ l, Came r := fun i hil => by
      obtain ⟨cs, hc, hd⟩ := hi i (by omega)
      obtain ⟨_, hl1, hat⟩ := World.cells?_some hc
      obtain ⟨v, rfl⟩ : ∃ v, cs = [v] := by
        match cs, hl1 with
        | [v], _ => exact ⟨v, rfl⟩
      have h0 := hat 0 (by omega)
      simp only [Nat.mul_one] at h0
      have hz : (x.add i).add 0 = x.add i := by simp [Addr.add]
      rw [hz] at h0
      have hv : ∃ a' n' c', v = .slice a' n' c' := by
        rcases open_slice Try.underlying25 hd with ⟨e, _⟩ | ⟨y, l', c', m', n', D', Pl', e, _⟩
        · simp at e; exact ⟨_, _, _, e⟩
        · simp at e; exact ⟨_, _, _, e⟩
      obtain ⟨a', n', c', rfl⟩ := hv
      obtain ⟨l, rfl, hlm, ⟨hrec, hk1, hk2⟩, hcame⟩ := open_recsK (enc := enc) (W := W) Try.underlying25 (a := a') (len := n') (cap := c') ⟨n, by simpa [Value.cells] using hd⟩
      exact ⟨l, ⟨a', c', h0, hk1, hk2, hrec⟩, hlm, hcame⟩
    obtain ⟨f, hf2⟩ := choose_lt hex
    refine ⟨(List.range len).map f, by simp, by omega, ⟨⟨fun i hi2 => ?_, by simpa using hl, hm, fun h => by cases h⟩, fun r hr => ?_, by simp; omega⟩, trivial⟩
    · have hil : i < len := by simpa using hi2
      obtain ⟨b, off, spot⟩ := x
      obtain ⟨⟨a0, c0, e0, _⟩, _⟩ := hf2 0 (by omega)
      have hs : spot = none := by simpa [Addr.add] using World.cell?_spot e0
      subst hs
      refine ⟨b, off, rfl, ?_, ?_⟩
      · have := World.block_lt_of_cell? _ _ e0
        simpa [Addr.add] using this
      · obtain ⟨⟨a', c', e1, e2, e3, e4⟩, _⟩ := hf2 i hil
        simp only [List.getElem_map, List.getElem_range]
        exact ⟨a', c', by rw [← e1, Addr.add_lit], e2, e3, e4⟩
    · obtain ⟨i, hi3, rfl⟩ := List.mem_map.1 hr
      exact (hf2 i (List.mem_range.1 hi3)).2
end
end Go.Proofs.Ytfcfleeiffmjdaa.G
