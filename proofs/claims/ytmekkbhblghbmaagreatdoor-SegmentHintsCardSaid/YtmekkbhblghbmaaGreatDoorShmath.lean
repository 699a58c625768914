/- A segment that is sealed: plain facts. -/
import Derived.Test.YtmekkbhblghbmaaGreatDoorSwmath
import Derived.Test.YtmekkbhblghbmaaGreatDoorHb
namespace Go.Proofs.YtmekkbhblghbmaaGreatDoor
open Go.RowKit
set_option linter.unusedVariables false

theorem hN_lt_sN {n : Int} (h : segOk n) : lt (hN n) (sN n) = true := by
  unfold hN sN lt
  rw [nameOf_ok h, nameOf_ok h]
  simp [Op.bytesLess]
theorem sN_lt_hN {n : Int} (h : segOk n) : lt (sN n) (hN n) = false := lt_asymm (hN_lt_sN h)
theorem sN_beq_hN {n : Int} (h : segOk n) : (sN n == hN n) = false := by
  have := sN_hN (m := n) h
  simpa using this
theorem hN_beq_sN {n : Int} (h : segOk n) : (hN n == sN n) = false := by
  have := sN_hN (m := n) h
  simpa using fun e => this e.symm

/-- A disk with a segment and its hints. -/
def hSt (n : Int) (bt : List UInt8) (s : Nat) (x : List UInt8) (k : Nat) : D.St := ⟨262144, [⟨hN n, x, k⟩, ⟨sN n, bt, s⟩], -1, false⟩
section
variable {n : Int} {bt x : List UInt8} {s k : Nat}
theorem hSt_find (h : segOk n) : D.find (hSt n bt s x k).fs (hN n) = some ⟨hN n, x, k⟩ := by simp [D.find, hSt]
theorem hSt_finds (h : segOk n) : D.find (hSt n bt s x k).fs (sN n) = some ⟨sN n, bt, s⟩ := by
  simp [D.find, hSt, hN_beq_sN h]
theorem tSt_findh (h : segOk n) : D.find (tSt (sN n) bt s).fs (hN n) = none := by
  simp [D.find, tSt, sN_beq_hN h]
theorem puts_first (h : segOk n) : D.puts (tSt (sN n) bt s) ⟨hN n, x, k⟩ = hSt n bt s x k := by
  unfold D.puts tSt hSt
  simp [wo, ins, sN_beq_hN h, sN_lt_hN h]
theorem puts_again (h : segOk n) (k2 : Nat) : D.puts (hSt n bt s x k) ⟨hN n, x, k2⟩ = hSt n bt s x k2 := by
  unfold D.puts hSt
  simp [wo, ins, sN_beq_hN h, sN_lt_hN h]
theorem rm_hSt (h : segOk n) : D.rmE (hSt n bt s x k) (hN n) = 0 ∧ D.rmS (hSt n bt s x k) (hN n) = tSt (sN n) bt s := by
  constructor
  · unfold D.rmE
    rw [hSt_find h]
    rfl
  · unfold D.rmS
    rw [hSt_find h]
    dsimp only
    rw [if_pos (show D.burns (hSt n bt s x k) = true from rfl)]
    unfold tSt hSt
    simp [wo, sN_beq_hN h, D.burnt, D.burns]
theorem hi_t (h : segOk n) {E : List Et} (hx : hbs E = (x, 0)) (hl : bt.length + x.length ≤ 262144) : hiE (tSt (sN n) bt s) n E = 0 ∧ hiS (tSt (sN n) bt s) n E = hSt n bt s x x.length := by
  have h0 : hrE (tSt (sN n) bt s) n = 0 := by unfold hrE; rw [tSt_findh h]
  have h1 : hrS (tSt (sN n) bt s) n = tSt (sN n) bt s := by unfold hrS; rw [tSt_findh h]
  have hlf : (x.length : Int) ≤ D.left (tSt (sN n) bt s) := by rw [tSt_left]; omega
  have a1 : D.apE (tSt (sN n) bt s) (hN n) x = 0 := by
    unfold D.apE
    rw [if_pos (hN_right h), if_pos (tSt_burns _ _ _), if_pos hlf]
  have a2 : D.apS (tSt (sN n) bt s) (hN n) x = hSt n bt s x 0 := by
    unfold D.apS D.apF
    rw [if_pos (hN_right h), if_pos ⟨tSt_burns _ _ _, hlf⟩, tSt_findh h]
    exact puts_first h
  have s1 : D.syE (hSt n bt s x 0) (hN n) = 0 := by
    unfold D.syE
    rw [hSt_find h]
    rfl
  have s2 : D.syS (hSt n bt s x 0) (hN n) = hSt n bt s x x.length := by
    unfold D.syS
    rw [hSt_find h]
    dsimp only
    rw [if_pos (show D.burns (hSt n bt s x 0) = true from rfl), show D.burnt (hSt n bt s x 0) = hSt n bt s x 0 from rfl]
    exact puts_again h _
  unfold hiE hiS
  rw [if_pos h, if_pos h, hx]
  dsimp only
  rw [if_pos rfl, if_pos rfl, h0, if_pos rfl, if_pos rfl, h1, a1, if_pos rfl, if_pos rfl, a2]
  exact ⟨s1, s2⟩
theorem td_hSt (h : segOk n) {E : List Et} (hx : hbs E = (x, 0)) : tdE (hSt n bt s x k) n = 0 ∧ tdL (hSt n bt s x k) n = E := by
  obtain ⟨e1, e2⟩ := td_some (S := hSt n bt s x k) h (hSt_find h)
  have hr := hrd_hbs hx
  rw [e1, e2]
  dsimp only
  rw [hr]
  exact ⟨rfl, rfl⟩
theorem ix_hSt (h : segOk n) {E : List Et} (hx : hbs E = (x, 0)) : ixE (hSt n bt s x k) n = 0 ∧ ixS (hSt n bt s x k) n = hSt n bt s x k ∧ ixL (hSt n bt s x k) n = E := by
  obtain ⟨t1, t2⟩ := td_hSt (bt := bt) (s := s) (k := k) h hx
  unfold ixE ixS ixL
  rw [if_pos h, if_pos h, if_pos h, if_pos t1, if_pos t1, if_pos t1]
  exact ⟨rfl, rfl, t2⟩
theorem ld_hSt (h : segOk n) {ll : List (List Rc)} (hg : ∀ l ∈ ll, good l = true) : ldE (hSt n (cat ll) s x k) n = 0 ∧ ldS (hSt n (cat ll) s x k) n = hSt n (cat ll) s x k ∧ ldL (hSt n (cat ll) s x k) n = hof 0 ll := by
  have hw := fs_whole hg
  obtain ⟨e1, e2, e3⟩ := ld_whole (S := hSt n (cat ll) s x k) h (hSt_finds h) (by dsimp only; rw [hw]; exact Nat.lt_irrefl _)
  refine ⟨e1, e2, ?_⟩
  rw [e3]
  dsimp only
  rw [hw]
theorem ix_tSt (h : segOk n) {ll : List (List Rc)} (hg : ∀ l ∈ ll, good l = true) : ixE (tSt (sN n) (cat ll) s) n = 0 ∧ (∃ s', ixS (tSt (sN n) (cat ll) s) n = tSt (sN n) (cat ll) s') ∧ ixL (tSt (sN n) (cat ll) s) n = hof 0 ll := by
  have t1 := (td_none (S := tSt (sN n) (cat ll) s) h (tSt_findh h)).1
  have t2 : ¬ tdE (tSt (sN n) (cat ll) s) n = 0 := by rw [t1]; omega
  obtain ⟨s', e1, e2, e3⟩ := ld_t (s := s) h (fs_whole hg)
  unfold ixE ixS ixL
  rw [if_pos h, if_pos h, if_pos h, if_neg t2, if_neg t2, if_neg t2]
  exact ⟨e1, ⟨s', e2⟩, e3⟩
end

/-! ### the entries of batches can be indexed -/
theorem hof_erights {ll : List (List Rc)} (hg : ∀ l ∈ ll, good l = true) (hl : (cat ll).length ≤ 1048576) : erights (hof 0 ll) = true := by
  unfold erights
  rw [List.all_eq_true]
  intro e he
  obtain ⟨off, r, rfl, hr, ho⟩ := hof_le ll 0 hg e he
  obtain ⟨h1, h2, h3, h4, h5, h6⟩ := (right_iff r).1 hr
  have h7 := enc_len hr
  rw [eright_iff]
  refine ⟨show 1 ≤ r.k.length by omega, show r.k.length ≤ 40 by omega, show (0 : Int) ≤ (off : Int) by omega, show (off : Int) ≤ 1048576 by omega, show (1 : Int) ≤ ((enc r).length : Int) by omega, show ((enc r).length : Int) ≤ 400 by omega, show 1 ≤ r.q by omega, show r.q ≤ _ by omega⟩
theorem hof_hbs {ll : List (List Rc)} (hg : ∀ l ∈ ll, good l = true) (hl : ll.length ≤ 20) : ∃ x, hbs (hof 0 ll) = (x, 0) ∧ x.length ≤ 30000 := by
  have h1 := cat_le ll hg
  have h2 := flat_le ll hg
  have h3 := hof_erights hg (by omega)
  have h4 : (hof 0 ll).length ≤ 2000 := by rw [hof_len]; omega
  have h5 := eencs_len (hof 0 ll) h3
  refine ⟨_, hbs_yes h4 h3, ?_⟩
  have h6 := put_ten (n := (hof 0 ll).length) (by unfold M64; omega)
  rw [seal_len, List.length_append]
  rw [hof_len] at h5 h6 ⊢
  omega
end Go.Proofs.YtmekkbhblghbmaaGreatDoor
