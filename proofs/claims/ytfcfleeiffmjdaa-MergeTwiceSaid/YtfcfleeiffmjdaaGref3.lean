/- The document's Batches. -/
import Derived.Test.YtfcfleeiffmjdaaGref2
namespace Go.Proofs.Ytfcfleeiffmjdaa.G
open Go.RowKit
set_option linter.unusedVariables false
set_option linter.unusedSimpArgs false

/-- The slices of a list of batches: each has its batch's records. -/
def Rows3 (w : World) (vs : List Value) (ll : List (List Rc)) : Prop := vs.length = ll.length ∧ ∀ i (h : i < ll.length), ∃ a cap, vs[i]? = some (.slice a ll[i].length cap) ∧ ll[i].length ≤ cap ∧ Recs w a ll[i]
theorem Rows3.nil (w : World) : Rows3 w [] [] := ⟨rfl, fun i h => by simp at h⟩
theorem Rows3.later {w w' : World} {vs : List Value} {ll : List (List Rc)} (h : Rows3 w vs ll) (hb : Below w.heap.size w w') : Rows3 w' vs ll :=
  ⟨h.1, fun i hi => by obtain ⟨a, cap, h1, h2, h3⟩ := h.2 i hi; exact ⟨a, cap, h1, h2, h3.later hb (Nat.le_refl _)⟩⟩
theorem Rows3.snoc {w : World} {vs : List Value} {ll : List (List Rc)} (h : Rows3 w vs ll) {a : Option Addr} {cap : Nat} {l : List Rc} (hc : l.length ≤ cap) (hl : Recs w a l) : Rows3 w (vs ++ [.slice a l.length cap]) (ll ++ [l]) := by
  refine ⟨by simp [h.1], fun i hi => ?_⟩
  by_cases e : i < ll.length
  · obtain ⟨a', cap', h1, h2, h3⟩ := h.2 i e
    refine ⟨a', cap', ?_, ?_, ?_⟩
    · rw [List.getElem?_append_left (by rw [h.1]; exact e), List.getElem_append_left e]; exact h1
    · rw [List.getElem_append_left e]; exact h2
    · rw [List.getElem_append_left e]; exact h3
  · have : i = ll.length := by simp at hi; omega
    subst this
    refine ⟨a, cap, ?_, ?_, ?_⟩
    · rw [List.getElem?_append_right (by rw [h.1]; exact Nat.le_refl _), h.1]; simp
    · simpa using hc
    · simpa using hl
theorem owns_bats3 {w : World} {base : Nat} {v : Value} {vs : List Value} {ll : List (List Rc)} (h : w.ownsRow base 25 1 v ll.length vs) (hr : Rows3 w vs ll) : ∃ a cap, v = .slice a ll.length cap ∧ Bats w a ll := by
  have hl := h.lt
  have hc := fun g hg => h.cells (g := g) hg
  rcases h.2 with ⟨rfl, h0⟩ | ⟨g, cap, cur, rfl, hbg, hg, rest⟩
  · exact ⟨none, 0, by rw [h0], fun h1 => by omega⟩
  · refine ⟨_, cap, rfl, fun _ => ⟨g, 0, rfl, (hl g rfl).2, fun i hi => ?_⟩⟩
    obtain ⟨a', cap', h1, _, h2⟩ := hr.2 i hi
    have := hc g rfl i _ h1
    rw [show (⟨g, 0, none⟩ : Addr).add i = ⟨g, 0 + i, none⟩ from by simp [Addr.add]; try omega] at this
    exact ⟨a', cap', this, h2⟩
/-- A piece of a slice of records. -/
theorem recs_piece {w : World} {b off : Nat} {l : List Rc} (h : Recs w (some ⟨b, off, none⟩) l) (i n : Nat) (hi : i + n ≤ l.length) : Recs w (some ⟨b, off + i * 4, none⟩) ((l.drop i).take n) := fun h0 => by
  obtain ⟨b', off', e, hlt, hc⟩ := h (by rw [List.length_take, List.length_drop] at h0; omega)
  cases e
  refine ⟨b, off + i * 4, rfl, hlt, fun k hk => ?_⟩
  have hk2 : i + k < l.length := by rw [List.length_take, List.length_drop] at hk; omega
  have := hc (i + k) hk2
  rw [List.getElem_take, List.getElem_drop]
  rw [show off + i * 4 + k * 4 = off + (i + k) * 4 by omega]
  exact this
theorem run_piece {a : Option Addr} {b off n cap i j : Nat} (ha : a = some ⟨b, off, none⟩) (h1 : i ≤ j) (h2 : j ≤ n) (h3 : n ≤ cap) (h4 : i < n) (W : World) :
    (Instr.slice 25 (.slice a n cap) (some (.int .i64 (i : Int))) (some (.int .i64 (j : Int))) none).run Try.prog W = .ok (.slice (some ⟨b, off + i * 4, none⟩) (j - i) (cap - i)) W := by
  have hsz : ∀ W : World, (Go.sizeOf (Try.prog.elem 25)).run Try.prog W = .ok 4 W := fun W => by kernel_rfl
  subst ha
  rw [run_slice_lh (P := Try.prog) (t := 25) (ht := by kernel_rfl) (kl := .i64) (kh := .i64) (l := (i : Int)) (h := (j : Int)) (h0 := by omega) (h1 := by omega) (h2 := by omega), hsz]
  simp only [Result.andThen, sliced, Int.toNat_natCast]
  rw [if_neg (by omega)]
  simp only [Option.map_some, Addr.add_lit]

theorem src_one_cell {W : World} {b : Nat} {v : Value} (h : W.heap[b]? = some (.cells #[v] 25 (0, 0))) (h1 : v.oneCell' = true := by rfl) : Src Try.prog 1 22 (.slice (some ⟨b, 0, none⟩) 1 1) 1 [v] W :=
  Src.ofSlice W Try.underlying22 ⟨b, 0, none⟩ 1 1 _ rfl (fun j u hu => by
    rw [Addr.add_lit, Nat.zero_add, cell_of_row W b j _ _ (0, 0) h]
    simpa using hu) (fun u hu => by simp at hu; subst hu; exact h1)

set_option maxRecDepth 100000 in
set_option maxHeartbeats 4000000 in
theorem refbatches_any {l : List Rc} {a : Option Addr} {cap : Nat} {w : World} (hr : Recs w a l) (hl : l.length ≤ 1000000) (hc : l.length ≤ cap) :
    Calls Try.prog 17 #[.slice a l.length cap] w fun e w' => ∃ a' cap', e = .returned (.slice a' (bat l).length cap') ∧ Bats w' a' (bat l) ∧ Below w.heap.size w w' := by
  have HR := Lib.hid hr
  obtain ⟨i0, hi, hz0, hz1, hz2⟩ := info_parts infoSlice
  have HI := Lib.hid (And.intro hi (And.intro hz0 (And.intro hz1 hz2)))
  have hbl := bat_len l
  obtain ⟨n, hn⟩ : ∃ n, l.length = n := ⟨_, rfl⟩
  have HN := Lib.hid hn
  rw [hn] at hl hc hbl ⊢
  clear hr hi hz0 hz1 hz2 hn
  obtain ⟨B, hB⟩ : ∃ B, (bat l).length = B := ⟨_, rfl⟩
  have HB := Lib.hid hB
  rw [hB] at hbl ⊢
  clear hB
  go_enter Try.func17, Try.ntmps17
  go_wp2_with fail
  go_loopg [3, 4] B (fun g ov iv wr => ∃ (j i : Nat) (vs : List Value), j + g = B ∧ i = 16 * j ∧ iv = .int .i64 i ∧ wr.ownsRow w.heap.size 25 1 ov j vs ∧ Rows3 w vs ((bat l).take j) ∧ Old w wr)
  case atStart => exact ⟨0, 0, [], by omega, by omega, rfl, ⟨rfl, Or.inl ⟨rfl, rfl⟩⟩, Rows3.nil _, Old.refl w⟩
  case round =>
    obtain ⟨j, i, vs, hj, hij, rfl, how, hrows, hold⟩ := hrel
    have HW := Lib.hid how; have HO := Lib.hid hold; have HRW := Lib.hid hrows
    clear how hold hrows
    have hws := Below.size HO.out
    by_cases hlt : i < n
    · have hjB : j < B := by omega
      obtain ⟨b, off, ha, hbl2, _⟩ := HR.out (by rw [HN.out]; omega)
      obtain ⟨e, he⟩ : ∃ e : Nat, e = min (i + 16) n := ⟨_, rfl⟩
      have hmin : min ((i : Int) + 16) (n : Int) = (e : Int) := by omega
      have he1 : i ≤ e ∧ e ≤ n ∧ e ≤ i + 16 := by omega
      obtain ⟨he2, he3, he4⟩ := he1
      have hpc := run_piece (cap := cap) ha he2 he3 hc hlt
      have HPC : Hid (Recs w (some ⟨b, off + i * 4, none⟩) ((l.drop i).take 16)) := Lib.hid (by
        have h := recs_piece (w := w) (b := b) (off := off) (l := l) (by rw [← ha]; exact HR.out) i (e - i) (by rw [HN.out]; omega)
        have e1 : (l.drop i).take (e - i) = (l.drop i).take 16 := by
          by_cases h16 : i + 16 ≤ n
          · congr 1; omega
          · rw [List.take_of_length_le (by rw [List.length_drop, HN.out]; omega), List.take_of_length_le (by rw [List.length_drop, HN.out]; omega)]
        rw [e1] at h
        exact h)
      have HPL : Hid (((l.drop i).take 16).length = e - i) := Lib.hid (by rw [List.length_take, List.length_drop, HN.out]; omega)
      have HBJ : Hid ((bat l).take (j + 1) = (bat l).take j ++ [(l.drop i).take 16]) := Lib.hid (by
        have hlj : j < (bat l).length := by rw [HB.out]; exact hjB
        rw [List.take_add_one, List.getElem?_eq_getElem hlj, bat_at l j hlj, hij]
        rfl)
      have HIJ := Lib.hid hij
      have HWL := Lib.hid HW.out.1
      have hwa := IntWalk.i64_in ((i : Int) + 16) ⟨by omega, by omega⟩
      clear he hij ha
      go_wp2_with (at_builtin; refine wpList_append_row _ rfl _ _ 22 rfl w.heap.size 25 i0 _ 1 24 Try.underlying22 HI.out.1 HI.out.2.1 HI.out.2.2.1 HI.out.2.2.2 (by omega) rfl _ _ _ rfl (World.ownsRow.alloc HW.out _) (.slice (some ⟨wr.heap.size, 0, none⟩) 1 1) 1 [.slice (some ⟨b, off + i * 4, none⟩) (e - i) (cap - i)] rfl (src_one_cell (heap_alloc_new wr _)) (by omega) (by rw [World.size_alloc]; omega) ?_; intro a7 c7 w7 h7 hg7 ho7)
      have B7 : Hid (Old w w7) := Lib.hid (Below.grown (Below.alloc HO.out hws _) hg7 (by simp; omega) (fun j hj => (HW.out.lt _ hj).1))
      have H7 := Lib.hid h7
      clear h7 hg7 ho7
      go_wp2_with fail
      go_roundg (gk - 1)
      case measure => omega
      case rel => exact ⟨j + 1, i + 16, vs ++ [.slice (some ⟨b, off + i * 4, none⟩) (e - i) (cap - i)], by omega, by have := HIJ.out; omega, by go_num, H7.out, by
        rw [HBJ.out, ← HPL.out]
        exact HRW.out.snoc (by rw [HPL.out]; omega) HPC.out, B7.out⟩
    · have hjB : j = B := by omega
      subst hjB
      have hall : (bat l).take j = bat l := List.take_of_length_le (by rw [HB.out]; exact Nat.le_refl _)
      have hrw := HRW.out.later HO.out
      rw [hall] at hrw
      have how := HW.out
      rw [← HB.out] at how
      obtain ⟨a', cap', rfl, hbt⟩ := owns_bats3 how hrw
      rw [HB.out]
      have HBT := Lib.hid hbt
      clear hall hrw how hbt HW
      go_wp2_with fail
      go_ret
      exact ⟨a', cap', rfl, HBT.out, HO.out⟩
end Go.Proofs.Ytfcfleeiffmjdaa.G
