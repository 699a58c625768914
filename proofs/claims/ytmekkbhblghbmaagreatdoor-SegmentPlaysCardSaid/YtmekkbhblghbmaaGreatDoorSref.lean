/- The document's segments, on the document's disk: Load, Told. -/
import Derived.Test.YtmekkbhblghbmaaGreatDoorDr
import Derived.Test.YtmekkbhblghbmaaGreatDoorHb
import Derived.Test.YtmekkbhblghbmaaGreatDoorSmath
namespace Go.Proofs.YtmekkbhblghbmaaGreatDoor
open Go.RowKit
set_option linter.unusedVariables false

/-- What is behind a step of the document's disk. -/
def SfStep (B qb : Nat) (lv : Value) (S' : D.St) (w w' : World) : Prop := ∃ lv', D.Rf B w' qb lv' S' ∧ Turn (fun k => k = qb) w w' ∧ ∀ g, lv'.ownBlock = some g → lv.ownBlock = some g ∨ w.heap.size ≤ g
theorem SfStep.same {B qb : Nat} {lv : Value} {S : D.St} {w w' : World} (h : D.Rf B w qb lv S) (hb : Below w.heap.size w w') : SfStep B qb lv S w w' := ⟨lv, h.below hb, Turn.of_below _ hb (Nat.le_refl _), fun _ h => Or.inl h⟩
theorem SfStep.trans {B qb : Nat} {lv : Value} {S' S'' : D.St} {w w' w'' : World} (h : SfStep B qb lv S' w w') (k : ∀ lv', D.Rf B w' qb lv' S' → SfStep B qb lv' S'' w' w'') : SfStep B qb lv S'' w w'' := by
  obtain ⟨lv1, h1, t1, g1⟩ := h
  obtain ⟨lv2, h2, t2, g2⟩ := k lv1 h1
  refine ⟨lv2, h2, t1.trans t2, fun g hg => ?_⟩
  rcases g2 g hg with hg | hg
  · exact g1 g hg
  · exact Or.inr (Nat.le_trans t1.size hg)
theorem SfStep.later {B qb : Nat} {lv : Value} {S' : D.St} {w w' w'' : World} (h : SfStep B qb lv S' w w') (hb : Below w'.heap.size w' w'') : SfStep B qb lv S' w w'' := h.trans (fun _ h' => SfStep.same h' hb)
/-- Behind what only makes new blocks. -/
theorem SfStep.ahead {B qb : Nat} {lv : Value} {S S' : D.St} {w w1 w' : World} (h : D.Rf B w qb lv S) (hb : Below w.heap.size w w1) (k : SfStep B qb lv S' w1 w') : SfStep B qb lv S' w w' := by
  obtain ⟨lv2, h2, t2, g2⟩ := k
  refine ⟨lv2, h2, (Turn.of_below _ hb (Nat.le_refl _)).trans t2, fun g hg => ?_⟩
  rcases g2 g hg with hg | hg
  · exact Or.inl hg
  · exact Or.inr (Nat.le_trans hb.size hg)

/-- .. and of a call: what it tells, and the step. -/
def SfPost (B qb : Nat) (lv : Value) (S' : D.St) (R : Ending → World → Prop) (w : World) (e : Ending) (w' : World) : Prop := R e w' ∧ SfStep B qb lv S' w w'
theorem sf_of {B qb : Nat} {lv : Value} {S' : D.St} {r : Value} {w : World} {e : Ending} {w' : World} (h : D.RfPost B qb lv S' r w e w') : e = .returned r ∧ SfStep B qb lv S' w w' := h

/-- Entries are told, in memory that is new, and an error. -/
def EntR (w : World) (l : List Et) (x : Int) (e : Ending) (w' : World) : Prop := ∃ a cap, e = .returned (.tuple #[.slice a l.length cap, .int .i64 x]) ∧ EntsIn w' a l ∧ NewA w.heap.size a
theorem entR_nil {w w' : World} {l : List Et} {x y : Int} (h : l = []) (hx : x = y) : EntR w l x (.returned (.tuple #[.slice none 0 0, .int .i64 y])) w' := by
  subst h hx
  exact ⟨none, 0, rfl, EntsIn.nil _ _, fun A hA => by cases hA⟩

theorem szN_le {S : D.St} (h : D.Good S) (n : List UInt8) : 0 ≤ D.szN S n ∧ D.szN S n ≤ 1048576 := by
  unfold D.szN
  cases hf : D.find S.fs n with
  | none => exact ⟨Int.le_refl 0, show (0 : Int) ≤ 1048576 by omega⟩
  | some f =>
    have := D.len_le h (D.find_mem hf).1
    show 0 ≤ (f.bt.length : Int) ∧ (f.bt.length : Int) ≤ 1048576
    omega
theorem fileB_len {S : D.St} (h : D.Good S) (n : List UInt8) : (fileB S n).length ≤ 1048576 := by
  unfold fileB
  cases hf : D.find S.fs n with
  | none => simp
  | some f => exact D.len_le h (D.find_mem hf).1

theorem refbytes8_any {B qb : Nat} {lv : Value} {S : D.St} {w : World} {n : List UInt8} (h : D.Rf B w qb lv S) (hcs : S.fs.length < 1000000000) :
    Calls Tryz.prog 57 #[.pointer (some ⟨qb, 0, none⟩), .string (bs n)] w fun e w' => e = .returned (.string (bs (fileB S n))) ∧ w = w' := by
  obtain ⟨z0, z1⟩ := szN_le h.good n
  have h1 := D.refsize_any (n := n) h hcs
  have h2 := D.refread_any (n := n) (off := 0) (m := D.szN S n) h (by omega) (by omega) (by omega) (by omega) hcs
  rw [rd_all] at h2
  generalize D.szN S n = z at *
  generalize D.szE S n = ez at *
  generalize D.rdE S n 0 z = er at *
  go_enter Tryz.func57, Tryz.ntmps57
  go_wp2_with fail
  refine h1.mono ?_
  rintro e w1 ⟨rfl, rfl⟩
  go_wp2_with fail
  refine h2.mono ?_
  rintro e w1 ⟨rfl, rfl⟩
  go_wp2_with fail
  go_ret
  exact ⟨rfl, rfl⟩

theorem szE_none {S : D.St} {n : List UInt8} (h : D.find S.fs n = none) : D.szE S n = 5 := by simp [D.szE, h]
theorem szE_some {S : D.St} {n : List UInt8} {f : D.Fl} (h : D.find S.fs n = some f) : D.szE S n = 0 := by simp [D.szE, h]
theorem szN_some {S : D.St} {n : List UInt8} {f : D.Fl} (h : D.find S.fs n = some f) : D.szN S n = f.bt.length := by simp [D.szN, h]

theorem right_yes {n : Int} (h : segOk n) (w : World) : Calls Tryz.prog 55 #[.int .i64 n] w fun e w' => e = .returned (.bool true) ∧ w = w' := by
  have := refright8_any n w
  rwa [decide_eq_true h] at this
theorem right_no {n : Int} (h : ¬ segOk n) (w : World) : Calls Tryz.prog 55 #[.int .i64 n] w fun e w' => e = .returned (.bool false) ∧ w = w' := by
  have := refright8_any n w
  rwa [decide_eq_false h] at this

/-! ### Told -/
set_option maxHeartbeats 1000000 in
theorem refTold_any {B qb : Nat} {lv : Value} {S : D.St} {w : World} (h : D.Rf B w qb lv S) (n : Int) (hcs : S.fs.length < 1000000000) :
    Calls Tryz.prog 26 #[.pointer (some ⟨qb, 0, none⟩), .int .i64 n] w (SfPost B qb lv S (EntR w (tdL S n) (tdE S n)) w) := by
  by_cases hn : segOk n
  · have HNM := Lib.hid (refHints_any n)
    have HR := Lib.hid (right_yes hn w)
    cases hf : D.find S.fs (hN n) with
    | none =>
      obtain ⟨e1, e2⟩ := td_none hn hf
      rw [e1, e2]
      have HSZ := Lib.hid (fun (W : World) (hW : Below w.heap.size w W) => D.refsize_any (n := hN n) (h.below hW) hcs)
      rw [szE_none hf] at HSZ
      generalize D.szN S (hN n) = z at *
      have HH := Lib.hid h
      clear hf e1 e2 hn h
      go_enter Tryz.func26, Tryz.ntmps26
      go_wp2_with fail
      refine HR.out.mono ?_
      rintro e w1 ⟨rfl, rfl⟩
      go_wp2_with fail
      refine (HNM.out _).mono ?_
      rintro e w1 ⟨rfl, hb1⟩
      have HB1 := Lib.hid hb1
      clear hb1
      go_wp2_with fail
      refine (HSZ.out _ HB1.out).mono ?_
      rintro e w2 ⟨rfl, rfl⟩
      go_wp2_with fail
      go_ret2
      exact ⟨entR_nil rfl rfl, SfStep.same HH.out HB1.out⟩
    | some f =>
      obtain ⟨e1, e2⟩ := td_some hn hf
      rw [e1, e2]
      have HSZ := Lib.hid (fun (W : World) (hW : Below w.heap.size w W) => D.refsize_any (n := hN n) (h.below hW) hcs)
      rw [szE_some hf] at HSZ
      have HBY := Lib.hid (fun (W : World) (hW : Below w.heap.size w W) => refbytes8_any (n := hN n) (h.below hW) hcs)
      have hfb := fileB_some hf
      rw [hfb] at HBY
      have hfl := D.len_le h.good (D.find_mem hf).1
      have HRD := Lib.hid (fun (W : World) => refhreadN_any f.bt W (by omega))
      generalize D.szN S (hN n) = z at *
      have HH := Lib.hid h
      clear hf e1 e2 hn h hfb
      go_enter Tryz.func26, Tryz.ntmps26
      go_wp2_with fail
      refine HR.out.mono ?_
      rintro e w1 ⟨rfl, rfl⟩
      go_wp2_with fail
      refine (HNM.out _).mono ?_
      rintro e w1 ⟨rfl, hb1⟩
      have HB1 := Lib.hid hb1
      clear hb1
      go_wp2_with fail
      refine (HSZ.out _ HB1.out).mono ?_
      rintro e w2 ⟨rfl, rfl⟩
      go_wp2_with fail
      refine (HNM.out _).mono ?_
      rintro e w2 ⟨rfl, hb2⟩
      have HB2 := Lib.hid (HB1.out.trans (hb2.mono HB1.out.size))
      clear hb2
      go_wp2_with fail
      refine (HBY.out _ HB2.out).mono ?_
      rintro e w3 ⟨rfl, rfl⟩
      go_wp2_with fail
      refine (HRD.out _).mono ?_
      rintro e w3 ⟨a, cap, rfl, hen, hnw, hb3⟩
      have HE := Lib.hid hen; have HN := Lib.hid hnw; have HB3 := Lib.hid hb3
      clear hen hnw hb3
      go_wp2_with fail
      go_ret2
      exact ⟨⟨a, cap, rfl, HE.out, HN.out.mono HB2.out.size⟩, SfStep.same HH.out (HB2.out.trans (HB3.out.mono HB2.out.size))⟩
  · obtain ⟨e1, e2⟩ := td_arg (S := S) hn
    rw [e1, e2]
    have HR := Lib.hid (right_no hn w)
    clear e1 e2 hn
    go_enter Tryz.func26, Tryz.ntmps26
    go_wp2_with fail
    refine HR.out.mono ?_
    rintro e w1 ⟨rfl, rfl⟩
    go_wp2_with fail
    go_ret2
    exact ⟨entR_nil rfl rfl, SfStep.same h (Below.refl _ _)⟩
end Go.Proofs.YtmekkbhblghbmaaGreatDoor
