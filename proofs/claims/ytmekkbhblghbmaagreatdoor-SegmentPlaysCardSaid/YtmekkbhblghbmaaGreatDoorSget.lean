/- The program's segments, on the program's disk: Get. -/
import Derived.Test.YtmekkbhblghbmaaGreatDoorScode
import Derived.Test.YtmekkbhblghbmaaGreatDoorSref5
import Derived.Test.YtmekkbhblghbmaaGreatDoorHb
namespace Go.Proofs.YtmekkbhblghbmaaGreatDoor
open Go.RowKit
set_option linter.unusedVariables false

/-- A record is read out of its own bytes as out of the whole file's. -/
theorem hat_piece {bt : List UInt8} {e : Et} (hb : bt.length ≤ 1048576) (h0 : 0 ≤ e.o) (h1 : 0 ≤ e.l) (h2 : e.l ≤ bt.length - e.o) : hat ((bt.drop e.o.toNat).take e.l.toNat) { e with o := 0 } = hat bt e := by
  have hl : ((bt.drop e.o.toNat).take e.l.toNat).length = e.l.toNat := by rw [List.length_take, List.length_drop]; omega
  have hr : eright { e with o := 0 } = eright e := by
    unfold eright
    dsimp only
    rw [decide_eq_decide]
    constructor
    · rintro ⟨a1, a2, _, _, a3⟩
      exact ⟨a1, a2, h0, by omega, a3⟩
    · rintro ⟨a1, a2, _, _, a3⟩
      exact ⟨a1, a2, by omega, by omega, a3⟩
  by_cases he : eright e = true
  · obtain ⟨r, s, er, h3⟩ : ∃ r s er, rd ((bt.drop e.o.toNat).take e.l.toNat) = (r, s, er) := ⟨_, _, _, rfl⟩
    rw [hat_of he (by omega) h3]
    have h4 : rd (((((bt.drop e.o.toNat).take e.l.toNat)).drop ({ e with o := 0 } : Et).o.toNat).take ({ e with o := 0 } : Et).l.toNat) = (r, s, er) := by
      dsimp only
      rw [Int.toNat_zero, List.drop_zero, List.take_of_length_le (by omega)]
      exact h3
    rw [hat_of (by rw [hr]; exact he) (by dsimp only; omega) h4]
  · have he2 : eright e = false := by simpa using he
    rw [hat_arg (Or.inl he2), hat_arg (Or.inl (by rw [hr]; exact he2))]

section
variable {T : TypeId} {w W : World} {c0 c1 c2 c3 c4 : Value}
theorem AtG.off (h : AtG T w c0 c1 c2 c3 c4 W) (v : Value) : AtG T w c0 v c2 c3 c4 (W.setCell ⟨w.heap.size, 1, none⟩ v) := by
  obtain ⟨h1, h2, q, k, u, g, h3⟩ := h
  refine ⟨h1.setCell (Nat.le_refl _) v, heap_setCell_same W _ 1 _ _ v h2, q, k, u, g, ?_⟩
  rw [Below.heap_setCell _ _ _ _ (by simp)]
  exact h3
theorem AtG.fz (h : AtG T w c0 c1 c2 c3 c4 W) (j : Nat) : W.frozen? ⟨w.heap.size, j, none⟩ = false := Lib.frozen_of_heap h.2.1 j
end

set_option maxRecDepth 100000 in
set_option maxHeartbeats 4000000 in
theorem get_any (C : NmC) {B pb : Nat} {S : D.St} {w : World} {F : Nat → Prop} (h : D.DkS B w pb F S) (hT : Tb B w) (n : Int) (e : Et) (hn1 : -9223372036854775808 ≤ n) (hn2 : n ≤ 9223372036854775807) (he : EFit e) (hcs : S.fs.length < 1000000000) :
    Calls Tryz.prog 15 #[.pointer (some ⟨pb, 0, none⟩), .int .i64 n, ev e] w fun x w' => x = .returned (gtV (gtR S n e)) ∧ Below w.heap.size w w' := by
  have A0 := Lib.hid (AtG.made 51 w (.string (bs e.k)) (.int .i64 e.o) (.int .i64 e.l) (.int .u64 ((e.q : Nat) : Int)) (.bool e.g))
  by_cases hn : segOk n
  · have HNM := Lib.hid (fun (W : World) (hW : Below w.heap.size w W) => C.name n W (hT.new hW) hn1 hn2)
    rw [show nameOf 115 n = sN n from rfl] at HNM
    have HR := Lib.hid (sgv_yes hn)
    have hlm : (sN n).length ≤ maxLen := by have := sN_len n; unfold maxLen; omega
    have HRD := Lib.hid (fun (W : World) (hW : Below w.heap.size w W) => D.read_any (n := sN n) (off := e.o) (m := e.l) (dkB h hW) hlm he.2.1.1 he.2.1.2 he.2.2.1.1 he.2.2.1.2)
    unfold D.rdPost at HRD
    -- what is read, and what is told
    have hpart : (D.rdE S (sN n) e.o e.l = 0 ∧ gtR S n e = ((hat (D.rdB S (sN n) e.o e.l) { e with o := 0 }).1, ((hat (D.rdB S (sN n) e.o e.l) { e with o := 0 }).2 : Int))) ∨ (D.rdE S (sN n) e.o e.l ≠ 0 ∧ gtR S n e = (Rc.z, D.rdE S (sN n) e.o e.l)) := by
      unfold gtR D.rdE D.rdB
      rw [if_pos hn]
      cases hf : D.find S.fs (sN n) with
      | none => exact Or.inr ⟨by simp, rfl⟩
      | some f =>
        have hfl := D.len_le h.good (D.find_mem hf).1
        dsimp only
        by_cases hc : 0 ≤ e.o ∧ 0 ≤ e.l ∧ e.l ≤ (f.bt.length : Int) - e.o
        · rw [if_pos hc, if_pos hc, hat_piece (by omega) hc.1 hc.2.1 hc.2.2]
          exact Or.inl ⟨rfl, rfl⟩
        · rw [if_neg hc, if_neg hc]
          refine Or.inr ⟨by omega, ?_⟩
          have ha : hat f.bt e = (Rc.z, 1) := hat_arg (by
            by_cases hr : eright e = true
            · obtain ⟨_, _, h3, h4, h5, _⟩ := (eright_iff e).1 hr
              right; omega
            · left; simpa using hr)
          rw [ha]; rfl
    generalize D.rdE S (sN n) e.o e.l = x0 at *
    generalize D.rdB S (sN n) e.o e.l = b at *
    generalize bs (sN n) = Nm at *
    clear hn h hlm hT
    have l1 : ∀ W, AtG 51 w (.string (bs e.k)) (.int .i64 e.o) (.int .i64 e.l) (.int .u64 ((e.q : Nat) : Int)) (.bool e.g) W → W.cell? ⟨w.heap.size, 1, none⟩ = some (.int .i64 e.o) := fun W hW => hW.cell 1
    have l2 : ∀ W, AtG 51 w (.string (bs e.k)) (.int .i64 e.o) (.int .i64 e.l) (.int .u64 ((e.q : Nat) : Int)) (.bool e.g) W → W.cell? ⟨w.heap.size, 2, none⟩ = some (.int .i64 e.l) := fun W hW => hW.cell 2
    rcases hpart with ⟨rfl, hg⟩ | ⟨hx0, hg⟩
    · have HAT := Lib.hid (fun W => hat_any b { e with o := 0 } W ⟨he.1, by simp, he.2.2.1, he.2.2.2⟩)
      unfold hatV at HAT
      rw [hg]
      generalize hat b { e with o := 0 } = x at *
      obtain ⟨r, xe⟩ := x
      dsimp only at HAT ⊢
      unfold rv at HAT
      have hgt : gtV (r, (xe : Int)) = .tuple #[.agg #[.int .u64 ((r.q : Nat) : Int), .string (bs r.k), .string (bs r.v), .bool r.g], .int .i64 (xe : Int)] := rfl
      rw [hgt]
      simp only [ev] at HAT ⊢
      clear hg he hgt
      go_enter Tryz.func15, Tryz.ntmps15
      go_wp2_with fail
      refine (HR.out _).mono ?_
      rintro e1 w1 ⟨rfl, rfl⟩
      have hA1 := A0.out
      clear A0
      generalize (w.alloc _).alloc _ = W0 at hA1 ⊢
      go_wp2_with fail
      go_region_held3 (fun W => AtG 51 w (.string (bs e.k)) (.int .i64 e.o) (.int .i64 e.l) (.int .u64 ((e.q : Nat) : Int)) (.bool e.g) W)
        (first | assumption | exact hA1.drew)
        (first
          | (go_at_call 28
             refine (HNM.out _ (AtG.below (by assumption))).mono ?_
             rintro e3 w3 ⟨rfl, hb3⟩
             have hS3 := AtG.call (W' := w3) (by assumption) hb3)
          | (go_at_call 59
             refine (HRD.out _ (AtG.below (by assumption))).mono ?_
             rintro e4 w4 ⟨rfl, hb4⟩
             have hS4 := AtG.call (W' := w4) (by assumption) hb4))
      all_goals
        refine (‹∀ (a : Act) (w : World), Code.wp Tryz.prog _ _ a w → _›) _ _ ?_
        have c0 := hS4.cell 0; have c1 := hS4.cell 1; have c2 := hS4.cell 2; have c3 := hS4.cell 3; have c4 := hS4.cell 4; have z1 := hS4.fz 1
        have K0 := Lib.hid (hS4.off (.int .i64 0))
        clear l1 l2
        go_wp2_with fail
        refine (HAT.out _).mono ?_
        rintro e5 w5 ⟨rfl, hb5⟩
        have hS5 := K0.out.call hb5
        obtain ⟨q, k, v, g, d0, d1, d2, d3, f0, f1, f2, f3⟩ := hS5.some
        clear c0 c1 c2 c3 c4 z1 hb5 hb3 hb4 hS3 hS4
        go_wp2_with fail
        have hb := (hS5.set (.int .u64 ((r.q : Nat) : Int)) (.string (bs r.k)) (.string (bs r.v)) (.bool r.g)).1
        exact bodyPost_ret (v := .tuple #[.agg #[.int .u64 ((r.q : Nat) : Int), .string (bs r.k), .string (bs r.v), .bool r.g], .int .i64 (xe : Int)]) (by simp [results, Tryz.results15, go_sem, d0, d1, d2, d3]) rfl ⟨rfl, hb⟩
    · rw [hg, gtV_z]
      have hx1 : (x0 == 0) = false := by simpa using hx0
      simp only [ev]
      clear hg he
      go_enter Tryz.func15, Tryz.ntmps15
      go_wp2_with fail
      refine (HR.out _).mono ?_
      rintro e1 w1 ⟨rfl, rfl⟩
      have hA1 := A0.out
      clear A0
      generalize (w.alloc _).alloc _ = W0 at hA1 ⊢
      go_wp2_with fail
      go_region_held3 (fun W => AtG 51 w (.string (bs e.k)) (.int .i64 e.o) (.int .i64 e.l) (.int .u64 ((e.q : Nat) : Int)) (.bool e.g) W)
        (first | assumption | exact hA1.drew)
        (first
          | (go_at_call 28
             refine (HNM.out _ (AtG.below (by assumption))).mono ?_
             rintro e3 w3 ⟨rfl, hb3⟩
             have hS3 := AtG.call (W' := w3) (by assumption) hb3)
          | (go_at_call 59
             refine (HRD.out _ (AtG.below (by assumption))).mono ?_
             rintro e4 w4 ⟨rfl, hb4⟩
             have hS4 := AtG.call (W' := w4) (by assumption) hb4))
      all_goals
        refine (‹∀ (a : Act) (w : World), Code.wp Tryz.prog _ _ a w → _›) _ _ ?_
        obtain ⟨q, k, v, g, d0, d1, d2, d3, f0, f1, f2, f3⟩ := hS4.some
        clear l1 l2 hb3 hb4 hS3
        go_wp2_with fail
        have hb := (hS4.set (.int .u64 0) (.string ⟨#[]⟩) (.string ⟨#[]⟩) (.bool false)).1
        exact bodyPost_ret (v := .tuple #[.agg #[.int .u64 0, .string ⟨#[]⟩, .string ⟨#[]⟩, .bool false], .int .i64 x0]) (by simp [results, Tryz.results15, go_sem, d0, d1, d2, d3]) rfl ⟨rfl, hb⟩
  · have hg : gtR S n e = (Rc.z, 1) := by unfold gtR; rw [if_neg hn]
    rw [hg, gtV_z]
    have HR := Lib.hid (sgv_no hn)
    clear hg hn
    simp only [ev]
    go_enter Tryz.func15, Tryz.ntmps15
    go_wp2_with fail
    refine (HR.out _).mono ?_
    rintro e w1 ⟨rfl, rfl⟩
    have hA := A0.out
    generalize (w.alloc _).alloc _ = W0 at hA ⊢
    clear A0
    obtain ⟨q, k, v, g, d0, d1, d2, d3, f0, f1, f2, f3⟩ := hA.some
    go_wp2_with fail
    have hb := (hA.set (.int .u64 0) (.string ⟨#[]⟩) (.string ⟨#[]⟩) (.bool false)).1
    exact bodyPost_ret (v := .tuple #[.agg #[.int .u64 0, .string ⟨#[]⟩, .string ⟨#[]⟩, .bool false], .int .i64 1]) (by simp [results, Tryz.results15, go_sem, d0, d1, d2, d3]) rfl ⟨rfl, hb⟩
end Go.Proofs.YtmekkbhblghbmaaGreatDoor
