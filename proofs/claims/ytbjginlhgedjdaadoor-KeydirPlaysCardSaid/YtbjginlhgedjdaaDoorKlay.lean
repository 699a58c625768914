/- The document's directory: a slot is put at the first empty place from its home on. -/
import Derived.Test.YtbjginlhgedjdaaDoorKref
namespace Go.Proofs.YtbjginlhgedjdaaDoor.K
open Go.RowKit
set_option linter.unusedVariables false

/-- A slot as a value. -/
def slotV (s : Ent Lc) : Value := .agg #[.string (bs s.1), .int .i64 s.2.seg, .int .i64 s.2.off, .int .i64 s.2.len, .int .u64 s.2.seq, .bool true]

set_option maxHeartbeats 400000 in
theorem reflay_any {B qb gb : Nat} {S : Dr} {w : World} {s : Ent Lc} {e0 : Nat} (h : Rk B w qb gb S) (hs : s.1.length ≤ maxLen) (he : Empty S e0) :
    Calls Tryd.prog 28 #[.pointer (some ⟨qb, 0, none⟩), slotV s] w fun e w' => e = .returned (.tuple #[]) ∧ Rk B w' qb gb (lay hm S s) ∧ Turn (fun k => k = gb) w w' := by
  have c0 := h.head
  have hcs := h.few
  have hel := empty_lt he
  have hpl := place_hm s.1 (show 0 < S.length by omega)
  have hhm := homeLt s.1 S.length (by omega)
  have hff := ff_first hhm he
  obtain ⟨L, hL⟩ : ∃ L, L = S.length := ⟨_, rfl⟩
  have hP : ∀ W, Calls Tryd.prog 31 #[.string (bs s.1), .int .i64 L] W fun e w' => e = .returned (.int .i64 ((hm s.1 L : Nat) : Int)) ∧ W = w' := fun W => by
    have := refplace_any (bs s.1) (L : Int) W (by rw [bs_size]; unfold maxLen at hs; omega) (by omega) (by omega)
    rw [bs_list, hL, hpl, ← hL] at this
    exact this
  rw [← hL] at c0 hcs hel hhm hff
  have HL := Lib.hid hL; have HR := Lib.hid h; have HF := Lib.hid hff; have HP := Lib.hid hP
  clear hL h hff hP hpl he
  unfold slotV
  go_enter Tryd.func28, Tryd.ntmps28
  go_wp2_with fail
  have m0 : (w.alloc (.cells #[.string (bs s.1), .int .i64 s.2.seg, .int .i64 s.2.off, .int .i64 s.2.len, .int .u64 s.2.seq, .bool true] 63)).cell? ⟨qb, 0, none⟩ = some (.slice (some ⟨gb, 0, none⟩) L L) := by rw [World.cell?_of_block (w := w) (Below.heap_alloc _ _ _ HR.out.lt.1)]; exact c0
  go_region_with (go_at_call 31; refine (HP.out _).mono ?_; rintro e w' ⟨rfl, rfl⟩)
  all_goals
    go_wp2_with fail
    generalize hW : World.drew _ = wl
    have hOW : Below w.heap.size w wl := by rw [← hW]; exact ((Below.refl _ _).alloc (Nat.le_refl _) _).drew
    have hsb : wl.heap[w.heap.size]? = some (.cells #[.string (bs s.1), .int .i64 s.2.seg, .int .i64 s.2.off, .int .i64 s.2.len, .int .u64 s.2.seq, .bool true] 63 (0, 0)) := by rw [← hW]; exact heap_alloc_new w _
    have HR2 := Lib.hid (HR.out.below hOW)
    have HS := Lib.hid hsb; have HB := Lib.hid hOW
    clear hW hOW hsb c0 m0
    have c0 := HR2.out.head
    rw [← HL.out] at c0
    have hfl := empty_lt HF.out.1
    rw [← HL.out] at hfl
    obtain ⟨f, hf⟩ : ∃ f, f = ff S (hm s.1 L) := ⟨_, rfl⟩
    rw [← hf] at HF hfl
    obtain ⟨m, hm'⟩ : ∃ m, m = dist L (hm s.1 L) f := ⟨_, rfl⟩
    have hdl := dist_lt hhm hfl
    rw [← hm'] at hdl
    obtain ⟨h0, hh0⟩ : ∃ h0, h0 = hm s.1 L := ⟨_, rfl⟩
    rw [← hh0] at hhm hm' HF ⊢
    have HM := Lib.hid hm'; have HFF := Lib.hid hf; have HHH := Lib.hid hh0
    clear hf hm' hh0
    simp only [List.getElem_toArray, List.getElem_cons_succ, List.getElem_cons_zero]
    go_frame
    go_loopg [4] m (fun g it wr => ∃ n j : Nat, n + g = m ∧ it = .int .i64 j ∧ j < L ∧ dist L h0 j = n ∧ wl = wr)
    case atStart => exact ⟨0, h0, by omega, rfl, hhm, dist_self _ _, rfl⟩
    case round =>
      obtain ⟨n, j, hn, rfl, hjl, hd, rfl⟩ := hrel
      obtain ⟨o, ho⟩ : ∃ o, S[j]? = some o := ⟨S[j]'(by have := HL.out; omega), List.getElem?_eq_getElem _⟩
      have d5 := HR2.out.cells ho (show 5 < 6 by omega)
      by_cases hlt : n < m
      · cases o with
        | none => exact absurd ho (HF.out.2 j (by have := HL.out; omega) (by rw [← HL.out, ← HM.out, hd]; exact hlt))
        | some x =>
          simp only [slotv, List.getElem?_cons_succ, List.getElem?_cons_zero] at d5
          have HNX := Lib.hid (dist_nx hhm hjl (by omega))
          have hnl := nx_lt hjl
          unfold nx at hnl
          unfold nx at HNX
          clear ho
          have hmod : ((j : Int) + 1) % (L : Int) = (((j + 1) % L : Nat) : Int) := by push_cast; rfl
          generalize (j + 1) % L = j2 at *
          go_wp2
          go_roundg (gk - 1)
          case measure => omega
          case rel => exact ⟨n + 1, j2, by omega, by go_num, hnl, by rw [HNX.out, hd], rfl⟩
      · obtain rfl : j = f := dist_inj hhm hjl hfl (by rw [← HM.out]; omega)
        have e1 : o = none := by
          have := HF.out.1
          unfold Empty at this
          rw [ho] at this; exact Option.some.inj this
        subst e1
        simp only [slotv, List.getElem?_cons_succ, List.getElem?_cons_zero] at d5
        have hc : ∀ t, wl.cell? ⟨w.heap.size, t, none⟩ = _ := fun t => cell_of_row wl w.heap.size t _ _ (0, 0) HS.out
        have e0 := hc 0; have e1 := hc 1; have e2 := hc 2; have e3 := hc 3; have e4 := hc 4; have e5 := hc 5
        have d0 := HR2.out.cells ho (show 0 < 6 by omega)
        have d1 := HR2.out.cells ho (show 1 < 6 by omega)
        have d2 := HR2.out.cells ho (show 2 < 6 by omega)
        have d3 := HR2.out.cells ho (show 3 < 6 by omega)
        have d4 := HR2.out.cells ho (show 4 < 6 by omega)
        rw [Nat.add_zero] at d0
        simp only [slotv, List.getElem?_cons_succ, List.getElem?_cons_zero] at d0 d1 d2 d3 d4
        simp only [List.getElem?_toArray, List.getElem?_cons_succ, List.getElem?_cons_zero] at e0 e1 e2 e3 e4 e5
        have fz : ∀ t, wl.frozen? ⟨gb, t, none⟩ = false := fun t => by simp [World.frozen?, HR2.out.row]
        clear hc
        go_wp2
        go_region
        go_end0
        have hp := HR2.out.put (i := j) (by have := HL.out; omega) (some s)
        rw [show (lay hm S s) = S.set j (some s) from by rw [HFF.out]; unfold lay; rw [← HL.out]]
        exact ⟨rfl, hp.1.below (Below.refl _ _).drew, (Turn.of_below _ HB.out (Nat.le_refl _)).trans (hp.2.drew 1)⟩
end Go.Proofs.YtbjginlhgedjdaaDoor.K
