/- The program's directory: Put of a key that is there, and of a new one with room. -/
import Derived.Test.YtbjginlhgedjdaaDoorKpget
namespace Go.Proofs.YtbjginlhgedjdaaDoor.K
open Go.RowKit
set_option linter.unusedVariables false

/-- What is behind a call that turns the program's directory. -/
def PkPost (B : Nat) (w : World) (pb rb m : Nat) (S' : Dr) (v : Value) (e : Ending) (w' : World) : Prop :=
  e = .returned v ∧ ∃ rb', Pk B w' pb rb' m S' ∧ (rb' = rb ∨ w.heap.size ≤ rb') ∧ Turn (fun k => k = pb ∨ k = rb) w w'

/-- .. where its ring stays where it is. -/
def PkStay (B : Nat) (w : World) (pb rb m : Nat) (S' : Dr) (v : Value) (e : Ending) (w' : World) : Prop :=
  e = .returned v ∧ Pk B w' pb rb m S' ∧ Turn (fun k => k = pb ∨ k = rb) w w'
theorem PkStay.post {B : Nat} {w : World} {pb rb m : Nat} {S' : Dr} {v : Value} {e : Ending} {w' : World} (h : PkStay B w pb rb m S' v e w') : PkPost B w pb rb m S' v e w' := ⟨h.1, rb, h.2.1, Or.inl rfl, h.2.2⟩

section
variable {B pb rb n : Nat} {S : Dr} {w : World} {k : List UInt8} {l : Lc}
set_option maxHeartbeats 1000000 in
theorem pput_yes (h0 : Pk B w pb rb n S) (hM : Ml B w) (hk : k.length ≤ maxLen) (hv : Inv hm S) {v : Lc} {i : Nat} (hi : Has S i k v) :
    Calls Tryd.prog 10 #[.pointer (some ⟨pb, 0, none⟩), .string (bs k), locV l] w (PkStay B w pb rb n (S.set i (some (k, l))) (.tuple #[])) := by
  have hb0 : Below w.heap.size w (w.alloc (.cells #[.int .i64 l.seg, .int .i64 l.off, .int .i64 l.len, .int .u64 l.seq] 31)) := (Below.refl _ _).alloc (Nat.le_refl _) _
  have h := h0.below hb0
  have HA := Lib.hid (psearch_yes h (ml_old hM hb0) hk hv hi)
  have HE := Lib.hid (pempty_any h hi)
  simp only [Option.isNone] at HE
  have c0 := h.head
  have hcs := h.few
  have hil := has_lt hi
  have d0 := h.cells hi (show 0 < 6 by omega)
  have d1 := h.cells hi (show 1 < 6 by omega)
  have d2 := h.cells hi (show 2 < 6 by omega)
  have d3 := h.cells hi (show 3 < 6 by omega)
  have d4 := h.cells hi (show 4 < 6 by omega)
  have d5 := h.cells hi (show 5 < 6 by omega)
  rw [Nat.add_zero] at d0
  simp only [slotv, List.getElem?_cons_succ, List.getElem?_cons_zero] at d0 d1 d2 d3 d4 d5
  have hn := heap_alloc_new w (.cells #[.int .i64 l.seg, .int .i64 l.off, .int .i64 l.len, .int .u64 l.seq] 31)
  have hc := fun t => cell_of_row _ w.heap.size t _ _ (0, 0) hn
  have e0 := hc 0; have e1 := hc 1; have e2 := hc 2; have e3 := hc 3
  simp only [List.getElem?_toArray, List.getElem?_cons_succ, List.getElem?_cons_zero] at e0 e1 e2 e3
  have fz : ∀ t, (w.alloc (.cells #[.int .i64 l.seg, .int .i64 l.off, .int .i64 l.len, .int .u64 l.seq] 31)).frozen? ⟨rb, t, none⟩ = false := fun t => by simp only [World.frozen?, h.row]; simp
  obtain ⟨L, hL⟩ : ∃ L, L = S.length := ⟨_, rfl⟩
  rw [← hL] at c0 hcs hil
  have HR := Lib.hid h; have HLL := Lib.hid hL; have HI := Lib.hid hi; have HB := Lib.hid hb0
  clear h h0 hi hL hn hc hb0 hM hv
  unfold locV
  go_enter Tryd.func10, Tryd.ntmps10
  go_wp2_with fail
  refine HA.out.mono ?_
  rintro e w1 ⟨rfl, rfl⟩
  go_wp2_with fail
  refine HE.out.mono ?_
  rintro e w1 ⟨rfl, rfl⟩
  generalize hW : w.alloc _ = W at *
  go_wp2_with fail
  go_region
  go_wp2_with fail
  have hp := HR.out.put (i := i) (by have := HLL.out; omega) (some (k, l))
  refine bodyPost_ret (v := .tuple #[]) (results_none Tryd.results10 _ _ _) rfl ⟨rfl, hp.1.below (Below.refl _ _).drew, (Turn.of_below _ HB.out (Nat.le_refl _)).trans ((hp.2.mono (fun k _ hk => Or.inr hk)).drew 1)⟩

set_option maxHeartbeats 1000000 in
theorem pput_fit (h0 : Pk B w pb rb (cnt S) S) (hM : Ml B w) (hk : k.length ≤ maxLen) (hn : ∀ i v, ¬ Has S i k v) (hc : cnt S < S.length) (hfit : ¬ S.length < 2 * (cnt S + 1)) :
    Calls Tryd.prog 10 #[.pointer (some ⟨pb, 0, none⟩), .string (bs k), locV l] w (PkStay B w pb rb (cnt S + 1) (lay hm S (k, l)) (.tuple #[])) := by
  have hb0 : Below w.heap.size w (w.alloc (.cells #[.int .i64 l.seg, .int .i64 l.off, .int .i64 l.len, .int .u64 l.seq] 31)) := (Below.refl _ _).alloc (Nat.le_refl _) _
  have h := h0.below hb0
  obtain ⟨x, hx⟩ := empty_is (S := S) hc
  have hff := ff_first (homeLt k S.length (by omega)) hx
  have hil := empty_lt hff.1
  have HA := Lib.hid (psearch_no h (ml_old hM hb0) hk hn hx)
  have HE := Lib.hid (pempty_any h hff.1)
  have HCP := Lib.hid (fun W (hW : Old (w.alloc (.cells #[.int .i64 l.seg, .int .i64 l.off, .int .i64 l.len, .int .u64 l.seq] 31)) W) => pcap_any (h.below hW))
  simp only [Option.isNone] at HE
  have c0 := h.head
  have c1 := h.many
  have hcs := h.few
  have hcn := h.cnt
  have HP0 := Lib.hid h0.lt.1
  have hn0 := heap_alloc_new w (.cells #[.int .i64 l.seg, .int .i64 l.off, .int .i64 l.len, .int .u64 l.seq] 31)
  obtain ⟨i, hi⟩ : ∃ i, i = ff S (hm k S.length) := ⟨_, rfl⟩
  obtain ⟨L, hL⟩ : ∃ L, L = S.length := ⟨_, rfl⟩
  obtain ⟨M, hM'⟩ : ∃ M, M = cnt S := ⟨_, rfl⟩
  rw [← hL] at HA HE HCP c0 hcs hil hc hfit hi
  rw [← hi] at HA HE hil
  rw [← hM'] at c1 hc hfit hcn
  have HR := Lib.hid h; have HLL := Lib.hid hL; have HI := Lib.hid hi; have HB := Lib.hid hb0; have HMM := Lib.hid hM'; have HFI := Lib.hid hff; have HN0 := Lib.hid hn0
  clear h h0 hi hL hb0 hM hM' hff hx hn0 hn
  unfold locV
  go_enter Tryd.func10, Tryd.ntmps10
  go_wp2_with fail
  refine HA.out.mono ?_
  rintro e w1 ⟨rfl, rfl⟩
  go_wp2_with fail
  refine HE.out.mono ?_
  rintro e w1 ⟨rfl, rfl⟩
  generalize hW : w.alloc _ = W at *
  go_wp2_with fail
  have K0 := Old.refl W
  obtain ⟨H, hH⟩ : ∃ H, H = L / 2 := ⟨_, rfl⟩
  have hw1 : IntKind.i64.wrap ((M : Int) + 1) = (M : Int) + 1 := IntWalk.i64_in _ ⟨by omega, by omega⟩
  have hw2 : (L : Int).tdiv 2 = (H : Int) := by rw [Int.tdiv_eq_ediv_of_nonneg (by omega)]; omega
  have hw3 : IntKind.i64.wrap (H : Int) = (H : Int) := IntWalk.i64_in _ ⟨by omega, by omega⟩
  have hlt1 : ¬ ((H : Int) < (M : Int) + 1) := by omega
  have hlt2 : decide ((H : Int) < (M : Int) + 1) = false := decide_eq_false hlt1
  clear hH
  go_quiet ((go_at_call 18; exact Calls.quiet_of_same ((HCP.out _ (K0.drewN _)).mono (fun _ _ h => ⟨h.1, h.2.symm⟩))))
  have hO5 := K0.drewN nq
  generalize W.drewN nq = W5 at *
  have hR5 := HR.out.below hO5
  have c0 := hR5.head
  have c1 := hR5.many
  rw [← HLL.out] at c0
  rw [← HMM.out] at c1
  have fz5 : W5.frozen? ⟨pb, 1, none⟩ = false := by simp only [World.frozen?, hR5.blk]; simp
  obtain ⟨hR6, t6⟩ := hR5.num (m := M + 1) (by omega)
  rw [show ((M + 1 : Nat) : Int) = (M : Int) + 1 by omega] at hR6 t6
  have HR6 := Lib.hid hR6; have HT6 := Lib.hid t6; have HO5 := Lib.hid hO5
  have hwl : w.heap.size < W.heap.size := (Array.getElem?_eq_some_iff.1 HN0.out).1
  have hpw := HR.out.lt
  have hbs := HR.out.base
  clear hR5 hR6 t6 hO5 K0 hw1 hw2 hw3 hlt1 hlt2
  go_wp2_with fail
  generalize hW6 : World.setCell _ _ _ = W6 at *
  have c0 := HR6.out.head
  rw [← HLL.out] at c0
  have fz : ∀ t, W6.frozen? ⟨rb, t, none⟩ = false := fun t => by simp only [World.frozen?, HR6.out.row]; simp
  have hne : w.heap.size ≠ pb := fun e => by have := HP0.out; omega
  have hc := fun t => cell_of_row W6 w.heap.size t _ _ (0, 0) (by rw [HT6.out.block _ (Nat.lt_of_lt_of_le hwl HO5.out.size) hne, HO5.out.block _ hwl]; exact HN0.out)
  have e0 := hc 0; have e1 := hc 1; have e2 := hc 2; have e3 := hc 3
  simp only [List.getElem?_toArray, List.getElem?_cons_succ, List.getElem?_cons_zero] at e0 e1 e2 e3
  have he := HFI.out.1
  rw [← HLL.out, ← HI.out] at he
  have d0 := HR6.out.cells he (show 0 < 6 by omega)
  have d1 := HR6.out.cells he (show 1 < 6 by omega)
  have d2 := HR6.out.cells he (show 2 < 6 by omega)
  have d3 := HR6.out.cells he (show 3 < 6 by omega)
  have d4 := HR6.out.cells he (show 4 < 6 by omega)
  have d5 := HR6.out.cells he (show 5 < 6 by omega)
  rw [Nat.add_zero] at d0
  simp only [slotv, List.getElem?_cons_succ, List.getElem?_cons_zero] at d0 d1 d2 d3 d4 d5
  clear hc he hW6 c1 fz5
  go_region
  go_wp2_with fail
  have hp := HR6.out.put (i := i) (by have := HLL.out; omega) (some (k, l))
  rw [show lay hm S (k, l) = S.set i (some (k, l)) by unfold lay; rw [← HLL.out, HI.out]]
  refine bodyPost_ret (v := .tuple #[]) (results_none Tryd.results10 _ _ _) rfl ⟨rfl, ?_, ?_⟩
  · rw [← HMM.out]; exact hp.1.below (Below.refl _ _).drew
  · exact ((Turn.of_below _ (HB.out.trans (HO5.out.mono (Nat.le_of_lt hwl))) (Nat.le_refl _)).trans (HT6.out.mono (fun k _ hk => Or.inl hk))).trans ((hp.2.mono (fun k _ hk => Or.inr hk)).drew 1)
end
end Go.Proofs.YtbjginlhgedjdaaDoor.K
