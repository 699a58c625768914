/- The program's directory: Get and Far. -/
import Derived.Test.YtbjginlhgedjdaaDoorKpsearch
namespace Go.Proofs.YtbjginlhgedjdaaDoor.K
open Go.RowKit
set_option linter.unusedVariables false

theorem ml_old {B : Nat} {w w' : World} (h : Ml B w) (hb : Below w.heap.size w w') : Ml B w' := by
  obtain ⟨h1, t, fz, h2⟩ := h
  exact ⟨h1, t, fz, by rw [hb.block _ (Array.getElem?_eq_some_iff.1 h2).1]; exact h2⟩

theorem get_fin {w w1 w3 : World} {a0 a1 a2 a3 : Value} {t : TypeId} (hn : w1.heap[w.heap.size]? = some (.cells #[.int .i64 0, .int .i64 0, .int .i64 0, .int .u64 0] t (0, 0))) (hb : Below w.heap.size w w1)
    (h : World.drew ((((w1.setCell ⟨w.heap.size, 0, none⟩ a0).setCell ⟨w.heap.size, 1, none⟩ a1).setCell ⟨w.heap.size, 2, none⟩ a2).setCell ⟨w.heap.size, 3, none⟩ a3) = w3) :
    Below w.heap.size w w3 ∧ w3.cell? ⟨w.heap.size, 0, none⟩ = some a0 ∧ w3.cell? ⟨w.heap.size, 1, none⟩ = some a1 ∧ w3.cell? ⟨w.heap.size, 2, none⟩ = some a2 ∧ w3.cell? ⟨w.heap.size, 3, none⟩ = some a3 := by
  have h1 := heap_setCell_same w1 w.heap.size 0 _ _ a0 hn
  have h2 := heap_setCell_same _ w.heap.size 1 _ _ a1 h1
  have h3 := heap_setCell_same _ w.heap.size 2 _ _ a2 h2
  have h4 := heap_setCell_same _ w.heap.size 3 _ _ a3 h3
  have b4 := ((((hb.setCell (p := ⟨w.heap.size, 0, none⟩) (Nat.le_refl _) a0).setCell (p := ⟨w.heap.size, 1, none⟩) (Nat.le_refl _) a1).setCell (p := ⟨w.heap.size, 2, none⟩) (Nat.le_refl _) a2).setCell (p := ⟨w.heap.size, 3, none⟩) (Nat.le_refl _) a3).drew
  rw [h] at b4
  have hc := fun i => cell_of_row w3 w.heap.size i _ _ (0, 0) (by rw [← h]; exact h4)
  refine ⟨b4, ?_, ?_, ?_, ?_⟩ <;> rw [hc] <;> rfl
section
variable {B pb rb n : Nat} {S : Dr} {w : World} {k : List UInt8}
set_option maxHeartbeats 400000 in
theorem pget_at (h0 : Pk B w pb rb n S) {o : Option (Ent Lc)} {i : Nat} (ho : S[i]? = some o)
    (hs : ∀ W, Below w.heap.size w W → Calls Tryd.prog 24 #[.pointer (some ⟨pb, 0, none⟩), .string (bs k)] W fun e w' => e = .returned (.int .i64 i) ∧ W = w')
    {l : Lc} (hl : o = none ∧ l = noLoc ∨ ∃ s, o = some (s, l)) :
    Calls Tryd.prog 12 #[.pointer (some ⟨pb, 0, none⟩), .string (bs k)] w fun e w' => e = .returned (.tuple #[locV l, .bool !o.isNone]) ∧ Below w.heap.size w w' := by
  have hb0 : Below w.heap.size w (w.alloc (.cells #[.int .i64 0, .int .i64 0, .int .i64 0, .int .u64 0] 31)) := (Below.refl _ _).alloc (Nat.le_refl _) _
  have h := h0.below hb0
  have HA := Lib.hid (hs _ hb0)
  have hcs := h.few
  have hil := (List.getElem?_eq_some_iff.1 ho).1
  have c0 := h.head
  have q1 := h.cells ho (show 1 < 6 by omega)
  have q2 := h.cells ho (show 2 < 6 by omega)
  have q3 := h.cells ho (show 3 < 6 by omega)
  have q4 := h.cells ho (show 4 < 6 by omega)
  have e1 : (slotv o)[1]? = some (.int .i64 l.seg) ∧ (slotv o)[2]? = some (.int .i64 l.off) ∧ (slotv o)[3]? = some (.int .i64 l.len) ∧ (slotv o)[4]? = some (.int .u64 l.seq) := by
    rcases hl with ⟨rfl, rfl⟩ | ⟨s, rfl⟩ <;> exact ⟨rfl, rfl, rfl, rfl⟩
  rw [e1.1] at q1; rw [e1.2.1] at q2; rw [e1.2.2.1] at q3; rw [e1.2.2.2] at q4
  have HE := Lib.hid (fun W (hW : Old (w.alloc (.cells #[.int .i64 0, .int .i64 0, .int .i64 0, .int .u64 0] 31)) W) => pempty_any (h.below hW) ho)
  have HB0 := Lib.hid hb0
  have hrl := h.lt
  clear h0 h hs hb0 hl e1 ho
  generalize o.isNone = nn at *
  generalize S.length = L at *
  go_enter Tryd.func12, Tryd.ntmps12
  go_wp2_with fail
  refine HA.out.mono ?_
  rintro e w1 ⟨rfl, rfl⟩
  have hn := heap_alloc_new w (.cells #[.int .i64 0, .int .i64 0, .int .i64 0, .int .u64 0] 31)
  generalize hW : w.alloc _ = w1 at *
  have hwl : w.heap.size < w1.heap.size := (Array.getElem?_eq_some_iff.1 hn).1
  obtain ⟨hp1, hr1⟩ := hrl
  have m0 : ∀ W, Old w1 W → W.cell? ⟨pb, 0, none⟩ = some (.slice (some ⟨rb, 0, none⟩) L L) := fun W hW => by rw [Below.cell (p := ⟨pb, 0, none⟩) hW hp1]; exact c0
  have m1 : ∀ W, Old w1 W → W.cell? ⟨rb, i * 6 + 1, none⟩ = some (.int .i64 l.seg) := fun W hW => by rw [Below.cell (p := ⟨rb, _, none⟩) hW hr1]; exact q1
  have m2 : ∀ W, Old w1 W → W.cell? ⟨rb, i * 6 + 2, none⟩ = some (.int .i64 l.off) := fun W hW => by rw [Below.cell (p := ⟨rb, _, none⟩) hW hr1]; exact q2
  have m3 : ∀ W, Old w1 W → W.cell? ⟨rb, i * 6 + 3, none⟩ = some (.int .i64 l.len) := fun W hW => by rw [Below.cell (p := ⟨rb, _, none⟩) hW hr1]; exact q3
  have m4 : ∀ W, Old w1 W → W.cell? ⟨rb, i * 6 + 4, none⟩ = some (.int .u64 l.seq) := fun W hW => by rw [Below.cell (p := ⟨rb, _, none⟩) hW hr1]; exact q4
  have hc := fun t => cell_of_row _ w.heap.size t _ _ (0, 0) hn
  have d0 := hc 0; have d1 := hc 1; have d2 := hc 2; have d3 := hc 3
  simp only [List.getElem?_toArray, List.getElem?_cons_succ, List.getElem?_cons_zero] at d0 d1 d2 d3
  have hfz : ∀ t, w1.frozen? ⟨w.heap.size, t, none⟩ = false := fun t => by simp only [World.frozen?, hn]; simp
  have HNB := Lib.hid hn
  have K0 := Old.refl w1
  clear hc hn hW
  go_wp2_with fail
  have l0 := m0 _ K0; have l1 := m1 _ K0; have l2 := m2 _ K0; have l3 := m3 _ K0; have l4 := m4 _ K0
  clear m0 m1 m2 m3 m4
  go_region_with (go_at_call 25; refine (HE.out _ (by first | exact K0 | exact K0.drew)).mono ?_; rintro e w2 ⟨rfl, rfl⟩)
  all_goals
    go_wp2_with fail
    generalize hW3 : World.drew _ = w3
    have hfin := get_fin HNB.out HB0.out hW3
    obtain ⟨hb3, z0, z1, z2, z3⟩ := hfin
    clear hW3 l0 l1 l2 l3 l4 d0 d1 d2 d3 hfz
    simp only [List.getElem_toArray, List.getElem_cons_succ, List.getElem_cons_zero]
    go_frame
    exact bodyPost_ret (v := .tuple #[locV l, .bool !nn]) (by simp [results, Tryd.results12, go_sem, locV, z0, z1, z2, z3]) rfl ⟨rfl, hb3⟩
theorem pget_yes (h : Pk B w pb rb n S) (hM : Ml B w) (hk : k.length ≤ maxLen) (hv : Inv hm S) {i : Nat} {v : Lc} (hi : Has S i k v) :
    Calls Tryd.prog 12 #[.pointer (some ⟨pb, 0, none⟩), .string (bs k)] w fun e w' => e = .returned (.tuple #[locV v, .bool true]) ∧ Below w.heap.size w w' :=
  pget_at h hi (fun W hW => psearch_yes (h.below hW) (ml_old hM hW) hk hv hi) (Or.inr ⟨k, rfl⟩)
theorem pget_no (h : Pk B w pb rb n S) (hM : Ml B w) (hk : k.length ≤ maxLen) (hn : ∀ i v, ¬ Has S i k v) {e0 : Nat} (he : Empty S e0) :
    Calls Tryd.prog 12 #[.pointer (some ⟨pb, 0, none⟩), .string (bs k)] w fun e w' => e = .returned (.tuple #[locV noLoc, .bool false]) ∧ Below w.heap.size w w' := by
  have hel := empty_lt he
  have hff := ff_first (homeLt k S.length (by omega)) he
  exact pget_at h hff.1 (fun W hW => psearch_no (h.below hW) (ml_old hM hW) hk hn he) (Or.inl ⟨rfl, rfl⟩)

set_option maxHeartbeats 400000 in
theorem pfar_no (h : Pk B w pb rb n S) (hM : Ml B w) (hk : k.length ≤ maxLen) (hn : ∀ i v, ¬ Has S i k v) {e0 : Nat} (he : Empty S e0) :
    Calls Tryd.prog 19 #[.pointer (some ⟨pb, 0, none⟩), .string (bs k)] w fun e w' => e = .returned (.tuple #[.int .i64 0, .bool false]) ∧ Below w.heap.size w w' := by
  have hel := empty_lt he
  have hff := ff_first (homeLt k S.length (by omega)) he
  have HA := Lib.hid (psearch_no h hM hk hn he)
  have HE := Lib.hid (pempty_any h hff.1)
  simp only [Option.isNone] at HE
  generalize ff S (hm k S.length) = f at *
  clear h hn hff he
  go_enter Tryd.func19, Tryd.ntmps19
  go_wp2_with (first
    | (go_at_call 24; refine HA.out.mono ?_; rintro e w1 ⟨rfl, rfl⟩)
    | (go_at_call 25; refine HE.out.mono ?_; rintro e w1 ⟨rfl, rfl⟩)
    | fail)
  go_ret2
  exact ⟨rfl, Below.refl _ _⟩

set_option maxHeartbeats 400000 in
theorem pfar_yes (h : Pk B w pb rb n S) (hM : Ml B w) (hk : k.length ≤ maxLen) (hv : Inv hm S) {i : Nat} {v : Lc} (hi : Has S i k v) :
    Calls Tryd.prog 19 #[.pointer (some ⟨pb, 0, none⟩), .string (bs k)] w fun e w' => e = .returned (.tuple #[.int .i64 ((dist S.length (hm k S.length) i : Nat) : Int), .bool true]) ∧ Below w.heap.size w w' := by
  have hil := has_lt hi
  have hcs := h.few
  have HA := Lib.hid (psearch_yes h hM hk hv hi)
  have HE := Lib.hid (pempty_any h hi)
  simp only [Option.isNone] at HE
  have HC := Lib.hid (fun W (hW : Old w W) => pcap_any (h.below hW))
  have HH := Lib.hid (fun W (hW : Old w W) => phome_any (h.below hW) (ml_old hM hW) hk (by omega))
  have hhm := homeLt k S.length (by omega)
  have hmd := mod_dist hhm hil
  have hq : ((i : Int) - ((hm k S.length : Nat) : Int) + (S.length : Int)) % (S.length : Int) = ((dist S.length (hm k S.length) i : Nat) : Int) := by
    rw [← hmd, show (i : Int) - ((hm k S.length : Nat) : Int) + (S.length : Int) = ((i + S.length - hm k S.length : Nat) : Int) by omega]
    exact (Int.natCast_emod _ _).symm
  have hq2 : (IntKind.i64.wrap (IntKind.i64.wrap ((i : Int) - ((hm k S.length : Nat) : Int)) + (S.length : Int))).tmod (S.length : Int) = ((dist S.length (hm k S.length) i : Nat) : Int) := by
    have w1 : IntKind.i64.wrap ((i : Int) - ((hm k S.length : Nat) : Int)) = (i : Int) - ((hm k S.length : Nat) : Int) := by rw [IntKind.wrap_i64]; omega
    have w2 : IntKind.i64.wrap ((i : Int) - ((hm k S.length : Nat) : Int) + (S.length : Int)) = (i : Int) - ((hm k S.length : Nat) : Int) + (S.length : Int) := by rw [IntKind.wrap_i64]; omega
    rw [w1, w2, Int.tmod_eq_emod_of_nonneg (by omega)]
    exact hq
  have HQ := Lib.hid hq
  clear hmd hq hq2 h hi hv
  have hL0 : ¬ S.length = 0 := by omega
  generalize dist S.length (hm k S.length) i = D at *
  generalize hm k S.length = H at *
  generalize S.length = L at *
  have K0 := Old.refl w
  go_enter Tryd.func19, Tryd.ntmps19
  go_wp2_with (first
    | (go_at_call 24; refine HA.out.mono ?_; rintro e w1 ⟨rfl, rfl⟩)
    | (go_at_call 25; refine HE.out.mono ?_; rintro e w1 ⟨rfl, rfl⟩)
    | (go_at_call 30; refine (HH.out _ K0).mono ?_; rintro e8 w8 ⟨rfl, rfl⟩)
    | (go_at_call 18; refine (HC.out _ K0).mono ?_; rintro e8 w8 ⟨rfl, rfl⟩)
    | fail)
  go_ret2
  exact ⟨congrArg (fun x => Ending.returned (.tuple #[.int .i64 x, .bool true])) HQ.out, K0⟩
end
end Go.Proofs.YtbjginlhgedjdaaDoor.K
