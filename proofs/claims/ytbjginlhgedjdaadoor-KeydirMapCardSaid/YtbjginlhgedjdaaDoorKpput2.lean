/- The program's directory: Put of a new key where there is no room; Put of any key. -/
import Derived.Test.YtbjginlhgedjdaaDoorKpdouble
namespace Go.Proofs.YtbjginlhgedjdaaDoor.K
open Go.RowKit
set_option linter.unusedVariables false

section
variable {B pb rb n : Nat} {S : Dr} {w : World} {k : List UInt8} {l : Lc}
set_option maxHeartbeats 1000000 in
theorem pput_grow (h0 : Pk B w pb rb (cnt S) S) (hM : Ml B w) (hO : Ok hm S) (hk : k.length ≤ maxLen) (hn : ∀ i v, ¬ Has S i k v) (hfit : S.length < 2 * (cnt S + 1)) (hks : ∀ s ∈ sre S, s.1.length ≤ maxLen) (hfew : 2 * S.length ≤ 1024) :
    Calls Tryd.prog 10 #[.pointer (some ⟨pb, 0, none⟩), .string (bs k), locV l] w (PkPost B w pb rb (cnt S + 1) (lay hm (grow hm S) (k, l)) (.tuple #[])) := by
  have hb0 : Below w.heap.size w (w.alloc (.cells #[.int .i64 l.seg, .int .i64 l.off, .int .i64 l.len, .int .u64 l.seq] 31)) := (Below.refl _ _).alloc (Nat.le_refl _) _
  have h := h0.below hb0
  obtain ⟨x, hx⟩ := empty_is (S := S) hO.less
  have hff := ff_first (homeLt k S.length hO.pos) hx
  have hil := empty_lt hff.1
  have hM0 := ml_old hM hb0
  have HA := Lib.hid (psearch_no h hM0 hk hn hx)
  have HE := Lib.hid (pempty_any h hff.1)
  have HCP := Lib.hid (fun W (hW : Old (w.alloc (.cells #[.int .i64 l.seg, .int .i64 l.off, .int .i64 l.len, .int .u64 l.seq] 31)) W) => pcap_any (h.below hW))
  have HDB := Lib.hid (fun W (hW : Old (w.alloc (.cells #[.int .i64 l.seg, .int .i64 l.off, .int .i64 l.len, .int .u64 l.seq] 31)) W) => pdouble_any (h.below hW) (ml_old hM0 hW) hO hks hfew)
  simp only [Option.isNone] at HE
  have c0 := h.head
  have c1 := h.many
  have hcs := h.few
  have hcn := h.cnt
  have hha := hO.half
  have HP0 := Lib.hid h0.lt.1
  have hn0 := heap_alloc_new w (.cells #[.int .i64 l.seg, .int .i64 l.off, .int .i64 l.len, .int .u64 l.seq] 31)
  obtain ⟨g1, g2, g3, g4⟩ := grow_facts homeLt hO.inv hO.pos
  obtain ⟨y, hy⟩ := empty_is (S := grow hm S) (by rw [g2, g3]; have := hO.less; omega)
  have hgn : ∀ i v, ¬ Has (grow hm S) i k v := fun i v hi => by
    obtain ⟨j, hj⟩ := (g4 k v).1 ⟨i, hi⟩
    exact hn _ _ hj
  have hgf := ff_first (homeLt k (grow hm S).length (by rw [g2]; have := hO.pos; omega)) hy
  have hgi := empty_lt hgf.1
  obtain ⟨i, hi⟩ : ∃ i, i = ff S (hm k S.length) := ⟨_, rfl⟩
  obtain ⟨i2, hi2⟩ : ∃ i2, i2 = ff (grow hm S) (hm k (grow hm S).length) := ⟨_, rfl⟩
  obtain ⟨L, hL⟩ : ∃ L, L = S.length := ⟨_, rfl⟩
  obtain ⟨M, hM'⟩ : ∃ M, M = cnt S := ⟨_, rfl⟩
  rw [← hi2] at hgf hgi
  rw [g2, ← hL] at hgi
  have hHS := fun (W : World) (rb' : Nat) (hW : Pk B W pb rb' M (grow hm S)) (hMW : Ml B W) => psearch_no hW hMW hk hgn hy
  rw [← hi2] at hHS
  have HHS := Lib.hid hHS
  rw [← hL] at HA HE HCP c0 hcs hil hfit hi hfew hha
  rw [← hi] at HA HE hil
  rw [← hM'] at c1 hfit hcn hha
  have HR := Lib.hid h; have HLL := Lib.hid hL; have HI := Lib.hid hi; have HB := Lib.hid hb0; have HMM := Lib.hid hM'; have HFI := Lib.hid hgf; have HN0 := Lib.hid hn0; have HM0 := Lib.hid hM0; have HI2 := Lib.hid hi2; have HG2 := Lib.hid g2; have HG3 := Lib.hid g3
  clear h h0 hi hL hb0 hM hM' hff hx hn0 hn hM0 hO hks hHS g1 g2 g3 g4 hy hgn hi2 hgf
  unfold locV
  go_enter Tryd.func10, Tryd.ntmps10
  go_wp2_with fail
  refine HA.out.mono ?_
  rintro e w1 ⟨rfl, rfl⟩
  go_wp2_with fail
  refine HE.out.mono ?_
  rintro e w1 ⟨rfl, rfl⟩
  generalize hW : w.alloc _ = W at *
  go_wp2_with fail
  have K0 := Old.refl W
  obtain ⟨H, hH⟩ : ∃ H, H = L / 2 := ⟨_, rfl⟩
  have hw1 : IntKind.i64.wrap ((M : Int) + 1) = (M : Int) + 1 := IntWalk.i64_in _ ⟨by omega, by omega⟩
  have hw2 : (L : Int).tdiv 2 = (H : Int) := by rw [Int.tdiv_eq_ediv_of_nonneg (by omega)]; omega
  have hw3 : IntKind.i64.wrap (H : Int) = (H : Int) := IntWalk.i64_in _ ⟨by omega, by omega⟩
  have hlt1 : (H : Int) < (M : Int) + 1 := by omega
  have hlt2 : decide ((H : Int) < (M : Int) + 1) = true := decide_eq_true hlt1
  clear hH
  go_quiet ((go_at_call 18; exact Calls.quiet_of_same ((HCP.out _ (K0.drewN _)).mono (fun _ _ h => ⟨h.1, h.2.symm⟩))))
  have hO5 := K0.drewN nq
  have HD5 := Lib.hid (HDB.out _ hO5)
  have hR5 := HR.out.below hO5
  have hM5 := ml_old HM0.out hO5
  generalize W.drewN nq = W5 at *
  have HO5 := Lib.hid hO5; have HR5 := Lib.hid hR5; have HM5 := Lib.hid hM5
  clear K0 hw1 hw2 hw3 hlt1 hlt2 hO5 c0 c1 hR5 hM5 HDB HCP HA HE
  go_wp2_with fail
  refine HD5.out.mono ?_
  rintro e W7 ⟨rfl, rb', hp7, hrb, ht7⟩
  have hM7 : Ml B W7 := Ml.turn HM5.out ht7 (fun k hk => by have hk : k = pb := hk; rw [hk]; exact HR5.out.base.1)
  rw [← HMM.out] at hp7
  have HS7 := Lib.hid (HHS.out W7 rb' hp7 hM7)
  have HP7 := Lib.hid hp7; have HT7 := Lib.hid ht7; have HRB := Lib.hid hrb
  clear hp7 ht7 hM7 HD5 hrb
  go_wp2_with fail
  refine HS7.out.mono ?_
  rintro e w9 ⟨rfl, rfl⟩
  have c1 := HP7.out.many
  have fz5 : W7.frozen? ⟨pb, 1, none⟩ = false := by simp only [World.frozen?, HP7.out.blk]; simp
  obtain ⟨hR6, t6⟩ := HP7.out.num (m := M + 1) (by omega)
  rw [show ((M + 1 : Nat) : Int) = (M : Int) + 1 by omega] at hR6 t6
  have HR6 := Lib.hid hR6; have HT6 := Lib.hid t6
  have hwl : w.heap.size < W.heap.size := (Array.getElem?_eq_some_iff.1 HN0.out).1
  clear hR6 t6 HS7
  go_wp2_with fail
  generalize hW6 : World.setCell _ _ _ = W6 at *
  have c0 := HR6.out.head
  rw [HG2.out, ← HLL.out] at c0
  have fz : ∀ t, W6.frozen? ⟨rb', t, none⟩ = false := fun t => by simp only [World.frozen?, HR6.out.row]; simp
  have hne : w.heap.size ≠ pb := fun e => by have := HP0.out; omega
  have hc := fun t => cell_of_row W6 w.heap.size t _ _ (0, 0) (by rw [HT6.out.block _ (Nat.lt_of_lt_of_le (Nat.lt_of_lt_of_le hwl HO5.out.size) HT7.out.size) hne, HT7.out.block _ (Nat.lt_of_lt_of_le hwl HO5.out.size) hne, HO5.out.block _ hwl]; exact HN0.out)
  have e0 := hc 0; have e1 := hc 1; have e2 := hc 2; have e3 := hc 3
  simp only [List.getElem?_toArray, List.getElem?_cons_succ, List.getElem?_cons_zero] at e0 e1 e2 e3
  have he := HFI.out.1
  have d0 := HR6.out.cells he (show 0 < 6 by omega)
  have d1 := HR6.out.cells he (show 1 < 6 by omega)
  have d2 := HR6.out.cells he (show 2 < 6 by omega)
  have d3 := HR6.out.cells he (show 3 < 6 by omega)
  have d4 := HR6.out.cells he (show 4 < 6 by omega)
  have d5 := HR6.out.cells he (show 5 < 6 by omega)
  rw [Nat.add_zero] at d0
  simp only [slotv, List.getElem?_cons_succ, List.getElem?_cons_zero] at d0 d1 d2 d3 d4 d5
  clear hc he hW6 c1 fz5
  go_region
  go_wp2_with fail
  have hp := HR6.out.put (i := i2) (by rw [HG2.out, ← HLL.out]; exact hgi) (some (k, l))
  rw [show lay hm (grow hm S) (k, l) = (grow hm S).set i2 (some (k, l)) by unfold lay; rw [HI2.out]]
  have hz5 := HO5.out.size
  refine bodyPost_ret (v := .tuple #[]) (results_none Tryd.results10 _ _ _) rfl ⟨rfl, rb', ?_, Or.inr ?_, ?_⟩
  · rw [← HMM.out]; exact hp.1.below (Below.refl _ _).drew
  · have := HRB.out; omega
  · have q1 : Turn (fun k => k = pb ∨ k = rb) w W7 := (Turn.of_below _ (HB.out.trans (HO5.out.mono (Nat.le_of_lt hwl))) (Nat.le_refl _)).trans (HT7.out.mono (fun k _ hk => Or.inl hk))
    exact (q1.trans (HT6.out.mono (fun k _ hk => Or.inl hk))).then (hp.2.drew 1) (fun k hk => Or.inr (by have := HRB.out; have hk : k = rb' := hk; omega))
end
end Go.Proofs.YtbjginlhgedjdaaDoor.K
