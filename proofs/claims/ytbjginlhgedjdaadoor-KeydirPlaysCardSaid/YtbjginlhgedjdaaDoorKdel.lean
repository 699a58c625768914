/- The document's directory: Delete. -/
import Derived.Test.YtbjginlhgedjdaaDoorKput3
import Derived.Deep.MidRow
namespace Go.Proofs.YtbjginlhgedjdaaDoor.K
open Go.RowKit
set_option linter.unusedVariables false

/-- A new key is put, whether there is room or not. -/
theorem refput_new {B qb gb : Nat} {S : Dr} {w : World} {k : List UInt8} {l : Lc} (h : Rk B w qb gb S) (hO : Ok hm S) (hn : ∀ i v, ¬ Has S i k v) (hk : k.length ≤ maxLen) (hks : ∀ s ∈ sre S, s.1.length ≤ maxLen) (hfew : (room hm S).length ≤ 1024) :
    Calls Tryd.prog 11 #[.pointer (some ⟨qb, 0, none⟩), .string (bs k), locV l] w (RkPost B w qb gb (lay hm (room hm S) (k, l)) (.tuple #[])) := by
  unfold room at hfew ⊢
  split at hfew
  · rename_i hfit
    rw [if_pos hfit]
    rw [(grow_facts homeLt hO.inv hO.pos).2.1] at hfew
    exact refput_grow h hO.inv.one hn hk hO.half hO.pos hfit hfew hks
  · rename_i hfit
    rw [if_neg hfit]
    exact refput_fit h hO.inv.one hn hk hO.less hfit

theorem at_next {S : Dr} {i n : Nat} {k1 : List UInt8} {v1 : Lc} (hl : (at' hm S i n).1.length = S.length) (h : Has (at' hm S i n).1 (at' hm S i n).2 k1 v1) :
    at' hm S i (n + 1) = (lay hm ((at' hm S i n).1.set (at' hm S i n).2 none) (k1, v1), nx S.length (at' hm S i n).2) := by
  show stp hm (at' hm S i n) = _
  unfold stp
  unfold Has at h
  rw [h]
  simp only [hl]

theorem refdel_no {B qb gb : Nat} {S : Dr} {w : World} {k : List UInt8} (h : Rk B w qb gb S) (hn : ∀ i v, ¬ Has S i k v) :
    Calls Tryd.prog 15 #[.pointer (some ⟨qb, 0, none⟩), .string (bs k)] w fun e w' => e = .returned (.bool false) ∧ w = w' := by
  have HA := Lib.hid (refat_no h hn)
  clear h hn
  go_enter Tryd.func15, Tryd.ntmps15
  go_wp2_with fail
  refine HA.out.mono ?_
  rintro e w1 ⟨rfl, rfl⟩
  go_wp2_with fail
  go_ret
  exact ⟨rfl, rfl⟩

/-- The cells of a place may be laid anew. -/
theorem Rk.there {B qb gb : Nat} {S : Dr} {w : World} (h : Rk B w qb gb S) {i : Nat} (hi : i < S.length) : w.there gb (i * 6) 6 := fun j hj => by
  obtain ⟨o, ho⟩ : ∃ o, S[i]? = some o := ⟨S[i], List.getElem?_eq_getElem _⟩
  refine ⟨?_, by simp only [World.frozen?, h.row]; simp⟩
  rw [h.cells ho hj, List.getElem?_eq_getElem (by rw [slotv_len]; exact hj)]; rfl
theorem zeroOne : (#[Value.string ⟨#[]⟩, .int .i64 0, .int .i64 0, .int .i64 0, .int .u64 0, .bool false] : Array Value).all (·.oneCell') = true := by simp [Value.oneCell']
theorem infoSlot6 : (Tryd.prog.info? 63).map (·.size) = some 6 := by kernel_rfl

set_option maxHeartbeats 1000000 in
theorem refdel_yes {B qb gb : Nat} {S : Dr} {w : World} {k : List UInt8} {v : Lc} {i : Nat} (h : Rk B w qb gb S) (hO : Ok hm S) (hi : Has S i k v) (hks : ∀ s ∈ sre S, s.1.length ≤ maxLen) :
    Calls Tryd.prog 15 #[.pointer (some ⟨qb, 0, none⟩), .string (bs k)] w (RkPost B w qb gb (del hm S i) (.bool true)) := by
  have HA := Lib.hid (refat_yes h hO.inv.one hi)
  have c0 := h.head
  have hcs := h.few
  have hil := has_lt hi
  have HTH := Lib.hid (h.there hil)
  obtain ⟨W1, hW1⟩ : ∃ W1, W1 = w.setCells gb (i * 6) (#[Value.string ⟨#[]⟩, .int .i64 0, .int .i64 0, .int .i64 0, .int .u64 0, .bool false]).toList := ⟨_, rfl⟩
  have hp := h.put hil none
  rw [show slotv none = (#[Value.string ⟨#[]⟩, .int .i64 0, .int .i64 0, .int .i64 0, .int .u64 0, .bool false]).toList from rfl, ← hW1] at hp
  obtain ⟨R1, t1⟩ := hp
  have c1 := R1.head
  obtain ⟨L, hL⟩ : ∃ L, L = S.length := ⟨_, rfl⟩
  rw [List.length_set, ← hL] at c1
  rw [← hL] at c0 hcs hil
  have hnl := nx_lt hil
  have hmod : ((i : Int) + 1) % (L : Int) = ((nx L i : Nat) : Int) := by unfold nx; push_cast; rfl
  have M0 := Lib.hid (mid_zero homeLt hO.inv hi hO.less)
  have HAT := Lib.hid (at_mid homeLt hO.inv hi hO.less)
  have HOC := Lib.hid (fun n T j M hn => mid_occ (n := n) (T := T) (j := j) homeLt hO.inv hi hO.less M hn)
  have HEN := Lib.hid (fun T j M => mid_end (T := T) (j := j) homeLt hO.inv hi hO.less M)
  have HW1 := Lib.hid hW1; have HL := Lib.hid hL; have HI := Lib.hid hi; have HOO := Lib.hid hO; have HKS := Lib.hid hks; have HR1 := Lib.hid R1; have HT1 := Lib.hid t1
  clear h hO hi hL hks R1 t1 hW1
  generalize hj0 : nx L i = j0 at *
  go_enter Tryd.func15, Tryd.ntmps15
  go_wp2_with fail
  refine HA.out.mono ?_
  rintro e w1 ⟨rfl, rfl⟩
  go_wp2_with (first
    | (refine wpList_store_mid rfl 63 _ _ rfl gb (i * 6) #[.string ⟨#[]⟩, .int .i64 0, .int .i64 0, .int .i64 0, .int .u64 0, .bool false] rfl rfl HTH.out infoSlot6 zeroOne ?_; rw [← HW1.out])
    | fail)
  obtain ⟨R, hR⟩ : ∃ R, R = run S i := ⟨_, rfl⟩
  rw [← hR] at HAT HOC HEN
  have HRR := Lib.hid hR; have HJ0 := Lib.hid hj0
  clear hR hj0 c0 c1
  have hdd : decide ((i : Int) < 0) = false := decide_eq_false (by omega)
  rw [hdd, hmod]
  clear hdd hmod
  go_loopg [5] R (fun g it wr => ∃ n : Nat, n + g = R ∧ it = .int .i64 (((at' hm S i n).2 : Nat) : Int) ∧ Rk B wr qb gb (at' hm S i n).1 ∧ Turn (fun k => k = gb) w wr)
  case atStart => exact ⟨0, by omega, by rw [← HJ0.out, HL.out]; rfl, HR1.out, HT1.out⟩
  case round =>
    obtain ⟨n, hn, rfl, hRk, hT⟩ := hrel
    obtain ⟨T, hTe⟩ : ∃ T, T = (at' hm S i n).1 := ⟨_, rfl⟩
    obtain ⟨j, hje⟩ : ∃ j, j = (at' hm S i n).2 := ⟨_, rfl⟩
    have hM := HAT.out n (by omega)
    have hnx := fun k1 v1 => at_next (S := S) (i := i) (n := n) (k1 := k1) (v1 := v1)
    rw [← hTe, ← hje] at hM hnx
    rw [← hTe] at hRk
    rw [← hje]
    have hTl := hM.len
    have hjl := hM.jlt
    rw [← HL.out] at hTl hjl
    have c0 := hRk.head
    rw [hTl] at c0
    by_cases hlt : n < R
    · obtain ⟨k1, v1, hj1, hj2⟩ := HOC.out n T j hM hlt
      have hkm : k1.length ≤ maxLen := HKS.out (k1, v1) (sre_mem.2 ⟨j, hj2⟩)
      have d0 := hRk.cells hj1 (show 0 < 6 by omega)
      have d1 := hRk.cells hj1 (show 1 < 6 by omega)
      have d2 := hRk.cells hj1 (show 2 < 6 by omega)
      have d3 := hRk.cells hj1 (show 3 < 6 by omega)
      have d4 := hRk.cells hj1 (show 4 < 6 by omega)
      have d5 := hRk.cells hj1 (show 5 < 6 by omega)
      rw [Nat.add_zero] at d0
      simp only [slotv, List.getElem?_cons_succ, List.getElem?_cons_zero] at d0 d1 d2 d3 d4 d5
      have HNX := Lib.hid (hnx k1 v1 (by rw [hTl, HL.out]) hj1)
      have hba : Below wr.heap.size wr (wr.alloc (.cells #[.string (bs k1), .int .i64 v1.seg, .int .i64 v1.off, .int .i64 v1.len, .int .u64 v1.seq, .bool true] 63)) := (Below.refl _ _).alloc (Nat.le_refl _) _
      have hR2 := hRk.below hba
      have m0 := hR2.head
      rw [hTl] at m0
      have HTH2 := Lib.hid (hR2.there (i := j) (by rw [hTl]; exact hjl))
      obtain ⟨W2, hW2⟩ : ∃ W2, W2 = (wr.alloc (.cells #[.string (bs k1), .int .i64 v1.seg, .int .i64 v1.off, .int .i64 v1.len, .int .u64 v1.seq, .bool true] 63)).setCells gb (j * 6) (#[Value.string ⟨#[]⟩, .int .i64 0, .int .i64 0, .int .i64 0, .int .u64 0, .bool false]).toList := ⟨_, rfl⟩
      have hp := hR2.put (i := j) (by rw [hTl]; exact hjl) none
      rw [show slotv none = (#[Value.string ⟨#[]⟩, .int .i64 0, .int .i64 0, .int .i64 0, .int .u64 0, .bool false]).toList from rfl, ← hW2] at hp
      obtain ⟨R3, t3⟩ := hp
      have hgl := hRk.lt.2
      have hnb := heap_alloc_new wr (.cells #[.string (bs k1), .int .i64 v1.seg, .int .i64 v1.off, .int .i64 v1.len, .int .u64 v1.seq, .bool true] 63)
      have hcl := fun t => cell_of_row W2 wr.heap.size t _ _ (0, 0) (by rw [t3.block _ (by simp) (by omega)]; exact hnb)
      have e0 := hcl 0; have e1 := hcl 1; have e2 := hcl 2; have e3 := hcl 3; have e4 := hcl 4; have e5 := hcl 5
      simp only [List.getElem?_toArray, List.getElem?_cons_succ, List.getElem?_cons_zero] at e0 e1 e2 e3 e4 e5
      have hLAY := reflay_any (s := (k1, v1)) R3 hkm (e0 := j) ((empty_none (by rw [hTl]; exact hjl)).2 (Or.inl rfl))
      have HLAY := Lib.hid hLAY
      have HW2 := Lib.hid hW2
      have HT := Lib.hid (hT.trans ((Turn.of_below (fun k => k = gb) hba (Nat.le_refl _)).trans t3))
      have hnl2 := nx_lt hjl
      have hmod2 : ((j : Int) + 1) % (L : Int) = ((nx L j : Nat) : Int) := by unfold nx; push_cast; rfl
      have HLL2 : Hid (∀ w3 gb', Rk B w3 qb gb' (lay hm (T.set j none) (k1, v1)) → w3.cell? ⟨qb, 0, none⟩ = some (.slice (some ⟨gb', 0, none⟩) L L)) := Lib.hid (fun w3 gb' h3 => by
        have := h3.head
        rw [lay_len, List.length_set, hTl] at this; exact this)
      clear hM hRk hT hj1 hj2 hnx hTe hje hR2 R3 t3 hnb hcl hLAY hW2 hba
      go_wp2_with (first
        | (refine wpList_store_mid rfl 63 _ _ rfl gb (j * 6) #[.string ⟨#[]⟩, .int .i64 0, .int .i64 0, .int .i64 0, .int .u64 0, .bool false] rfl rfl HTH2.out infoSlot6 zeroOne ?_; rw [← HW2.out])
        | fail)
      refine HLAY.out.mono ?_
      rintro e w3 ⟨rfl, hr3, t3⟩
      have c3 := HLL2.out _ _ hr3
      have HR3 := Lib.hid hr3; have HT3 := Lib.hid t3
      clear hr3 t3 e0 e1 e2 e3 e4 e5 d0 d1 d2 d3 d4 d5 m0 c0
      go_wp2_with fail
      go_roundg (gk - 1)
      case measure => omega
      case rel => exact ⟨n + 1, by omega, by rw [HNX.out]; show _ = Value.int .i64 ((nx S.length j : Nat) : Int); rw [← HL.out, ← hmod2], by rw [HNX.out]; exact HR3.out, HT.out.trans HT3.out⟩
    · obtain rfl : n = R := by omega
      have he := HEN.out T j hM
      have d5 := hRk.cells he (show 5 < 6 by omega)
      simp only [slotv, List.getElem?_cons_succ, List.getElem?_cons_zero] at d5
      have hdel : T = del hm S i := by unfold del; rw [← HRR.out]; exact hTe
      rw [hdel] at hRk
      have HRk := Lib.hid hRk
      clear hRk hM hnx he hTe hje
      go_wp2_with fail
      go_ret
      exact ⟨rfl, gb, HRk.out, Or.inl rfl, hT.mono (fun k _ hk => Or.inr hk)⟩
end Go.Proofs.YtbjginlhgedjdaaDoor.K
