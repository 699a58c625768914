/- The document's directory: Put of a new key, where there is no room: all are inserted again. -/
import Derived.Test.YtbjginlhgedjdaaDoorKput2
namespace Go.Proofs.YtbjginlhgedjdaaDoor.K
open Go.RowKit
set_option linter.unusedVariables false

/-- Of the blocks that were there none but one has turned. -/
def Tn (tb : Nat) (w W : World) : Prop := Turn (fun k => k = tb) w W
theorem Tn.drew {tb : Nat} {w W : World} (h : Tn tb w W) : Tn tb w W.drew := Turn.drew h 1
theorem Tn.cell {tb : Nat} {w W : World} (h : Tn tb w W) {b o : Nat} (hb : b < w.heap.size) (hn : b ≠ tb) : W.cell? ⟨b, o, none⟩ = w.cell? ⟨b, o, none⟩ := World.cell?_of_block (Turn.block h b hb hn)
theorem Old.tn {tb : Nat} {w W : World} (h : Old w W) : Tn tb w W := Turn.of_below _ h (Nat.le_refl _)

theorem lays_take {S : Dr} (ho : One S) {c : Nat} (hc : cnt S < c) (j : Nat) :
    (lays hm (none' c) ((sre S).take j)).length = c ∧ cnt (lays hm (none' c : Dr) ((sre S).take j)) < c := by
  have hl : ((sre S).take j).length ≤ cnt S := by rw [← sre_len]; exact List.length_take_le' _ _
  obtain ⟨_, h2, h3, _⟩ := lays_facts homeLt (inv_none (home := hm) (V := Lc) c) ((sre S).take j) (List.Pairwise.take (sre_up ho)) (fun _ _ _ _ => not_has_none) (by rw [cnt_none']; simp only [none', List.length_replicate]; omega)
  refine ⟨by rw [h2]; simp [none'], by rw [h3, cnt_none']; omega⟩
theorem lays_next {S : Dr} {c j : Nat} {s : Ent Lc} (hs : (sre S)[j]? = some s) : lays hm (none' c) ((sre S).take (j + 1)) = lay hm (lays hm (none' c) ((sre S).take j)) s := by
  rw [List.take_add_one, hs]
  exact lays_snoc _ _ _
theorem lays_zero (S : Dr) (c : Nat) : lays hm (none' c) ((sre S).take 0) = none' c := rfl
theorem lays_all (S : Dr) : lays hm (none' (2 * S.length)) ((sre S).take (cnt S)) = grow hm S := by
  rw [List.take_of_length_le (by rw [sre_len]; exact Nat.le_refl _)]; rfl

set_option maxHeartbeats 1000000 in
theorem refput_grow {B qb gb : Nat} {S : Dr} {w : World} {k : List UInt8} {l : Lc} (h0 : Rk B w qb gb S) (ho : One S) (hn : ∀ i v, ¬ Has S i k v) (hk : k.length ≤ maxLen) (hc : 2 * cnt S ≤ S.length) (h8 : 0 < S.length) (hfit : S.length < 2 * (cnt S + 1)) (hfew : 2 * S.length ≤ 1024) (hks : ∀ s ∈ sre S, s.1.length ≤ maxLen) :
    Calls Tryd.prog 11 #[.pointer (some ⟨qb, 0, none⟩), .string (bs k), locV l] w (RkPost B w qb gb (lay hm (grow hm S) (k, l)) (.tuple #[])) := by
  have hb0 : Below w.heap.size w (w.alloc (.cells #[.int .i64 l.seg, .int .i64 l.off, .int .i64 l.len, .int .u64 l.seq] 31)) := (Below.refl _ _).alloc (Nat.le_refl _) _
  have hq0 := h0.lt
  have h := h0.below hb0
  have HA := Lib.hid (refat_no h hn)
  have HKY := Lib.hid (refkeys_any h ho)
  have hcs := h.few
  have hn0 := heap_alloc_new w (.cells #[.int .i64 l.seg, .int .i64 l.off, .int .i64 l.len, .int .u64 l.seq] 31)
  have hkl := keysOf_len S
  obtain ⟨L, hL⟩ : ∃ L, L = S.length := ⟨_, rfl⟩
  obtain ⟨M, hM⟩ : ∃ M, M = cnt S := ⟨_, rfl⟩
  rw [← hL] at hcs hfit hc h8 hfew
  rw [← hM] at hfit hc hkl
  have HR := Lib.hid h; have HLL := Lib.hid hL; have HMM := Lib.hid hM; have HB := Lib.hid hb0; have HN0 := Lib.hid hn0; have HKL := Lib.hid hkl; have HN := Lib.hid hn; have HOO := Lib.hid ho; have HKS := Lib.hid hks
  clear h h0 ho hL hM hn0 hb0 hkl hn hks
  unfold locV
  go_enter Tryd.func11, Tryd.ntmps11
  go_wp2_with fail
  refine HA.out.mono ?_
  rintro e w1 ⟨rfl, rfl⟩
  go_wp2_with fail
  refine HKY.out.mono ?_
  rintro e w2 ⟨v, rfl, hs2, b2⟩
  obtain ⟨ua, uc, hu⟩ := ss_form hs2
  rw [HKL.out] at hu
  subst hu
  generalize hW : w.alloc _ = W at *
  have hR2 := HR.out.below b2
  have c0 := hR2.head
  rw [← HLL.out] at c0
  have hwl : w.heap.size < W.heap.size := (Array.getElem?_eq_some_iff.1 HN0.out).1
  have hcl := fun t => cell_of_row w2 w.heap.size t _ _ (0, 0) (by rw [b2.block _ hwl]; exact HN0.out)
  have e0 := hcl 0; have e1 := hcl 1; have e2 := hcl 2; have e3 := hcl 3
  simp only [List.getElem?_toArray, List.getElem?_cons_succ, List.getElem?_cons_zero] at e0 e1 e2 e3
  have HB2 := Lib.hid b2; have HR2 := Lib.hid hR2; have HS2 := Lib.hid hs2
  clear hs2 b2 hR2 hcl
  have hM2 : ∀ W, (Instr.makeSlice 41 (.int .i64 (2 * (L : Int))) (.int .i64 (2 * (L : Int)))).run Tryd.prog W = .ok (.slice (some ⟨W.heap.size, 0, none⟩) (2 * L) (2 * L)) (W.alloc (.cells (srows (none' (2 * L))).toArray 63)) := fun W => by
    have := makeSlots W (2 * L) (by omega)
    rw [show ((2 * L : Nat) : Int) = 2 * (L : Int) by omega] at this
    exact this
  generalize hrs : (srows (none' (2 * L))).toArray = rs at hM2
  have hq2 := HR2.out.lt.1
  have m0 : ∀ o, (w2.alloc o).cell? ⟨qb, 0, none⟩ = some (.slice (some ⟨gb, 0, none⟩) L L) := fun o => by rw [World.cell?_of_block (w := w2) (Below.heap_alloc _ _ _ hq2)]; exact c0
  have m1 : ∀ o o', ((w2.alloc o).alloc o').cell? ⟨qb, 0, none⟩ = some (.slice (some ⟨gb, 0, none⟩) L L) := fun o o' => by rw [World.cell?_of_block (w := w2.alloc o) (Below.heap_alloc _ _ _ (by simp; omega))]; exact m0 o
  have fz2 : ∀ o o', ((w2.alloc o).alloc o').frozen? ⟨qb, 0, none⟩ = false := fun o o' => by
    have : ((w2.alloc o).alloc o').heap[qb]? = w2.heap[qb]? := (Below.heap_alloc _ _ _ (by simp; omega)).trans (Below.heap_alloc _ _ _ hq2)
    simp only [World.frozen?, this, HR2.out.blk]; simp
  have hob : Hid (Old w2 ((w2.alloc (.cells #[.slice (some ⟨gb, 0, none⟩) L L] 43)).alloc (.cells rs 63))) := Lib.hid (((Below.refl _ _).alloc (Nat.le_refl _) _).alloc (by simp) _)
  go_wp2_with fail
  generalize hWL : World.alloc _ _ = wl
  have hsw : (w2.setCell ⟨qb, 0, none⟩ (.slice (some ⟨w2.heap.size + 1, 0, none⟩) (2 * L) (2 * L))).heap.size = w2.heap.size := by simp [World.setCell]
  have hx1 : wl.heap[w2.heap.size]? = some (.cells #[.slice (some ⟨gb, 0, none⟩) L L] 43 (0, 0)) := by
    have := heap_alloc2_old (w2.setCell ⟨qb, 0, none⟩ (.slice (some ⟨w2.heap.size + 1, 0, none⟩) (2 * L) (2 * L))) (.cells #[.slice (some ⟨gb, 0, none⟩) L L] 43) (.cells rs 63)
    rw [hsw] at this
    rw [← hWL]; exact this
  have hx2 : wl.heap[w2.heap.size + 1]? = some (.cells rs 63 (0, 0)) := by
    have := heap_alloc2_new (w2.setCell ⟨qb, 0, none⟩ (.slice (some ⟨w2.heap.size + 1, 0, none⟩) (2 * L) (2 * L))) (.cells #[.slice (some ⟨gb, 0, none⟩) L L] 43) (.cells rs 63)
    rw [hsw] at this
    rw [← hWL]; exact this
  have htq : Tn qb w2 wl := by rw [← hWL]; exact ((Turn.setCell (F := fun k => k = qb) (p := ⟨qb, 0, none⟩) (Turn.refl _ w2) rfl _).alloc _).alloc _
  have hqb : wl.heap[qb]? = some (.cells #[.slice (some ⟨w2.heap.size + 1, 0, none⟩) (2 * L) (2 * L)] 43 (0, 0)) := by
    rw [← hWL, Below.heap_alloc _ _ _ (by simp [World.setCell]; omega), Below.heap_alloc _ _ _ (by simp [World.setCell]; omega), heap_setCell_same w2 qb 0 _ _ _ HR2.out.blk]
    rfl
  clear hWL hsw m0 m1 fz2 hM2 hob
  have hB2 := HB2.out.size
  have hBs := HR2.out.base
  have hgl := HR2.out.lt.2
  obtain ⟨hq0, hg0⟩ := hq0
  -- the new places, the old directory, the keys, the position
  have R0 : Rk B wl qb (w2.heap.size + 1) (none' (2 * L)) := ⟨by rw [hqb]; simp [none'], by rw [hx2, hrs], ⟨hBs.1, by omega, by omega, Nat.le_trans hBs.2.2.2 htq.size⟩, by simp [none']; omega⟩
  have hgq : gb ≠ qb := fun e => hBs.2.2.1 e.symm
  have R1 : Rk B wl w2.heap.size gb S := ⟨by rw [hx1, HLL.out], by rw [htq.block gb hgl hgq]; exact HR2.out.row, ⟨hBs.2.2.2, hBs.2.1, by omega, Nat.le_trans hBs.2.2.2 htq.size⟩, HR2.out.few⟩
  have hql := HR.out.lt.1
  have SK : Strs wl W.heap.size (.slice ua M uc) (keysOf S) := owns_kept HS2.out (fun g hg => htq.block g (HS2.out.lt g hg).2 (fun e => by have := (HS2.out.lt g hg).1; omega))
  have f0 := (htq.cell (b := w.heap.size) (o := 0) (by omega) (by omega)).trans e0
  have f1 := (htq.cell (b := w.heap.size) (o := 1) (by omega) (by omega)).trans e1
  have f2 := (htq.cell (b := w.heap.size) (o := 2) (by omega) (by omega)).trans e2
  have f3 := (htq.cell (b := w.heap.size) (o := 3) (by omega) (by omega)).trans e3
  obtain ⟨tb, htb⟩ : ∃ tb, tb = w2.heap.size + 1 := ⟨_, rfl⟩
  have hwlz : tb < wl.heap.size := by rw [htb]; exact R0.lt.2
  rw [← htb] at R0
  have hne1 : w2.heap.size ≠ tb := by omega
  have hne2 : gb ≠ tb := by omega
  have hne3 : w.heap.size ≠ tb := by omega
  have hls : w.heap.size < wl.heap.size := by omega
  have hkb : ∀ g, (Value.slice ua M uc).ownBlock = some g → g < w2.heap.size := fun g hg => (HS2.out.lt g hg).2
  have HR0 := Lib.hid R0; have HR1 := Lib.hid R1; have HSK := Lib.hid SK; have HTQ := Lib.hid htq; have HKB := Lib.hid hkb; have HBB := Lib.hid (HB.out.trans (HB2.out.mono HB.out.size))
  have F0 := Lib.hid f0; have F1 := Lib.hid f1; have F2 := Lib.hid f2; have F3 := Lib.hid f3
  clear R0 R1 SK htq hkb hx1 hx2 hqb f0 f1 f2 f3 e0 e1 e2 e3 c0 hrs HB HN0 HA HKY HR HB2 HS2
  have hdd : decide ((L : Int) < 2 * ((M : Int) + 1)) = true := decide_eq_true (by omega)
  rw [hdd]
  clear hdd
  go_loopg [9] M (fun g it wr => ∃ j : Nat, j + g = M ∧ it = .int .i64 j ∧ Rk B wr qb tb (lays hm (none' (2 * L)) ((sre S).take j)) ∧ Tn tb wl wr)
  case atStart => exact ⟨0, by omega, rfl, HR0.out, Turn.refl _ _⟩
  case round =>
    obtain ⟨j, hj, rfl, hR, hT⟩ := hrel
    have HRj := Lib.hid hR; have HTj := Lib.hid hT
    clear hR hT
    by_cases hlt : j < M
    · obtain ⟨s, hs⟩ : ∃ s, (sre S)[j]? = some s := ⟨(sre S)[j]'(by rw [sre_len, ← HMM.out]; exact hlt), List.getElem?_eq_getElem _⟩
      have hsm : s ∈ sre S := List.mem_of_getElem? hs
      obtain ⟨i, hi⟩ := (sre_mem (S := S) (k := s.1) (v := s.2)).1 hsm
      have hkj : (keysOf S)[j]? = some s.1 := by unfold keysOf; rw [List.getElem?_map, hs]; rfl
      have T1 := HR1.out.kept HTj.out (fun b _ hb e => by rcases hb with rfl | rfl <;> omega)
      have hSKj : Strs wr W.heap.size (.slice ua M uc) (keysOf S) := owns_kept HSK.out (fun g hg => HTj.out.block g (by have := HKB.out g hg; omega) (fun e => by have := HKB.out g hg; omega))
      obtain ⟨g, hg, hgB, hgl2, e9⟩ := ss_at hSKj hkj
      subst hg
      have hgt : g ≠ tb := fun e => by have := HKB.out g rfl; omega
      have hil := has_lt hi
      rw [← HLL.out] at hil
      have c1 := T1.head
      rw [← HLL.out] at c1
      have q0 := T1.cells hi (show 0 < 6 by omega)
      have q1 := T1.cells hi (show 1 < 6 by omega)
      have q2 := T1.cells hi (show 2 < 6 by omega)
      have q3 := T1.cells hi (show 3 < 6 by omega)
      have q4 := T1.cells hi (show 4 < 6 by omega)
      have q5 := T1.cells hi (show 5 < 6 by omega)
      rw [Nat.add_zero] at q0
      simp only [slotv, List.getElem?_cons_succ, List.getElem?_cons_zero] at q0 q1 q2 q3 q4 q5
      obtain ⟨hl1, hl2⟩ := lays_take HOO.out (c := 2 * L) (by rw [← HMM.out]; omega) j
      obtain ⟨x, hx⟩ := empty_is (S := lays hm (none' (2 * L)) ((sre S).take j)) (by rw [hl1]; exact hl2)
      have hN0 : ∀ W', Tn tb wr W' → W'.cell? ⟨w2.heap.size, 0, none⟩ = some (.slice (some ⟨gb, 0, none⟩) L L) := fun W' h' => (h'.cell T1.lt.1 hne1).trans c1
      have hN1 : ∀ W', Tn tb wr W' → W'.cell? ⟨g, j, none⟩ = some (.string (bs s.1)) := fun W' h' => (h'.cell hgl2 hgt).trans e9
      have p0 : ∀ W', Tn tb wr W' → W'.cell? ⟨gb, i * 6, none⟩ = some (.string (bs s.1)) := fun W' h' => (h'.cell T1.lt.2 hne2).trans q0
      have p1 : ∀ W', Tn tb wr W' → W'.cell? ⟨gb, i * 6 + 1, none⟩ = some (.int .i64 s.2.seg) := fun W' h' => (h'.cell T1.lt.2 hne2).trans q1
      have p2 : ∀ W', Tn tb wr W' → W'.cell? ⟨gb, i * 6 + 2, none⟩ = some (.int .i64 s.2.off) := fun W' h' => (h'.cell T1.lt.2 hne2).trans q2
      have p3 : ∀ W', Tn tb wr W' → W'.cell? ⟨gb, i * 6 + 3, none⟩ = some (.int .i64 s.2.len) := fun W' h' => (h'.cell T1.lt.2 hne2).trans q3
      have p4 : ∀ W', Tn tb wr W' → W'.cell? ⟨gb, i * 6 + 4, none⟩ = some (.int .u64 s.2.seq) := fun W' h' => (h'.cell T1.lt.2 hne2).trans q4
      have p5 : ∀ W', Tn tb wr W' → W'.cell? ⟨gb, i * 6 + 5, none⟩ = some (.bool true) := fun W' h' => (h'.cell T1.lt.2 hne2).trans q5
      have HAT := Lib.hid (fun W' (h' : Tn tb wr W') => refat_yes (T1.kept h' (fun b _ hb e => by rcases hb with rfl | rfl <;> omega)) HOO.out hi)
      have HLAY := Lib.hid (fun W' (h' : Old wr W') => reflay_any (s := s) (HRj.out.below h') (HKS.out s hsm) hx)
      have K0 : Tn tb wr wr := Turn.refl _ _
      have K1 : Old wr wr := Old.refl _
      have HNX := Lib.hid (lays_next (c := 2 * L) hs)
      have HTB := Lib.hid htb
      clear htb
      clear T1 hSKj e9 c1 q0 q1 q2 q3 q4 q5 hx hl1 hl2 hi hs hsm hkj
      go_wp2_with fail
      go_region_held3 (fun W' => Tn tb wr W') (first | assumption | exact K0 | exact K0.drew | exact Tn.drew ‹_›)
        (first
          | (go_at_call 27
             refine (HAT.out _ (by first | assumption | exact K0.drew | exact K0)).mono ?_
             rintro e8 w8 ⟨rfl, rfl⟩)
          | (go_at_call 28
             refine (HLAY.out _ (by first | exact K1.drew | exact K1)).mono ?_
             rintro e9 w9 ⟨rfl, hr9, t9⟩
             have hS9 : Tn tb wr w9 := (Old.tn K1.drew).trans t9))
      all_goals
        go_wp2_with fail
        go_roundg (gk - 1)
        case measure => omega
        case rel => exact ⟨j + 1, by omega, by go_num, by rw [HNX.out]; exact hr9, Turn.trans HTj.out hS9⟩
    · obtain rfl : j = M := by omega
      have hT := HTj.out
      have e0 := (hT.cell (b := w.heap.size) (o := 0) hls hne3).trans F0.out
      have e1 := (hT.cell (b := w.heap.size) (o := 1) hls hne3).trans F1.out
      have e2 := (hT.cell (b := w.heap.size) (o := 2) hls hne3).trans F2.out
      have e3 := (hT.cell (b := w.heap.size) (o := 3) hls hne3).trans F3.out
      have hg : lays hm (none' (2 * L)) ((sre S).take j) = grow hm S := by rw [HLL.out, HMM.out]; exact lays_all S
      rw [hg] at HRj
      obtain ⟨hl1, hl2⟩ := lays_take HOO.out (c := 2 * L) (by rw [← HMM.out]; omega) j
      rw [hg] at hl1 hl2
      obtain ⟨x, hx⟩ := empty_is (S := grow hm S) (by rw [hl1]; exact hl2)
      have HLAY := Lib.hid (fun W' (h' : Old wr W') => reflay_any (s := (k, l)) (HRj.out.below h') hk hx)
      have HTB := Lib.hid htb
      have HFIN : Hid (Turn (fun k => k = qb ∨ k = gb) w wr) := Lib.hid (((Turn.of_below _ HBB.out (Nat.le_refl _)).trans (HTQ.out.mono (fun b _ hb => Or.inl hb))).then hT (fun b hb => Or.inr (by omega)))
      have K1 : Old wr wr := Old.refl _
      clear hT hg hl1 hl2 hx htb
      go_wp2_with fail
      refine (HLAY.out _ K1).mono ?_
      rintro e9 w9 ⟨rfl, hr9, t9⟩
      have HR9 := Lib.hid hr9; have HT9 := Lib.hid t9
      clear hr9 t9 e0 e1 e2 e3
      go_wp2_with fail
      go_end0
      have htbv := HTB.out
      exact ⟨rfl, tb, HR9.out, Or.inr (by omega), HFIN.out.then HT9.out (fun b hb => Or.inr (by omega))⟩
end Go.Proofs.YtbjginlhgedjdaaDoor.K
