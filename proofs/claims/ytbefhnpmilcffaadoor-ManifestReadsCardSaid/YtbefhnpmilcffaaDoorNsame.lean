/- Are two manifests the same? As the document tells it. -/
import Derived.Test.YtbefhnpmilcffaaDoorNbytes
namespace Go.Proofs.YtbefhnpmilcffaaDoor.J
open Go.RowKit
set_option linter.unusedVariables false

theorem below_drewN {n : Nat} {w W : World} (h : Below n w W) (q : Nat) : Below n w (W.drewN q) := ⟨h.os, h.tape, h.output, h.size, h.block⟩
theorem take_same {l k : List Sg} {i : Nat} {s t : Sg} (h : l.take i = k.take i) (hs : l[i]? = some s) (ht : k[i]? = some t) : l.take (i + 1) = k.take (i + 1) ↔ s = t := by
  rw [List.take_add_one, List.take_add_one, hs, ht, h]
  simp
theorem sg_ne {s t : Sg} (h : s ≠ t) : s.n ≠ t.n ∨ (s.n = t.n ∧ s.size ≠ t.size) ∨ (s.n = t.n ∧ s.size = t.size ∧ s.sum ≠ t.sum) := by
  obtain ⟨a, b, c⟩ := s
  obtain ⟨d, e, f⟩ := t
  by_cases h1 : a = d
  · by_cases h2 : b = e
    · exact Or.inr (Or.inr ⟨h1, h2, fun h3 => h (by simp only at h1 h2 h3; rw [h1, h2, h3])⟩)
    · exact Or.inr (Or.inl ⟨h1, h2⟩)
  · exact Or.inl h1
theorem same_no {m m' : Mf} (h : m ≠ m') : decide (m = m') = false := decide_eq_false h

set_option maxRecDepth 100000 in
set_option maxHeartbeats 2000000 in
theorem refsame_any (m m' : Mf) (a a' : Option Addr) (cap cap' : Nat) (w : World) (hin : SgsIn w a m.segs) (hin' : SgsIn w a' m'.segs) (hl : m.segs.length ≤ 2000) (hl' : m'.segs.length ≤ 2000) :
    Calls Tryd.prog 13 #[mfV m.ver a m.segs.length cap, mfV m'.ver a' m'.segs.length cap'] w fun e w' => e = .returned (.bool (decide (m = m'))) ∧ Below w.heap.size w w' := by
  obtain ⟨L, hL⟩ : ∃ L, L = m.segs.length := ⟨_, rfl⟩
  obtain ⟨L', hL'⟩ : ∃ L', L' = m'.segs.length := ⟨_, rfl⟩
  rw [← hL] at hl ⊢
  rw [← hL'] at hl' ⊢
  have HL := Lib.hid hL; have HL' := Lib.hid hL'; have HI := Lib.hid hin; have HI' := Lib.hid hin'
  obtain ⟨v, hv⟩ : ∃ v, v = m.ver := ⟨_, rfl⟩
  obtain ⟨v', hv'⟩ : ∃ v', v' = m'.ver := ⟨_, rfl⟩
  rw [← hv, ← hv']
  have HV := Lib.hid hv; have HV' := Lib.hid hv'
  clear hL hL' hin hin' hv hv'
  unfold mfV
  by_cases h1 : v = v'
  · by_cases h2 : L = L'
    · subst h1
      subst h2
      have hx1 : (v != v) = false := by simp
      have hx2 : ((L : Int) != (L : Int)) = false := by simp
      go_enter Tryd.func13, Tryd.ntmps13
      go_wp2_with fail
      obtain ⟨w2, hw2⟩ : ∃ w2, w2 = ((w.alloc (.cells #[.int .i64 v, .slice a L cap] 32)).alloc (.cells #[.int .i64 v, .slice a' L cap'] 32)) := ⟨_, rfl⟩
      rw [← hw2]
      have n0 : w2.heap[w.heap.size]? = some (.cells #[.int .i64 v, .slice a L cap] 32 (0, 0)) := by rw [hw2]; exact heap_alloc2_old w _ _
      have n1 : w2.heap[w.heap.size + 1]? = some (.cells #[.int .i64 v, .slice a' L cap'] 32 (0, 0)) := by rw [hw2]; exact heap_alloc2_new w _ _
      have hb2 : Below w.heap.size w w2 := by rw [hw2]; exact ((Below.refl _ _).alloc (Nat.le_refl _) _).alloc (by simp) _
      have hs2 : w2.heap.size = w.heap.size + 2 := by rw [hw2]; simp
      have HN0 := Lib.hid n0; have HN1 := Lib.hid n1; have HB2 := Lib.hid hb2
      clear hw2 n0 n1 hb2
      go_loopg [5] L (fun g it wr => ∃ i : Nat, i + g = L ∧ it = .int .i64 i ∧ m.segs.take i = m'.segs.take i ∧ Old w2 wr)
      case atStart => exact ⟨0, by omega, rfl, rfl, Old.refl _⟩
      case round =>
        obtain ⟨i, hi, rfl, hsm, hO⟩ := hrel
        have hz := hO.size
        have hc0 := fun t => cell_of_row wr w.heap.size t _ _ (0, 0) ((hO.block _ (by omega)).trans HN0.out)
        have hc1 := fun t => cell_of_row wr (w.heap.size + 1) t _ _ (0, 0) ((hO.block _ (by omega)).trans HN1.out)
        have c1 := hc0 1; have k1 := hc1 1
        simp only [List.getElem?_toArray, List.getElem?_cons_succ, List.getElem?_cons_zero] at c1 k1
        have HBW : Hid (Below w.heap.size w wr) := Lib.hid (HB2.out.trans (hO.mono (by omega)))
        have HO := Lib.hid hO; have HSM := Lib.hid hsm
        clear hc0 hc1 hO hsm
        by_cases hlt : i < L
        · obtain ⟨s, hs⟩ : ∃ s, m.segs[i]? = some s := ⟨m.segs[i]'(by have := HL.out; omega), List.getElem?_eq_getElem _⟩
          obtain ⟨t, ht⟩ : ∃ t, m'.segs[i]? = some t := ⟨m'.segs[i]'(by have := HL'.out; omega), List.getElem?_eq_getElem _⟩
          obtain ⟨b, off, rfl, hbl, d0, d1, d2⟩ := HI.out.at HBW.out (Nat.le_refl _) i s hs
          obtain ⟨b', off', rfl, hbl', e0, e1, e2⟩ := HI'.out.at HBW.out (Nat.le_refl _) i t ht
          have HTS := Lib.hid (take_same HSM.out hs ht)
          have HNE : Hid (s ≠ t → m ≠ m') := Lib.hid (fun hne e => hne (by
            rw [e] at hs
            exact Option.some.inj (hs.symm.trans ht)))
          clear hs ht
          by_cases hst : s = t
          · subst hst
            go_wp2_with fail
            have z1 : (s.n == s.n) = true := by simp
            have z2 : (s.size == s.size) = true := by simp
            have z3 : ((s.sum : Int) == (s.sum : Int)) = true := by simp
            have y1 : (s.n != s.n) = false := by simp
            go_quiet (fail)
            have HBQ : Hid (Old w2 (wr.drewN nq)) := Lib.hid (HO.out.drewN nq)
            generalize wr.drewN nq = w3 at *
            go_wp2_with fail
            go_roundg (gk - 1)
            case measure => omega
            case rel => exact ⟨i + 1, by omega, by go_num, HTS.out.2 (by first | rfl | trivial), HBQ.out⟩
          · have hmm := HNE.out hst
            have HD := Lib.hid (same_no hmm)
            have hcs := sg_ne hst
            clear hst hmm HTS HNE
            go_wp2_with fail
            generalize s.n = sn at *
            generalize s.size = sz at *
            generalize s.sum = sc at *
            generalize t.n = tn at *
            generalize t.size = tz at *
            generalize t.sum = tc at *
            rcases hcs with g1 | ⟨g1, g2⟩ | ⟨g1, g2, g3⟩
            · have q1 : (sn == tn) = false := by simpa using g1
              clear g1
              go_quiet (fail)
              have HBQ : Hid (Below w.heap.size w (wr.drewN nq)) := Lib.hid (HBW.out.trans ((below_drewN (Below.refl wr.heap.size wr) nq).mono HBW.out.size))
              generalize wr.drewN nq = w3 at *
              go_wp2_with fail
              go_ret
              exact ⟨by rw [HD.out]; rfl, HBQ.out⟩
            · subst g1
              have q0 : (sn == sn) = true := by simp
              have q1 : (sz == tz) = false := by simpa using g2
              clear g2
              go_quiet (fail)
              have HBQ : Hid (Below w.heap.size w (wr.drewN nq)) := Lib.hid (HBW.out.trans ((below_drewN (Below.refl wr.heap.size wr) nq).mono HBW.out.size))
              generalize wr.drewN nq = w3 at *
              go_wp2_with fail
              go_ret
              exact ⟨by rw [HD.out]; rfl, HBQ.out⟩
            · subst g1
              subst g2
              have q0 : (sn == sn) = true := by simp
              have q2 : (sz == sz) = true := by simp
              have q1 : ((sc : Int) == (tc : Int)) = false := by simp; omega
              clear g3
              go_quiet (fail)
              have HBQ : Hid (Below w.heap.size w (wr.drewN nq)) := Lib.hid (HBW.out.trans ((below_drewN (Below.refl wr.heap.size wr) nq).mono HBW.out.size))
              generalize wr.drewN nq = w3 at *
              go_wp2_with fail
              go_ret
              exact ⟨by rw [HD.out]; rfl, HBQ.out⟩
        · obtain rfl : i = L := by omega
          have hmm : m = m' := by
            have e1 := HSM.out
            have e2 : m.segs.take i = m.segs := by rw [HL.out, List.take_length]
            have e3 : m'.segs.take i = m'.segs := by rw [HL'.out, List.take_length]
            rw [e2, e3] at e1
            have e4 : m.ver = m'.ver := by rw [← HV.out, ← HV'.out]
            obtain ⟨_, _⟩ := m
            obtain ⟨_, _⟩ := m'
            simp only at e1 e4
            rw [e1, e4]
          have HD := Lib.hid (decide_eq_true hmm)
          clear hmm
          go_wp2_with fail
          go_ret
          exact ⟨by rw [HD.out]; rfl, HBW.out⟩
    · have HD := Lib.hid (same_no (m := m) (m' := m') (fun e => h2 (by rw [HL.out, HL'.out, e])))
      have hx1 : (v != v') = false := by rw [h1]; simp
      have hx2 : ((L : Int) != (L' : Int)) = true := by rw [bne_iff_ne]; omega
      subst h1
      clear h2
      go_enter Tryd.func13, Tryd.ntmps13
      go_wp2_with fail
      go_ret
      exact ⟨by rw [HD.out]; rfl, ((Below.refl _ _).alloc (Nat.le_refl _) _).alloc (by simp) _⟩
  · have HD := Lib.hid (same_no (m := m) (m' := m') (fun e => h1 (by rw [HV.out, HV'.out, e])))
    have hx1 : (v != v') = true := by rw [bne_iff_ne]; exact h1
    clear h1
    go_enter Tryd.func13, Tryd.ntmps13
    go_wp2_with fail
    go_ret
    exact ⟨by rw [HD.out]; rfl, ((Below.refl _ _).alloc (Nat.le_refl _) _).alloc (by simp) _⟩
end Go.Proofs.YtbefhnpmilcffaaDoor.J
