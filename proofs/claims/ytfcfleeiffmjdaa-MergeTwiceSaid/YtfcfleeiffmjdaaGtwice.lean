/- MergeTwice over what is asked: merged first, and then with newer ones, records come to the same as at once. -/
import Derived.Test.YtfcfleeiffmjdaaGelder
namespace Go.Proofs.Ytfcfleeiffmjdaa.G
open Go.RowKit
set_option linter.unusedVariables false
set_option linter.unusedSimpArgs false

theorem mem_more {x : List Rc} {k : Nat} {r : Rc} {P : Rc → Prop} {A : List Rc} (hr : x[k]? = some r) (h : ∀ y ∈ A ++ x.take k, P y) (hp : P r) : ∀ y ∈ A ++ x.take (k + 1), P y := fun y hy => by
  rw [List.take_add_one, hr, Option.toList_some, ← List.append_assoc, List.mem_append] at hy
  rcases hy with hy | hy
  · exact h y hy
  · simp only [List.mem_cons, List.not_mem_nil, or_false] at hy; subst hy; exact hp

set_option maxRecDepth 100000 in
set_option maxHeartbeats 4000000 in
theorem twice_walk (C : MrgC) (ll : List (List Rc)) (a : Option Addr) (cap : Nat) (el : List (List Rc)) (ea : Option Addr) (ec : Nat) (w : World) (hlm : ll.length ≤ 9223372036854775807) (hin : Inp w a cap ll) (_ : True)
    (hem : el.length ≤ 9223372036854775807) (hein : Inp w ea ec el) (_ : True) :
    Calls Try.prog 4 #[.slice a ll.length cap, .slice ea el.length ec] w fun e w' => e = .returned (.bool true) ∧ Below w.heap.size w w' := by
  have HAW := Lib.hid (fun W => awake_any C W)
  have HC := Lib.hid C
  have HI := Lib.hid hin; have HE := Lib.hid hein
  have HLI := Lib.hid (light_later hin); have HLE := Lib.hid (light_later hein)
  obtain ⟨i0, hi, hz0, hz1, hz2⟩ := info_parts infoList
  have HIN := Lib.hid (And.intro hi (And.intro hz0 (And.intro hz1 hz2)))
  obtain ⟨n, hn⟩ : ∃ n, ll.length = n := ⟨_, rfl⟩
  obtain ⟨m, hm⟩ : ∃ m, el.length = m := ⟨_, rfl⟩
  have HN := Lib.hid hn; have HM := Lib.hid hm
  rw [hn] at HLI hlm ⊢
  rw [hm] at HLE hem ⊢
  clear hin hein hn hm hi hz0 hz1 hz2
  go_enter Try.func4, Try.ntmps4
  go_wp2_with fail
  refine (HAW.out _).mono ?_
  rintro e w1 ⟨rfl, b1⟩
  have B1 := Lib.hid (show Old w w1 from b1)
  clear b1
  go_wp2_with fail
  refine (HLI.out _ B1.out).mono ?_
  rintro e w2 ⟨ok1, rfl, hok1, B2⟩
  have HB2 := Lib.hid B2; have HK1 := Lib.hid hok1
  clear B2 B1 HLI HAW hok1
  go_wp2_with fail
  refine (HLE.out _ HB2.out).mono ?_
  rintro e w3 ⟨ok2, rfl, hok2, B3⟩
  have HB3 := Lib.hid B3; have HK2 := Lib.hid hok2
  clear B3 HB2 HLE hok2
  cases ok1
  · go_wp2_with fail
    go_ret
    exact ⟨rfl, HB3.out⟩
  cases ok2
  · go_wp2_with fail
    go_ret
    exact ⟨rfl, HB3.out⟩
  have k1 : ll.length ≤ 20 ∧ ∀ l ∈ ll, l.length ≤ 40 := ⟨by rw [HN.out]; exact (HK1.out rfl).1, (HK1.out rfl).2⟩
  have k2 : el.length ≤ 20 ∧ ∀ l ∈ el, l.length ≤ 40 := ⟨by rw [HM.out]; exact (HK2.out rfl).1, (HK2.out rfl).2⟩
  have J1 := Lib.hid k1; have J2 := Lib.hid k2
  have hn20 : n ≤ 20 := by rw [← HN.out]; exact k1.1
  have hm20 : m ≤ 20 := by rw [← HM.out]; exact k2.1
  have HBI := Lib.hid (HI.out.lst.later HB3.out (Nat.le_refl _)).1.bats
  have HBE := Lib.hid (HE.out.lst.later HB3.out (Nat.le_refl _)).1.bats
  clear k1 k2 HK1 HK2
  go_wp2_with fail
  go_loopg [8, 9] n (fun g tv iv wr => ∃ i T : Nat, i + g = n ∧ iv = .int .i64 i ∧ tv = .int .u64 ((T : Nat) : Int) ∧ T ≤ 18446744073709551615 ∧ (∀ r ∈ (ll.take i).flatten, r.q ≤ T) ∧ wr = w3)
  case atStart => exact ⟨0, 0, by omega, rfl, rfl, by omega, fun r hr => by simp at hr, rfl⟩
  case round =>
    obtain ⟨i, T, hi, rfl, rfl, hT, hall, rfl⟩ := hrel
    have HA := Lib.hid hall
    clear hall
    by_cases hlt : i < n
    · have hil : i < ll.length := by rw [HN.out]; exact hlt
      obtain ⟨b, off, a', c', rfl, hb2, c0, r0⟩ := bat_of HBI.out i hil
      have HTK := Lib.hid (flat_take_row hil)
      have HCX := Lib.hid (HI.out.came _ (List.getElem_mem hil)).2
      have hx40 := J1.out.2 _ (List.getElem_mem hil)
      generalize ll[i] = x at *
      obtain ⟨X, hX⟩ : ∃ X, x.length = X := ⟨_, rfl⟩
      have HX := Lib.hid hX
      rw [hX] at c0 hx40
      have HR := Lib.hid r0
      clear r0 hX
      go_wp2_with fail
      generalize hgk : gk = G at *
      clear hgk
      go_loopg [8, 10] X (fun g tv kv wr' => ∃ k T : Nat, k + g = X ∧ kv = .int .i64 k ∧ tv = .int .u64 ((T : Nat) : Int) ∧ T ≤ 18446744073709551615 ∧ (∀ r ∈ (ll.take i).flatten ++ x.take k, r.q ≤ T) ∧ wr' = wr)
      case atStart => exact ⟨0, T, by omega, rfl, rfl, hT, by simpa using HA.out, rfl⟩
      case round =>
        obtain ⟨k, T2, hk, rfl, rfl, hT2, hall2, rfl⟩ := hrel
        have HA2 := Lib.hid hall2
        clear hall2
        by_cases hltk : k < X
        · have hkl : k < x.length := by rw [HX.out]; exact hltk
          obtain ⟨b2, off2, rfl, hbl2, d0, _, _, _⟩ := cells_of HR.out k hkl
          have hxk := List.getElem?_eq_getElem hkl
          have hcx := (HCX.out _ (List.getElem_mem hkl)).1
          generalize x[k] = r at *
          have HXK := Lib.hid hxk
          obtain ⟨T3, hT3⟩ : ∃ T3 : Nat, T3 = max T2 r.q := ⟨_, rfl⟩
          have hmx : max (T2 : Int) (r.q : Int) = (T3 : Int) := by omega
          have hT3b : T3 ≤ 18446744073709551615 := by omega
          have HA3 := Lib.hid (mem_more HXK.out (P := fun y => y.q ≤ T3) (fun y hy => by have := HA2.out y hy; show y.q ≤ T3; omega) (by show r.q ≤ T3; omega))
          clear hxk hT3
          go_wp2_with fail
          go_roundg (gk - 1)
          case measure => omega
          case rel => exact ⟨k + 1, T3, by omega, by go_num, rfl, hT3b, HA3.out, rfl⟩
        · obtain rfl : k = X := by omega
          have hex : (ll.take i).flatten ++ x.take k = (ll.take (i + 1)).flatten := by rw [HTK.out, List.take_of_length_le (l := x) (by rw [HX.out]; exact Nat.le_refl _)]
          have HA3 := HA2.out
          rw [hex] at HA3
          have HA4 := Lib.hid HA3
          clear hex HA3
          go_wp2_with fail
          go_roundg (G - 1)
          case measure => omega
          case rel => exact ⟨i + 1, T2, by omega, by go_num, rfl, hT2, HA4.out, rfl⟩
    · obtain rfl : i = n := by omega
      have hal : ll.take i = ll := List.take_of_length_le (by rw [HN.out]; exact Nat.le_refl _)
      have htop := HA.out
      rw [hal] at htop
      have HTP := Lib.hid htop
      clear htop hal HA
      go_wp2_with fail
      generalize hw3 : wr = w3 at *
      clear hw3
      go_loopg [11] m (fun g iv wr => ∃ j : Nat, j + g = m ∧ iv = .int .i64 j ∧ (∀ r ∈ (el.take j).flatten, T < r.q) ∧ wr = w3)
      case atStart => exact ⟨0, by omega, rfl, fun r hr => by simp at hr, rfl⟩
      case round =>
        obtain ⟨j, hj, rfl, hall, rfl⟩ := hrel
        have HA := Lib.hid hall
        clear hall
        by_cases hltj : j < m
        · have hjl : j < el.length := by rw [HM.out]; exact hltj
          obtain ⟨b, off, a', c', rfl, hb2, c0, r0⟩ := bat_of HBE.out j hjl
          have HTK := Lib.hid (flat_take_row hjl)
          have HCX := Lib.hid (HE.out.came _ (List.getElem_mem hjl)).2
          have hx40 := J2.out.2 _ (List.getElem_mem hjl)
          generalize el[j] = x at *
          obtain ⟨X, hX⟩ : ∃ X, x.length = X := ⟨_, rfl⟩
          have HX := Lib.hid hX
          rw [hX] at c0 hx40
          have HR := Lib.hid r0
          clear r0 hX
          go_wp2_with fail
          generalize hgk : gk = G at *
          clear hgk
          go_loopg [12] X (fun g kv wr' => ∃ k : Nat, k + g = X ∧ kv = .int .i64 k ∧ (∀ r ∈ (el.take j).flatten ++ x.take k, T < r.q) ∧ wr' = wr)
          case atStart => exact ⟨0, by omega, rfl, by simpa using HA.out, rfl⟩
          case round =>
            obtain ⟨k, hk, rfl, hall2, rfl⟩ := hrel
            have HA2 := Lib.hid hall2
            clear hall2
            by_cases hltk : k < X
            · have hkl : k < x.length := by rw [HX.out]; exact hltk
              obtain ⟨b2, off2, rfl, hbl2, d0, _, _, _⟩ := cells_of HR.out k hkl
              have hxk := List.getElem?_eq_getElem hkl
              have hcx := (HCX.out _ (List.getElem_mem hkl)).1
              generalize x[k] = r at *
              have HXK := Lib.hid hxk
              clear hxk
              by_cases hq : r.q ≤ T
              · go_wp2_with fail
                go_ret
                exact ⟨rfl, HB3.out⟩
              · have HA3 := Lib.hid (mem_more HXK.out (P := fun y => T < y.q) HA2.out (by show T < r.q; omega))
                go_wp2_with fail
                go_roundg (gk - 1)
                case measure => omega
                case rel => exact ⟨k + 1, by omega, by go_num, HA3.out, rfl⟩
            · obtain rfl : k = X := by omega
              have hex : (el.take j).flatten ++ x.take k = (el.take (j + 1)).flatten := by rw [HTK.out, List.take_of_length_le (l := x) (by rw [HX.out]; exact Nat.le_refl _)]
              have HA3 := HA2.out
              rw [hex] at HA3
              have HA4 := Lib.hid HA3
              clear hex HA3
              go_wp2_with fail
              go_roundg (G - 1)
              case measure => omega
              case rel => exact ⟨j + 1, by omega, by go_num, HA4.out, rfl⟩
        · obtain rfl : j = m := by omega
          have hal : el.take j = el := List.take_of_length_le (by rw [HM.out]; exact Nat.le_refl _)
          have hnew := HA.out
          rw [hal] at hnew
          have HNW := Lib.hid hnew
          clear hnew hal HA
          generalize hw3 : wr = w3 at *
          clear hw3
          have hfl := flat_few J1.out.1 J1.out.2
          have HRA := Lib.hid (room_two J1.out.1 J1.out.2 J2.out.1 (fun l hl => by have := J2.out.2 l hl; omega))
          have hrm : ∀ e, Room ([mrg e ll.flatten] ++ el) := fun e => by
            have hl : (mrg e ll.flatten).length ≤ 1000 := by
              cases e
              · have := live_length ll.flatten; show (live ll.flatten).length ≤ 1000; omega
              · have := nw_length ll.flatten; show (nw ll.flatten).length ≤ 1000; omega
            exact room_of (by have := J2.out.1; simp; omega) (fun l hl2 => (List.mem_append.1 hl2).elim (fun h => by
              simp only [List.mem_cons, List.not_mem_nil, or_false] at h
              subst h
              exact hl) (fun h => by have := J2.out.2 l h; omega))
          have hml : ∀ e, (mrg e ll.flatten).length ≤ 800 := fun e => by
            cases e
            · have := live_length ll.flatten; show (live ll.flatten).length ≤ 800; omega
            · have := nw_length ll.flatten; show (nw ll.flatten).length ≤ 800; omega
          have hcm : ∀ e, Came2 ([mrg e ll.flatten] ++ el) := fun e => came_app (came_one (fun r hr => came_flat HI.out.came r (by
            cases e
            · exact nw_mem (List.mem_filter.1 hr).1
            · exact nw_mem hr)) (by have := hml e; omega)) HE.out.came
          have HRL := Lib.hid (room_of (ll := ll) (by have := J1.out.1; omega) (fun l hl => by have := J1.out.2 l hl; omega))
          have HCA := Lib.hid (came_app HI.out.came HE.out.came)
          have HNN : Hid (nw ([mrg true ll.flatten] ++ el).flatten = nw (ll ++ el).flatten) := Lib.hid (by
            rw [List.flatten_append, List.flatten_append, List.flatten_cons, List.flatten_nil, List.append_nil]
            exact nw_twice _ _)
          have HLL : Hid (live ([mrg false ll.flatten] ++ el).flatten = live (ll ++ el).flatten) := Lib.hid (by
            rw [List.flatten_append, List.flatten_append, List.flatten_cons, List.flatten_nil, List.append_nil]
            exact live_twice (fun x hx y hy => by have h1 := HTP.out x hx; have h2 := HNW.out y hy; omega))
          have HZ1 : Hid ((nw (ll ++ el).flatten).length ≤ 1000000) := Lib.hid (Nat.le_trans (nw_length _) HRA.out.2.2)
          have HZ2 : Hid ((live (ll ++ el).flatten).length ≤ 1000000) := Lib.hid (Nat.le_trans (live_length _) HRA.out.2.2)
          have HRM := Lib.hid hrm; have HML := Lib.hid hml; have HCM := Lib.hid hcm
          clear hfl hrm hml hcm HTP HNW
          obtain ⟨vs, hvs, hsv⟩ := HI.out.lst.rows
          obtain ⟨us, hus, hsu⟩ := HE.out.lst.rows
          rw [HN.out] at hsv
          rw [HM.out] at hsu
          have HVS := Lib.hid hvs; have HSV := Lib.hid hsv; have HUS := Lib.hid hus; have HSU := Lib.hid hsu
          clear hvs hsv hus hsu
          have K4 := Lib.hid ((Old.refl w3).alloc (.cells #[] 25))
          have hjm : ¬ ((j : Int) < (j : Int)) := by omega
          go_wp2_with (first
            | (at_builtin; refine wpList_append_row _ rfl _ _ 22 rfl w3.heap.size 25 i0 _ 1 24 Try.underlying22 HIN.out.1 HIN.out.2.1 HIN.out.2.2.1 HIN.out.2.2.2 (by omega) rfl _ _ _ rfl (none_list (Nat.le_refl _) (heap_alloc_new w3 _)) (.slice a i cap) i vs rfl (HSV.out _ (HB3.out.below K4.out)) (by omega) (Below.size K4.out) ?_
               intro a5 c5 w5 h5 hg5 ho5
               simp only [Nat.zero_add, List.nil_append] at h5 ho5 ⊢
               have P5 : Hid (Old w3 w5) := Lib.hid (Below.grown K4.out hg5 (Below.size K4.out) (fun j hj => by cases hj; exact Nat.le_refl _)))
            | (at_builtin; refine wpList_append_row _ rfl _ _ 22 rfl w3.heap.size 25 i0 _ 1 24 Try.underlying22 HIN.out.1 HIN.out.2.1 HIN.out.2.2.1 HIN.out.2.2.2 (by omega) rfl _ _ _ rfl h5 (.slice ea j ec) j us rfl (HSU.out _ (HB3.out.below P5.out)) (by omega) (Below.size P5.out) ?_
               intro a6 c6 w6 h6 hg6 ho6
               have P6 : Hid (Old w3 w6) := Lib.hid (Below.grown P5.out hg6 (Below.size P5.out) (fun j hj => (h5.lt _ hj).1))))
          have O6 := Lib.hid (HB3.out.below P6.out)
          obtain ⟨a6', c6', he6, hl6⟩ := lst_of h6 (by rw [List.length_append, HN.out, HM.out]) ((HVS.out.append HUS.out).later O6.out)
          injection he6 with e1 e2 e3
          subst e1 e3
          have HE6 := Lib.hid e2
          have HL6 := Lib.hid hl6
          clear e2 h6 hg6 ho6 hl6 h5 hg5 ho5 P5 P6 K4
          have hPM : ∀ e W, Old w W → Calls Try.prog 14 #[.bool e, .slice a i cap] W (RecsPost W (mrg e ll.flatten)) := fun e W hW => by
            have h := HC.out.merge (elder := e) (HI.out.lst.later hW (Nat.le_refl _)) HRL.out HI.out.came
            rw [HN.out] at h
            exact h
          have HPM := Lib.hid hPM
          clear hPM
          go_wp2_with fail
          refine (HPM.out true _ O6.out).mono ?_
          rintro e w7 ⟨v7, rfl, r7, b7⟩
          have O7 := Lib.hid (O6.out.below b7)
          have HL7 := Lib.hid (HL6.out.later b7 (Nat.le_refl _))
          obtain ⟨a7, c7, rfl, hc7, hm7⟩ := rw_form r7
          obtain ⟨M, hM⟩ : ∃ M, (mrg true ll.flatten).length = M := ⟨_, rfl⟩
          have HMM := Lib.hid hM
          have HR7 : Hid (Recs w7 a7 (mrg true ll.flatten)) := Lib.hid (by
            obtain ⟨x, y, e1, e2⟩ := rw_recs r7
            injection e1 with e1 _ _
            rw [e1]
            exact e2)
          rw [hM] at hc7 ⊢
          clear r7 b7 HL6 O6 hM
          have K8 := Lib.hid ((Old.refl w7).alloc (.cells #[.slice a7 M c7] 25))
          go_wp2_with (at_builtin; refine wpList_append_row _ rfl _ _ 22 rfl w7.heap.size 25 i0 _ 1 24 Try.underlying22 HIN.out.1 HIN.out.2.1 HIN.out.2.2.1 HIN.out.2.2.2 (by omega) rfl _ _ _ rfl (one_list (Nat.le_refl _) (heap_alloc_new w7 _)) (.slice ea j ec) j us rfl (HSU.out _ (O7.out.below K8.out)) (by omega) (Below.size K8.out) ?_
                       intro a8 c8 w8 h8 hg8 ho8
                       have P8 : Hid (Old w7 w8) := Lib.hid (Below.grown K8.out hg8 (Below.size K8.out) (fun j hj => by cases hj; exact Nat.le_refl _)))
          have O8 := Lib.hid (O7.out.below P8.out)
          have hr8 := (Rows4.one (w := w8) (l := mrg true ll.flatten) (cap := c7) (by rw [HMM.out]; exact hc7) hm7 (HR7.out.later P8.out (Nat.le_refl _))).append (HUS.out.later O8.out)
          rw [HMM.out] at hr8
          obtain ⟨a8', c8', he8, hl8⟩ := lst_of h8 (by rw [List.length_append, HM.out]; rfl) hr8
          injection he8 with e1 e2 e3
          subst e1 e3
          have HE8 := Lib.hid e2
          have HL8 := Lib.hid hl8
          have HLA8 := Lib.hid (HL7.out.later P8.out (Nat.le_refl _))
          clear e2 h8 hg8 ho8 hl8 hr8 P8 K8 O7 HL7 HR7
          go_wp2_with fail
          refine (HPM.out false _ O8.out).mono ?_
          rintro e w9 ⟨v9, rfl, r9, b9⟩
          have O9 := Lib.hid (O8.out.below b9)
          have HL9 := Lib.hid (HL8.out.later b9 (Nat.le_refl _))
          have HLA9 := Lib.hid (HLA8.out.later b9 (Nat.le_refl _))
          obtain ⟨a9, c9, rfl, hc9, hm9⟩ := rw_form r9
          obtain ⟨M9, hM9⟩ : ∃ M, (mrg false ll.flatten).length = M := ⟨_, rfl⟩
          have HMM9 := Lib.hid hM9
          have HR9 : Hid (Recs w9 a9 (mrg false ll.flatten)) := Lib.hid (by
            obtain ⟨x, y, e1, e2⟩ := rw_recs r9
            injection e1 with e1 _ _
            rw [e1]
            exact e2)
          rw [hM9] at hc9 ⊢
          clear r9 b9 HL8 HLA8 O8 hM9
          have K10 := Lib.hid ((Old.refl w9).alloc (.cells #[.slice a9 M9 c9] 25))
          go_wp2_with (at_builtin; refine wpList_append_row _ rfl _ _ 22 rfl w9.heap.size 25 i0 _ 1 24 Try.underlying22 HIN.out.1 HIN.out.2.1 HIN.out.2.2.1 HIN.out.2.2.2 (by omega) rfl _ _ _ rfl (one_list (Nat.le_refl _) (heap_alloc_new w9 _)) (.slice ea j ec) j us rfl (HSU.out _ (O9.out.below K10.out)) (by omega) (Below.size K10.out) ?_
                       intro a10 c10 w10 h10 hg10 ho10
                       have P10 : Hid (Old w9 w10) := Lib.hid (Below.grown K10.out hg10 (Below.size K10.out) (fun j hj => by cases hj; exact Nat.le_refl _)))
          have O10 := Lib.hid (O9.out.below P10.out)
          have hr10 := (Rows4.one (w := w10) (l := mrg false ll.flatten) (cap := c9) (by rw [HMM9.out]; exact hc9) hm9 (HR9.out.later P10.out (Nat.le_refl _))).append (HUS.out.later O10.out)
          rw [HMM9.out] at hr10
          obtain ⟨a10', c10', he10, hl10⟩ := lst_of h10 (by rw [List.length_append, HM.out]; rfl) hr10
          injection he10 with e1 e2 e3
          subst e1 e3
          have HE10 := Lib.hid e2
          have HLB := Lib.hid hl10
          have HLW := Lib.hid (HL9.out.later P10.out (Nat.le_refl _))
          have HLA := Lib.hid (HLA9.out.later P10.out (Nat.le_refl _))
          clear e2 h10 hg10 ho10 hl10 hr10 P10 K10 O9 HL9 HLA9 HR9 HPM
          have hAl : (ll ++ el).length = i + j := by rw [List.length_append, HN.out, HM.out]
          have hWl : ∀ e, ([mrg e ll.flatten] ++ el).length = 1 + j := fun e => by rw [List.length_append, HM.out]; rfl
          have h1 := HC.out.newest (w := w10) HLW.out (HRM.out true) (HCM.out true)
          rw [hWl, HNN.out] at h1
          have h2 : ∀ W, Old w10 W → Calls Try.prog 12 #[.slice a6 (i + j) c6] W (RecsPost W (nw (ll ++ el).flatten)) := fun W hW => by
            have h := HC.out.newest (HLA.out.later hW (Nat.le_refl _)) HRA.out HCA.out
            rw [hAl] at h
            exact h
          have h3 : ∀ W, Old w10 W → Calls Try.prog 13 #[.slice a10 (1 + j) c10] W (RecsPost W (live (ll ++ el).flatten)) := fun W hW => by
            have h := HC.out.live (HLB.out.later hW (Nat.le_refl _)) (HRM.out false) (HCM.out false)
            rw [hWl, HLL.out] at h
            exact h
          have h4 : ∀ W, Old w10 W → Calls Try.prog 13 #[.slice a6 (i + j) c6] W (RecsPost W (live (ll ++ el).flatten)) := fun W hW => by
            have h := HC.out.live (HLA.out.later hW (Nat.le_refl _)) HRA.out HCA.out
            rw [hAl] at h
            exact h
          have H1 := Lib.hid h1; have H2 := Lib.hid h2; have H3 := Lib.hid h3; have H4 := Lib.hid h4
          clear h1 h2 h3 h4 hAl hWl
          go_wp2_with fail
          refine H1.out.mono ?_
          rintro e w11 ⟨v11, rfl, r11, b11⟩
          have R11 := Lib.hid r11; have P11 := Lib.hid (show Old w10 w11 from b11)
          clear r11 b11 H1
          go_wp2_with fail
          refine (H2.out _ P11.out).mono ?_
          rintro e w12 ⟨v12, rfl, r12, b12⟩
          have R12 := Lib.hid r12; have P12 := Lib.hid (P11.out.below b12); have R11' := Lib.hid (R11.out.later b12)
          clear r12 b12 H2 R11 P11
          go_wp2_with fail
          refine (same_rows R11'.out R12.out HZ1.out).mono ?_
          rintro e w13 ⟨rfl, b13⟩
          have P13 := Lib.hid (P12.out.below b13)
          clear b13 R11' R12 P12
          go_wp2_with fail
          refine (H3.out _ P13.out).mono ?_
          rintro e w14 ⟨v14, rfl, r14, b14⟩
          have R14 := Lib.hid r14; have P14 := Lib.hid (P13.out.below b14)
          clear r14 b14 H3 P13
          go_wp2_with fail
          refine (H4.out _ P14.out).mono ?_
          rintro e w15 ⟨v15, rfl, r15, b15⟩
          have R15 := Lib.hid r15; have P15 := Lib.hid (P14.out.below b15); have R14' := Lib.hid (R14.out.later b15)
          clear r15 b15 H4 R14 P14
          go_wp2_with fail
          refine (same_rows R14'.out R15.out HZ2.out).mono ?_
          rintro e w16 ⟨rfl, b16⟩
          have HF := Lib.hid (O10.out.below (P15.out.below b16))
          clear b16 R14' R15 P15
          go_wp2_with fail
          go_ret
          exact ⟨rfl, HF.out⟩
end Go.Proofs.Ytfcfleeiffmjdaa.G
