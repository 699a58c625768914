/- MergeElder over what is asked: what is merged of newer ones comes to the same in front of elder ones as they do. -/
import Derived.Test.YtfcfleeiffmjdaaGbatl
namespace Go.Proofs.Ytfcfleeiffmjdaa.G
open Go.RowKit
set_option linter.unusedVariables false
set_option linter.unusedSimpArgs false

theorem flat_few {ll : List (List Rc)} (h1 : ll.length ≤ 20) (h2 : ∀ l ∈ ll, l.length ≤ 40) : ll.flatten.length ≤ 800 := by
  have h : ∀ (m : List (List Rc)), (∀ l ∈ m, l.length ≤ 40) → m.flatten.length ≤ m.length * 40 := by
    intro m
    induction m with
    | nil => intro _; simp
    | cons x m ih =>
      intro hm
      have := ih (fun l hl => hm l (List.mem_cons_of_mem _ hl))
      have hx := hm x (List.mem_cons_self ..)
      rw [List.flatten_cons, List.length_append, List.length_cons]
      omega
  have := h ll h2
  omega
theorem came_app {a b : List (List Rc)} (h : Came2 a) (k : Came2 b) : Came2 (a ++ b) := fun l hl => (List.mem_append.1 hl).elim (h l) (k l)
theorem came_one {l : List Rc} (h : ∀ r ∈ l, Came r) (hl : l.length ≤ 1000000) : Came2 [l] := fun x hx => by
  simp only [List.mem_cons, List.not_mem_nil, or_false] at hx
  subst hx
  exact ⟨by unfold maxLen; omega, h⟩
theorem room_two {a b : List (List Rc)} (h1 : a.length ≤ 20) (h2 : ∀ l ∈ a, l.length ≤ 40) (h3 : b.length ≤ 20) (h4 : ∀ l ∈ b, l.length ≤ 1000) : Room (a ++ b) :=
  room_of (by rw [List.length_append]; omega) (fun l hl => (List.mem_append.1 hl).elim (fun h => by have := h2 l h; omega) (h4 l))
theorem infoList : (Try.prog.info? 25).map (fun i => (i.zero, i.size, i.bytes)) = some (some (.slice none 0 0), 1, 24) := infoSlice
/-- Light, of an argument in a later world. -/
theorem light_later {w : World} {ll : List (List Rc)} {a : Option Addr} {cap : Nat} (hin : Inp w a cap ll) (W : World) (hW : Old w W) : Calls Try.prog 8 #[.slice a ll.length cap] W fun e w' => ∃ b : Bool, e = .returned (.bool b) ∧ (b = true → ll.length ≤ 20 ∧ ∀ l ∈ ll, l.length ≤ 40) ∧ Old w w' :=
  (light_law ⟨hin.lst.later hW (Nat.le_refl _), hin.came, hin.len⟩).mono fun e w' ⟨b, h1, h2, h3⟩ => ⟨b, h1, h2, hW.below h3⟩

set_option maxRecDepth 100000 in
set_option maxHeartbeats 4000000 in
theorem elder_walk (C : MrgC) (el : List (List Rc)) (ea : Option Addr) (ec : Nat) (ll : List (List Rc)) (a : Option Addr) (cap : Nat) (w : World) (hem : el.length ≤ 9223372036854775807) (hein : Inp w ea ec el) (_ : True)
    (hlm : ll.length ≤ 9223372036854775807) (hin : Inp w a cap ll) (_ : True) :
    Calls Try.prog 5 #[.slice ea el.length ec, .slice a ll.length cap] w fun e w' => e = .returned (.bool true) ∧ Below w.heap.size w w' := by
  have HAW := Lib.hid (fun W => awake_any C W)
  have HC := Lib.hid C
  have HI := Lib.hid hin; have HE := Lib.hid hein
  have HLI := Lib.hid (light_later hin); have HLE := Lib.hid (light_later hein)
  obtain ⟨i0, hi, hz0, hz1, hz2⟩ := info_parts infoList
  have HIN := Lib.hid (And.intro hi (And.intro hz0 (And.intro hz1 hz2)))
  obtain ⟨n, hn⟩ : ∃ n, ll.length = n := ⟨_, rfl⟩
  obtain ⟨m, hm⟩ : ∃ m, el.length = m := ⟨_, rfl⟩
  have HN := Lib.hid hn; have HM := Lib.hid hm
  rw [hn] at HLI hlm ⊢
  rw [hm] at HLE hem ⊢
  clear hin hein hn hm hi hz0 hz1 hz2
  go_enter Try.func5, Try.ntmps5
  go_wp2_with fail
  refine (HAW.out _).mono ?_
  rintro e w1 ⟨rfl, b1⟩
  have B1 := Lib.hid (show Old w w1 from b1)
  clear b1
  go_wp2_with fail
  refine (HLI.out _ B1.out).mono ?_
  rintro e w2 ⟨ok1, rfl, hok1, B2⟩
  have HB2 := Lib.hid B2; have HK1 := Lib.hid hok1
  clear B2 B1 HLI HAW hok1
  go_wp2_with fail
  refine (HLE.out _ HB2.out).mono ?_
  rintro e w3 ⟨ok2, rfl, hok2, B3⟩
  have HB3 := Lib.hid B3; have HK2 := Lib.hid hok2
  clear B3 HB2 HLE hok2
  cases ok1
  · go_wp2_with fail
    go_ret
    exact ⟨rfl, HB3.out⟩
  cases ok2
  · go_wp2_with fail
    go_ret
    exact ⟨rfl, HB3.out⟩
  have k1 : ll.length ≤ 20 ∧ ∀ l ∈ ll, l.length ≤ 40 := ⟨by rw [HN.out]; exact (HK1.out rfl).1, (HK1.out rfl).2⟩
  have k2 : el.length ≤ 20 ∧ ∀ l ∈ el, l.length ≤ 40 := ⟨by rw [HM.out]; exact (HK2.out rfl).1, (HK2.out rfl).2⟩
  have hfl := flat_few k1.1 k1.2
  have HRA := Lib.hid (room_two k2.1 k2.2 k1.1 (fun l hl => by have := k1.2 l hl; omega))
  have HRM := Lib.hid (room_two (b := [mrg true ll.flatten]) k2.1 k2.2 (by simp) (fun l hl => by
    simp only [List.mem_cons, List.not_mem_nil, or_false] at hl
    subst hl
    have := nw_length ll.flatten
    show (nw ll.flatten).length ≤ 1000
    omega))
  have HRL := Lib.hid (room_of (ll := ll) (by omega) (fun l hl => by have := k1.2 l hl; omega))
  have HML : Hid ((mrg true ll.flatten).length ≤ 800) := Lib.hid (Nat.le_trans (nw_length _) hfl)
  have HCA := Lib.hid (came_app HE.out.came HI.out.came)
  have HCM := Lib.hid (came_app HE.out.came (came_one (l := mrg true ll.flatten) (fun r hr => came_flat HI.out.came r (nw_mem hr)) (by have := HML.out; omega)))
  have hn20 : n ≤ 20 := by rw [← HN.out]; exact k1.1
  have hm20 : m ≤ 20 := by rw [← HM.out]; exact k2.1
  have HLV : Hid (live (el ++ [mrg true ll.flatten]).flatten = live (el ++ ll).flatten) := Lib.hid (by
    rw [List.flatten_append, List.flatten_append, List.flatten_cons, List.flatten_nil, List.append_nil]
    exact live_front _ _)
  have HLS : Hid ((live (el ++ ll).flatten).length ≤ 1000000) := Lib.hid (Nat.le_trans (live_length _) HRA.out.2.2)
  clear hfl k1 k2 HK1 HK2
  have b3s := Below.size HB3.out
  obtain ⟨vs, hvs, hsv⟩ := HE.out.lst.rows
  obtain ⟨us, hus, hsu⟩ := HI.out.lst.rows
  rw [HM.out] at hsv
  rw [HN.out] at hsu
  have HVS := Lib.hid hvs; have HSV := Lib.hid hsv; have HUS := Lib.hid hus; have HSU := Lib.hid hsu
  clear hvs hsv hus hsu
  have O4 := Lib.hid (HB3.out.alloc (.cells #[] 25))
  go_wp2_with (first
    | (at_builtin; refine wpList_append_row _ rfl _ _ 22 rfl w.heap.size 25 i0 _ 1 24 Try.underlying22 HIN.out.1 HIN.out.2.1 HIN.out.2.2.1 HIN.out.2.2.2 (by omega) rfl _ _ _ rfl (none_list b3s (heap_alloc_new w3 _)) (.slice ea m ec) m vs rfl (HSV.out _ O4.out) (by omega) (Below.size O4.out) ?_
       intro a5 c5 w5 h5 hg5 ho5
       simp only [Nat.zero_add, List.nil_append] at h5 ho5 ⊢
       have O5 : Hid (Old w w5) := Lib.hid (Below.grown O4.out hg5 (Below.size O4.out) (fun j hj => by cases hj; exact b3s)))
    | (at_builtin; refine wpList_append_row _ rfl _ _ 22 rfl w.heap.size 25 i0 _ 1 24 Try.underlying22 HIN.out.1 HIN.out.2.1 HIN.out.2.2.1 HIN.out.2.2.2 (by omega) rfl _ _ _ rfl h5 (.slice a n cap) n us rfl (HSU.out _ O5.out) (by omega) (Below.size O5.out) ?_
       intro a6 c6 w6 h6 hg6 ho6
       have O6 : Hid (Old w w6) := Lib.hid (Below.grown O5.out hg6 (Below.size O5.out) (fun j hj => (h5.lt _ hj).1))))
  obtain ⟨a6', c6', he6, hl6⟩ := lst_of h6 (by rw [List.length_append, HN.out, HM.out]) ((HVS.out.append HUS.out).later O6.out)
  injection he6 with e1 e2 e3
  subst e1 e3
  have HE6 := Lib.hid e2
  clear e2
  have HL6 := Lib.hid hl6
  clear h6 hg6 ho6 hl6 h5 hg5 ho5 O5 O4
  have hPM := HC.out.merge (elder := true) (w := w6) (HI.out.lst.later O6.out (Nat.le_refl _)) HRL.out HI.out.came
  rw [HN.out] at hPM
  have HPM := Lib.hid hPM
  clear hPM
  go_wp2_with fail
  refine HPM.out.mono ?_
  rintro e w7 ⟨v7, rfl, r7, b7⟩
  have O7 := Lib.hid (O6.out.below b7)
  have HL7 := Lib.hid (HL6.out.later b7 (Nat.le_refl _))
  obtain ⟨a7, c7, rfl, hc7, hm7⟩ := rw_form r7
  have H7 := Lib.hid r7
  obtain ⟨M, hM⟩ : ∃ M, (mrg true ll.flatten).length = M := ⟨_, rfl⟩
  have HMM := Lib.hid hM
  have hM8 : M ≤ 800 := by rw [← hM]; exact HML.out
  have HR7 : Hid (Recs w7 a7 (mrg true ll.flatten)) := Lib.hid (by
    obtain ⟨x, y, e1, e2⟩ := rw_recs r7
    injection e1 with e1 _ _
    rw [e1]
    exact e2)
  rw [hM] at hc7 ⊢
  clear r7 b7 HPM HL6 O6 hM
  have K8 := Lib.hid ((Old.refl w7).alloc (.cells #[] 25))
  go_wp2_with (first
    | (at_builtin; refine wpList_append_row _ rfl _ _ 22 rfl w7.heap.size 25 i0 _ 1 24 Try.underlying22 HIN.out.1 HIN.out.2.1 HIN.out.2.2.1 HIN.out.2.2.2 (by omega) rfl _ _ _ rfl (none_list (Nat.le_refl _) (heap_alloc_new w7 _)) (.slice ea m ec) m vs rfl (HSV.out _ (O7.out.below K8.out)) (by omega) (Below.size K8.out) ?_
       intro a9 c9 w9 h9 hg9 ho9
       simp only [Nat.zero_add, List.nil_append] at h9 ho9 ⊢
       have P9 : Hid (Old w7 w9) := Lib.hid (Below.grown K8.out hg9 (Below.size K8.out) (fun j hj => by cases hj; exact Nat.le_refl _)))
    | (at_builtin; refine wpList_append_row _ rfl _ _ 22 rfl w7.heap.size 25 i0 _ 1 24 Try.underlying22 HIN.out.1 HIN.out.2.1 HIN.out.2.2.1 HIN.out.2.2.2 (by omega) rfl _ _ _ rfl (World.ownsRow.alloc h9 _) (.slice (some ⟨w9.heap.size, 0, none⟩) 1 1) 1 [.slice a7 M c7] rfl (src_one_cell (heap_alloc_new w9 _)) (by omega) (Below.size (P9.out.alloc _)) ?_
       intro a10 c10 w10 h10 hg10 ho10
       have P10 : Hid (Old w7 w10) := Lib.hid (Below.grown (P9.out.alloc _) hg10 (Below.size (P9.out.alloc _)) (fun j hj => (h9.lt _ hj).1))))
  have O10 := Lib.hid (O7.out.below P10.out)
  have hr10 := (HVS.out.later O10.out).append (Rows4.one (w := w10) (l := mrg true ll.flatten) (cap := c7) (by rw [HMM.out]; exact hc7) hm7 (HR7.out.later P10.out (Nat.le_refl _)))
  rw [HMM.out] at hr10
  obtain ⟨a10', c10', he10, hl10⟩ := lst_of h10 (by rw [List.length_append, HM.out]; rfl) hr10
  injection he10 with e1 e2 e3
  subst e1 e3
  have HE10 := Lib.hid e2
  clear e2
  have HL10 := Lib.hid hl10
  have HLA := Lib.hid (HL7.out.later P10.out (Nat.le_refl _))
  have H10 := Lib.hid (H7.out.later P10.out)
  clear h10 hg10 ho10 hl10 h9 hg9 ho9 hr10 P9 P10 O7 HL7 H7 HR7 K8
  go_wp2_with fail
  have HUP : Hid (Up Rc.k (mrg true ll.flatten)) := Lib.hid (nw_up _)
  go_loopg [11] M (fun g iv wr => ∃ j d : Nat, M ≤ j + 1 + g ∧ iv = .int .i64 ((j : Int) + 1) ∧ wr = w10.drewN d)
  case atStart => exact ⟨0, 0, by omega, by simp, rfl⟩
  case round =>
    obtain ⟨j, d, hj, rfl, rfl⟩ := hrel
    by_cases hlt : j + 1 < M
    · obtain ⟨x, hx⟩ : ∃ x, (mrg true ll.flatten)[j]? = some x := ⟨(mrg true ll.flatten)[j]'(by rw [HMM.out]; omega), List.getElem?_eq_getElem _⟩
      obtain ⟨y, hy⟩ : ∃ y, (mrg true ll.flatten)[j + 1]? = some y := ⟨(mrg true ll.flatten)[j + 1]'(by rw [HMM.out]; exact hlt), List.getElem?_eq_getElem _⟩
      have hxy : lt x.k y.k = true := by
        obtain ⟨hx1, rfl⟩ := List.getElem?_eq_some_iff.1 hx
        obtain ⟨hy1, rfl⟩ := List.getElem?_eq_some_iff.1 hy
        exact List.pairwise_iff_getElem.1 HUP.out j (j + 1) hx1 hy1 (by omega)
      have hbl : Op.bytesLess (bs x.k).toList (bs y.k).toList = true := by rw [bs_toList, bs_toList]; exact hxy
      obtain ⟨g, hg, _, hgl, _, d1, _, _, _⟩ := rw_at H10.out hx
      subst hg
      obtain ⟨g', hg', _, _, _, e1, _, _, _⟩ := rw_at H10.out hy
      cases hg'
      have q1 := IntWalk.i64_in ((j : Int) + 1 - 1) ⟨by omega, by omega⟩
      have q2 : (j : Int) + 1 - 1 = (j : Int) := by omega
      rw [q2] at q1
      clear hx hy hxy
      go_wp2_with fail
      go_quiet (fail)
      go_wp2_with fail
      go_roundg (gk - 1)
      case measure => omega
      case rel => exact ⟨j + 1, d + nq, by omega, by simp, rfl⟩
    · have hD : Below w10.heap.size w10 (w10.drewN d) := below_drewN (Below.refl _ _) d
      have O11 := Lib.hid (O10.out.below hD)
      have h1 := HC.out.live (w := w10.drewN d) (HL10.out.later hD (Nat.le_refl _)) HRM.out HCM.out
      have e1 : (el ++ [mrg true ll.flatten]).length = m + 1 := by rw [List.length_append, HM.out]; rfl
      rw [e1, HLV.out] at h1
      have hLA : ∀ W, Old w10 W → Calls Try.prog 13 #[.slice a6 (m + n) c6] W (RecsPost W (live (el ++ ll).flatten)) := fun W hW => by
        have h := HC.out.live (HLA.out.later hW (Nat.le_refl _)) HRA.out HCA.out
        have e2 : (el ++ ll).length = m + n := by rw [List.length_append, HM.out, HN.out]
        rw [e2] at h
        exact h
      have HV1 := Lib.hid h1; have HV2 := Lib.hid hLA; have HD := Lib.hid (show Old w10 (w10.drewN d) from hD)
      have hjM : ¬ ((j : Int) + 1 < (M : Int)) := by omega
      clear h1 hLA hD e1
      go_wp2_with fail
      refine HV1.out.mono ?_
      rintro e w12 ⟨v12, rfl, r12, b12⟩
      have H12 := Lib.hid r12
      have P12 := Lib.hid (HD.out.below b12)
      have O12 := Lib.hid (O11.out.below b12)
      clear r12 b12 HV1
      go_wp2_with fail
      refine (HV2.out _ P12.out).mono ?_
      rintro e w13 ⟨v13, rfl, r13, b13⟩
      have H13 := Lib.hid r13
      have H12' := Lib.hid (H12.out.later b13)
      have O13 := Lib.hid (O12.out.below b13)
      clear r13 b13 HV2 H12 O12 P12
      go_wp2_with fail
      refine (same_rows H12'.out H13.out HLS.out).mono ?_
      rintro e w14 ⟨rfl, b14⟩
      have HF := Lib.hid (O13.out.below b14)
      clear b14 H12' H13 O13
      go_wp2_with fail
      go_ret
      exact ⟨rfl, HF.out⟩
end Go.Proofs.Ytfcfleeiffmjdaa.G
