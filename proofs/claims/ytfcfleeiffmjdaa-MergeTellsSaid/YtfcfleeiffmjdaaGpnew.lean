/- The program's Newest, Live and Merge. -/
import Derived.Test.YtfcfleeiffmjdaaGpsort
import Derived.Test.YtfcfleeiffmjdaaGpdel
namespace Go.Proofs.Ytfcfleeiffmjdaa.G
open Go.RowKit Go.Maps
set_option linter.unusedVariables false
set_option linter.unusedSimpArgs false

/-- What has been gathered: of each key that is no longer to come, its newest. -/
def Gath (L : List Rc) (left : Lit → Bool) (ls : List Rc) : Prop :=
  (∀ r ∈ ls, best L r.k = some r ∧ left (.string r.k) = false) ∧ (∀ n r, best L n = some r → left (.string n) = false → r ∈ ls) ∧ ls.Pairwise (fun x y => x.k ≠ y.k)
theorem Gath.start {L : List Rc} {left : Lit → Bool} (h : ∀ n, left (.string n) = (best L n).isSome) : Gath L left [] :=
  ⟨fun r hr => by simp at hr, (fun n r hb hl => by rw [h, hb] at hl; cases hl), List.Pairwise.nil⟩
theorem Gath.step {L : List Rc} {left : Lit → Bool} {ls : List Rc} (h : Gath L left ls) {r : Rc} (hb : best L r.k = some r) (hl : left (.string r.k) = true) : Gath L (fun z => left z && !z.sameKey (.string r.k)) (ls ++ [r]) := by
  obtain ⟨h1, h2, h3⟩ := h
  refine ⟨fun x hx => ?_, fun n x hx hlx => ?_, ?_⟩
  · rcases List.mem_append.1 hx with hx | hx
    · obtain ⟨a, b⟩ := h1 x hx
      exact ⟨a, by simp [b]⟩
    · simp only [List.mem_cons, List.not_mem_nil, or_false] at hx
      subst hx
      exact ⟨hb, by simp [Lit.sameKey]⟩
  · rw [List.mem_append]
    cases hln : left (.string n)
    · exact Or.inl (h2 n x hx hln)
    · right
      by_cases e : n = r.k
      · subst e
        rw [hb] at hx
        injection hx with hx
        simp [hx]
      · exfalso
        have := Maps.sameKey_ne (a := .string n) (b := .string r.k) (lit_neq e)
        simp [hln, this] at hlx
  · rw [List.pairwise_append]
    refine ⟨h3, List.pairwise_singleton _ _, fun x hx y hy => ?_⟩
    simp only [List.mem_cons, List.not_mem_nil, or_false] at hy
    subst hy
    intro e
    have := (h1 x hx).2
    rw [e, hl] at this
    cases this
/-- Gathered, and sorted, they are the newest. -/
theorem gath_nw {L : List Rc} {left : Lit → Bool} {ls m : List Rc} (h : Gath L left ls) (hl : ∀ kl, left kl = false) (hp : m.Perm ls) (hs : m.Pairwise (fun x y => lt y.k x.k = false)) : m = nw L := by
  obtain ⟨h1, h2, h3⟩ := h
  have ha : m.Pairwise (fun x y => x.k ≠ y.k) := (hp.pairwise_iff (fun h e => h e.symm)).2 h3
  have hu : Up Rc.k m := (ha.and hs).imp (fun ⟨g1, g2⟩ => lt_total g2 (fun e => g1 e.symm))
  refine IsNew.eq ⟨hu, fun n => ?_⟩
  cases hb : best L n with
  | some r =>
    have hk := (best_key hb).2
    exact fnd_of hu (hp.mem_iff.2 (h2 n r hb (hl _))) hk
  | none =>
    refine fnd_not (fun x hx e => ?_)
    have := (h1 x (hp.mem_iff.1 hx)).1
    rw [e, hb] at this
    cases this
theorem size_le {w : World} {mb n : Nat} {D : DataW Value} (h : w.ownsMap Try.prog 9 heldV mb n D) : Maps.size D ≤ n := by
  obtain ⟨es, clock, hb, F, hs, hD⟩ := h
  rw [hD]
  simpa [Maps.size, length_sorted] using hs
/-- What comes out of the map is what is newest of its key. -/
theorem Newm.out {w : World} {mb : Nat} {l : List Rc} {D : DataW Value} (h : Newm w mb l D) {n : List UInt8} {c : Value} {y : DataW Value × List MemPlace} (hv : heldV c = some y) (hat : ∀ zd, D.atKey (.string n) zd = y.1) : ∃ r, best l n = some r ∧ c = rv r := by
  have hy := heldV_inv (v := c) (z := y.1) (ps := y.2) hv
  cases hb : best l n with
  | some r =>
    have h1 := h.2.2 n r hb (.held c)
    rw [hat, hy] at h1
    injection h1 with h1
    exact ⟨r, rfl, h1⟩
  | none =>
    exfalso
    have h0 : Maps.has D (.string n) = false := by rw [h.2.1, hb]; rfl
    have h1 := hat (.agg [])
    rw [atKey_of_not_has h0, hy] at h1
    cases h1

set_option maxRecDepth 100000 in
set_option maxHeartbeats 4000000 in
theorem pnewest_any {ll : List (List Rc)} {a : Option Addr} {cap : Nat} {w : World} (hl : Lst w a cap ll) (hr : Room ll) (hf : Came2 ll) :
    Calls Try.prog 12 #[.slice a ll.length cap] w (RecsPost w (nw ll.flatten)) := by
  have HC := Lib.hid (pcomb_any (cap := cap) hl.1.bats hr hf)
  have HL : Hid (ll.flatten.length ≤ 1000000) := Lib.hid hr.2.2
  obtain ⟨i0, hi, hz0, hz1, hz2⟩ := info_parts infoRec
  have HI := Lib.hid (And.intro hi (And.intro hz0 (And.intro hz1 hz2)))
  clear hi hz0 hz1 hz2 hl hr hf
  generalize ll.length = n at *
  generalize ll.flatten = L at *
  unfold keyF newF at HC
  go_enter Try.func12, Try.ntmps12
  go_wp2_with fail
  refine HC.out.mono ?_
  rintro e w1 ⟨D, rfl, hD, hO1⟩
  have HD := Lib.hid hD; have HO1 := Lib.hid hO1
  have hml := hD.lt
  have hDs := size_le hD.1
  have hown := hD.1
  clear hD hO1 HC
  go_wp2_with (first
    | (at_range; refine wpList_range_own _ rfl _ 37 rfl 9 35 strKeyed Try.underlying37 _ w.heap.size L.length D rfl hown ?_; intro w2 hrg hg2 hs2)
    | go_in)
  go_frame
  obtain ⟨rb, hrb⟩ : ∃ rb, rb = w1.heap.size := ⟨_, rfl⟩
  rw [← hrb] at hrg ⊢
  have hw2 : w.heap.size < w2.heap.size ∧ rb < w2.heap.size ∧ w.heap.size < rb := by omega
  have hO2 : Old w w2 := Below.grown HO1.out hg2 (Below.size HO1.out) (fun j hj => nomatch hj)
  have HO2 := Lib.hid hO2
  have HG0 : Hid (Gath L (Maps.has D) []) := Lib.hid (Gath.start HD.out.2.1)
  have HRG := Lib.hid hrg
  clear hO2 hs2 hg2 hown hrg hrb
  go_loopw [3] (fun ov wr => ∃ (left : Lit → Bool) (cnt : Nat) (ls : List Rc) (u : Value), ov = u ∧ wr.ranges Try.prog 9 heldV w.heap.size rb L.length D left cnt ∧ ls.length + cnt ≤ Maps.size D ∧ Gath L left ls ∧ Rw wr w2.heap.size u ls ∧ w2.heap.size ≤ wr.heap.size ∧ Old w wr)
    (fun _ wr => wr.rangeLeft w.heap.size rb)
  case atStart => exact ⟨_, _, [], _, rfl, HRG.out, by simp, HG0.out, Rw.nil _ _, Nat.le_refl _, HO2.out⟩
  case round =>
    clear HG0 HRG
    obtain ⟨left, cnt, ls, u, rfl, hrg, hcs, hga, how, hsz, hold⟩ := hrel
    obtain ⟨ra, rc, rfl, hrc, hrm⟩ := rw_form how
    have HRG := Lib.hid hrg; have HGA := Lib.hid hga; have HOW := Lib.hid how; have HOL := Lib.hid hold
    clear how hold hga
    go_wp2_with (first
      | (at_next; refine wpList_next_ranges _ rfl _ rfl 9 strKeyed heldV (fun x : List UInt8 => Value.string (bs x)) (fun v : Value => v) (fun key kl hk => by obtain ⟨x, hx, _⟩ := key_str hk; exact ⟨x, hx⟩) (fun v y hv => ⟨v, rfl⟩) w.heap.size rb L.length _ _ _ rfl hrg ?_ ?_)
      | go_in)
    · intro hc0 hl0
      clear hrg
      have hls : ls.length ≤ 1000000 := by have := HL.out; omega
      have HS := Lib.hid (psort_any HOW.out hls hsz)
      have HL0 := Lib.hid hl0
      have HNL : Hid (∀ m : List Rc, m.Perm ls → m.length = ls.length) := Lib.hid (fun m h => h.length_eq)
      generalize ls.length = k at *
      unfold cmpF at HS
      clear hl0 HOW
      go_wp2_with fail
      refine HS.out.mono ?_
      rintro e w4 ⟨rfl, m, hp, hs, hr, hb⟩
      have HM := Lib.hid (gath_nw HGA.out HL0.out hp hs)
      have HR := Lib.hid hr
      have HB4 := Lib.hid (Below.trans HOL.out (hb.mono (Below.size HO2.out)))
      clear hp hs hr hb HS
      go_wp2_with fail
      go_ret
      exact ⟨_, rfl, by rw [← HM.out]; exact HR.out.base (Nat.le_of_lt hw2.1), HB4.out⟩
    · intro x c kl yd yp w3 cnt1 hkey hlk hv hat hrg1 hlt hg1 hs1 hen
      have HLF := Lib.hid hrg.left_eq
      clear hrg
      obtain ⟨x', ex, rfl, hxl⟩ := key_str hkey
      have hxx : x = x' := by
        injection ex with ex
        rw [← bs_lst x, ex, bs_lst]
      subst hxx
      obtain ⟨r, hbr, rfl⟩ := HD.out.out (y := (yd, yp)) hv hat
      obtain rfl : r.k = x := (best_key hbr).2
      have HGS := Lib.hid (HGA.out.step hbr hlk)
      have HRG1 := Lib.hid hrg1
      have HOW1 : Hid (Rw w3 w2.heap.size (.slice ra ls.length rc) ls) := Lib.hid (owns_kept HOW.out (fun g hg => hg1.block g (HOW.out.lt g hg).2 (fun e => by have := (HOW.out.lt g hg).1; injection e with e; omega)))
      have hO3 : w2.heap.size ≤ w3.heap.size := by have := hg1.size; omega
      have HOL1 : Hid (Below w.heap.size w w3) := Lib.hid (Below.grown HOL.out hg1 (Below.size HOL.out) (fun j hj => by cases hj; omega))
      unfold rv at hen
      clear hkey hlk hv hat hrg1 hg1 hs1 ex hxl HGA HRG HOW HOL
      have hls : ls.length ≤ 1000000 := by have := HL.out; omega
      have hk := Below.size HOL1.out
      have hz3 : w2.heap.size ≤ w3.heap.size := hO3
      go_wp2_with (at_builtin; refine wpList_append_own _ rfl _ _ 25 rfl w2.heap.size 35 i0 (.agg #[.int .u64 0, .string ⟨#[]⟩, .string ⟨#[]⟩, .bool false]) 4 48 Try.underlying25 HI.out.1 HI.out.2.1 HI.out.2.2.1 HI.out.2.2.2 rfl (by decide) _ _ _ rfl ((HOW1.out.alloc _).alloc _) ⟨w3.heap.size + 1, 0, none⟩ 1 1 [.int .u64 ((r.q : Nat) : Int), .string (bs r.k), .string (bs r.v), .bool r.g] rfl rfl (by have := cell_four_new (w3.alloc (.cells #[.int .u64 ((r.q : Nat) : Int), .string (bs r.k), .string (bs r.v), .bool r.g] 35)) (.int .u64 ((r.q : Nat) : Int)) (.string (bs r.k)) (.string (bs r.v)) (.bool r.g) 35; simpa using this) (fl4_one r) (by unfold maxLen; omega) (by omega) (by simp; omega) ?_
                   intro v' w4 hown' hgrow _
                   have HB4 := Lib.hid hgrow
                   have HO4 := Lib.hid hown'
                   clear hown' hgrow)
      have hne : ∀ q, q < w2.heap.size → some q ≠ (Value.slice ra ls.length rc).ownBlock := fun q hq e => by have := (HOW1.out.lt q e.symm).1; omega
      have HRG4 := Lib.hid (((HRG1.out.alloc _).alloc _).kept HB4.out (hne _ hw2.1) (hne _ hw2.2.1))
      have HOL4 : Hid (Old w w4) := Lib.hid (Below.grown ((HOL1.out.alloc hk _).alloc (by simp; omega) _) HB4.out (by simp; omega) (fun j hj => by have := (HOW1.out.lt j hj).1; omega))
      have hz4 : w2.heap.size ≤ w4.heap.size := by have := HB4.out.size; simp at this; omega
      go_roundw
      case rel => exact ⟨_, cnt1, ls ++ [r], v', rfl, HRG4.out, by rw [List.length_append, List.length_singleton]; omega, HGS.out, by unfold Rw; rw [flat_snoc, List.length_append]; exact HO4.out, hz4, HOL4.out⟩
      case measure => rw [HRG4.out.left_eq, HLF.out]; exact hlt

set_option maxRecDepth 100000 in
theorem plive_any {ll : List (List Rc)} {a : Option Addr} {cap : Nat} {w : World} (hl : Lst w a cap ll) (hr : Room ll) (hf : Came2 ll) :
    Calls Try.prog 13 #[.slice a ll.length cap] w (RecsPost w (live ll.flatten)) := by
  have HN := Lib.hid (pnewest_any hl hr hf)
  have HL : Hid ((nw ll.flatten).length ≤ 1000000) := Lib.hid (Nat.le_trans (nw_length _) hr.2.2)
  clear hl hr hf
  have HLV : Hid (live ll.flatten = (nw ll.flatten).filter (fun r => !r.g)) := Lib.hid rfl
  generalize live ll.flatten = M at *
  generalize ll.length = n at *
  generalize nw ll.flatten = L at *
  go_enter Try.func13, Try.ntmps13
  go_wp2_with fail
  refine HN.out.mono ?_
  rintro e w1 ⟨v, rfl, hr1, hb1⟩
  obtain ⟨ra, rc, rfl, hrc, hrm⟩ := rw_form hr1
  have HD := Lib.hid (pdelete_any hr1 HL.out hb1.size)
  have HB1 := Lib.hid hb1
  unfold goneF at HD
  clear hr1 hb1 HN hrc
  generalize L.length = k at *
  go_wp2_with fail
  refine HD.out.mono ?_
  rintro e w2 ⟨v, rfl, hr2, hb2⟩
  have HR2 := Lib.hid hr2; have HB2 := Lib.hid (HB1.out.trans hb2)
  clear hr2 hb2 HD
  go_wp2_with fail
  go_ret
  exact ⟨v, rfl, by rw [HLV.out]; exact HR2.out, HB2.out⟩
theorem pmerge_any {ll : List (List Rc)} {a : Option Addr} {cap : Nat} {w : World} {elder : Bool} (hl : Lst w a cap ll) (hr : Room ll) (hf : Came2 ll) :
    Calls Try.prog 14 #[.bool elder, .slice a ll.length cap] w (RecsPost w (mrg elder ll.flatten)) := by
  cases elder with
  | true =>
    have HN := Lib.hid (pnewest_any hl hr hf)
    clear hl hr hf
    rw [show mrg true ll.flatten = nw ll.flatten from rfl]
    generalize nw ll.flatten = M at *
    generalize ll.length = n at *
    go_enter Try.func14, Try.ntmps14
    go_wp2_with fail
    refine HN.out.mono ?_
    rintro e w1 ⟨v, rfl, hr1, hb1⟩
    have HR := Lib.hid (And.intro hr1 hb1)
    clear hr1 hb1 HN
    go_wp2_with fail
    go_ret
    exact ⟨v, rfl, HR.out.1, HR.out.2⟩
  | false =>
    have HN := Lib.hid (plive_any hl hr hf)
    clear hl hr hf
    rw [show mrg false ll.flatten = live ll.flatten from rfl]
    generalize live ll.flatten = M at *
    generalize ll.length = n at *
    go_enter Try.func14, Try.ntmps14
    go_wp2_with fail
    refine HN.out.mono ?_
    rintro e w1 ⟨v, rfl, hr1, hb1⟩
    have HR := Lib.hid (And.intro hr1 hb1)
    clear hr1 hb1 HN
    go_wp2_with fail
    go_ret
    exact ⟨v, rfl, HR.out.1, HR.out.2⟩
end Go.Proofs.Ytfcfleeiffmjdaa.G
