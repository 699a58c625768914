/- What the call Bytes of package hint returns, and the document's own Bytes of layer 5. -/
import Derived.Test.YtdifecclldkhpaaHenc
import Derived.Test.YtdifecclldkhpaaCrefs
namespace Go.Proofs.Ytdifecclldkhpaa
open Go.RowKit

/-- A slice of entries in memory. -/
def EntsIn (w : World) (a : Option Addr) (l : List Et) : Prop :=
  0 < l.length → ∃ b off, a = some ⟨b, off, none⟩ ∧ b < w.heap.size ∧ ∀ i (h : i < l.length),
    w.cell? ⟨b, off + i * 5, none⟩ = some (.string (bs l[i].k)) ∧ w.cell? ⟨b, off + i * 5 + 1, none⟩ = some (.int .i64 l[i].o) ∧
    w.cell? ⟨b, off + i * 5 + 2, none⟩ = some (.int .i64 l[i].l) ∧ w.cell? ⟨b, off + i * 5 + 3, none⟩ = some (.int .u64 ((l[i].q : Nat) : Int)) ∧ w.cell? ⟨b, off + i * 5 + 4, none⟩ = some (.bool l[i].g)

theorem EntsIn.nil (w : World) (a : Option Addr) : EntsIn w a [] := fun h => by simp at h

theorem EntsIn.later {w w' : World} {a : Option Addr} {l : List Et} (h : EntsIn w a l) {B : Nat} (hb : Below B w w') (hB : w.heap.size ≤ B) : EntsIn w' a l := by
  intro h0
  obtain ⟨b, off, ha, hlt, hc⟩ := h h0
  have hlt' : b < B := by omega
  refine ⟨b, off, ha, Nat.lt_of_lt_of_le hlt hb.size, fun i hi => ?_⟩
  obtain ⟨c0, c1, c2, c3, c4⟩ := hc i hi
  exact ⟨(hb.cell (p := ⟨b, _, none⟩) hlt').trans c0, (hb.cell (p := ⟨b, _, none⟩) hlt').trans c1, (hb.cell (p := ⟨b, _, none⟩) hlt').trans c2, (hb.cell (p := ⟨b, _, none⟩) hlt').trans c3, (hb.cell (p := ⟨b, _, none⟩) hlt').trans c4⟩

theorem ents_of_mem {w : World} {a : Option Addr} {l : List Et} (h : EntsIn w a l) (k : Nat) (hk : k < l.length) : ∃ b off, a = some ⟨b, off, none⟩ ∧ b < w.heap.size ∧
    w.cell? ⟨b, off + k * 5, none⟩ = some (.string (bs l[k].k)) ∧ w.cell? ⟨b, off + k * 5 + 1, none⟩ = some (.int .i64 l[k].o) ∧
    w.cell? ⟨b, off + k * 5 + 2, none⟩ = some (.int .i64 l[k].l) ∧ w.cell? ⟨b, off + k * 5 + 3, none⟩ = some (.int .u64 ((l[k].q : Nat) : Int)) ∧ w.cell? ⟨b, off + k * 5 + 4, none⟩ = some (.bool l[k].g) := by
  obtain ⟨b, off, ha, hb, hc⟩ := h (by omega)
  obtain ⟨c0, c1, c2, c3, c4⟩ := hc k hk
  exact ⟨b, off, ha, hb, c0, c1, c2, c3, c4⟩

/-- No entry is greater than a machine's. -/
def EFits (l : List Et) : Prop := ∀ e ∈ l, EFit e

/-- What Bytes returns. -/
def hbV (l : List Et) : Value := .tuple #[.string (bs (hbs l).1), .int .i64 (((hbs l).2 : Nat) : Int)]

theorem hbV_many {l : List Et} (h : 2000 < l.length) : hbV l = .tuple #[.string ⟨#[]⟩, .int .i64 1] := by rw [hbV, hbs_many h]; rfl
theorem hbV_no {l : List Et} (h : ¬ erights l = true) : hbV l = .tuple #[.string ⟨#[]⟩, .int .i64 1] := by rw [hbV, hbs_no h]; rfl
theorem hbV_yes {l : List Et} (h : l.length ≤ 2000) (hr : erights l = true) : hbV l = .tuple #[.string (bs (seal4 (put l.length ++ eencs l))), .int .i64 0] := by rw [hbV, hbs_yes h hr]; rfl

theorem etake_next (l : List Et) (k : Nat) (h : k < l.length) : l.take (k + 1) = l.take k ++ [l[k]] := List.take_succ_eq_append_getElem h

theorem seal_of (s : List UInt8) (w : World) (hs : s.length ≤ 281474976710656) :
    Calls Try.prog 26 #[.string (bs s)] w fun e w' => e = .returned (.string (bs (seal4 s))) ∧ Below w.heap.size w w' := by
  have := seal_any (bs s) w (by rw [bs_size]; exact hs)
  rwa [bs_list] at this
theorem refseal_of (s : List UInt8) (w : World) (hs : s.length ≤ 281474976710656) :
    Calls Try.prog 31 #[.string (bs s)] w fun e w' => e = .returned (.string (bs (seal4 s))) ∧ Below w.heap.size w w' := by
  have := refseal_any (bs s) w (by rw [bs_size]; exact hs)
  rwa [bs_list] at this

set_option maxRecDepth 100000 in
set_option maxHeartbeats 800000 in
theorem hbytes_any (l : List Et) (a : Option Addr) (cap : Nat) (w : World) (hl : l.length ≤ 9223372036854775807) (hr : EntsIn w a l) (hf : EFits l) :
    Calls Try.prog 9 #[.slice a l.length cap] w fun e w' => e = .returned (hbV l) ∧ Below w.heap.size w w' := by
  by_cases h2000 : 2000 < l.length
  · have HE := Lib.hid (hbV_many h2000)
    have h0i : (2000 : Int) < (l.length : Int) := by omega
    go_enter Try.func9, Try.ntmps9
    go_wp2_with fail
    go_ret2
    exact ⟨HE.out.symm ▸ rfl, Below.refl _ _⟩
  have h0i : ¬ (2000 : Int) < (l.length : Int) := by omega
  have hln : l.length ≤ 2000 := by omega
  clear h2000
  have HR := Lib.hid hr
  have HF := Lib.hid hf
  clear hr hf
  have hp := put_nat l.length
  have wr0 := IntWalk.u64_in (l.length : Int) ⟨by omega, by omega⟩
  have hpl := put_ten (lt64 (n := l.length) (by omega))
  have HPL := Lib.hid hpl
  have HP := Lib.hid fun W => hp W (by omega)
  have HW0 := Lib.hid fun W (h : Bld w.heap.size w.heap.size [] W) (h2 : w.heap.size ≤ W.heap.size) => write_any w.heap.size w.heap.size [] (put l.length) W h (by simp; omega) h2
  clear hp
  go_enter Try.func9, Try.ntmps9
  go_wp2_with fail
  (with_reducible refine (HP.out _).mono ?_)
  rintro e w1 ⟨rfl, b1⟩
  have B0 : Below w.heap.size w (w.alloc (.cells #[.pointer none, .slice none 0 0] 60)) := (Below.refl _ _).alloc (Nat.le_refl _) _
  have F1 := Lib.hid ((Bld.fresh w).later b1)
  have B1 := Lib.hid (B0.trans (b1.mono B0.size))
  clear b1 B0
  go_wp2_with fail
  (with_reducible refine (HW0.out _ F1.out B1.out.size).mono ?_)
  rintro e w2 ⟨rfl, hB2, b2⟩
  have F2 := Lib.hid hB2
  have B2 := Lib.hid (B1.out.trans b2)
  clear hB2 b2 F1 B1 HW0 HP wr0
  go_wp2_with fail
  go_loopw [17] (fun i wr => ∃ k : Nat, k ≤ l.length ∧ i = .int .i64 k ∧ erights (l.take k) = true ∧ Bld w.heap.size w.heap.size (put l.length ++ eencs (l.take k)) wr ∧ Below w.heap.size w wr) (fun i _ => l.length - (intOf i).toNat)
  case atStart => exact ⟨0, by omega, rfl, rfl, by simpa [eencs] using F2.out, B2.out⟩
  case round =>
    obtain ⟨k, hk, rfl, hg, hB, hb⟩ := hrel
    have hel := eencs_len _ hg
    have htl : (l.take k).length ≤ k := List.length_take_le _ _
    have hacc : (eencs (l.take k)).length ≤ 160000 := by omega
    have hpl := HPL.out
    have hacc2 : (put l.length ++ eencs (l.take k)).length ≤ 170000 := by rw [List.length_append]; omega
    clear hel htl hpl
    by_cases hlt : k < l.length
    · obtain ⟨b, off, rfl, hbl, c0, c1, c2, c3, c4⟩ := ents_of_mem HR.out k hlt
      rw [← hb.cell (p := ⟨b, _, none⟩) hbl] at c0 c1 c2 c3 c4
      have hfe := HF.out l[k] (List.getElem_mem hlt)
      have h1 := fun W => valid_any l[k] W hfe
      have h2 := fun W => eenc_any l[k] W
      simp only [ev] at h1 h2
      have HT := Lib.hid (etake_next l k hlt)
      have HG := Lib.hid (erights_next hlt hg)
      have HN := Lib.hid (erights_not (l := l) hlt)
      clear hg hfe
      have hbz := hb.size
      generalize l[k] = r at *
      have HB := Lib.hid hB
      have hen : eright r = true → (eenc r).length ≤ 80 := fun h => (eenc_len h).2
      cases hg : eright r with
      | false =>
        rw [hg] at h1
        have H1 := Lib.hid h1
        have HE := Lib.hid (hbV_no (HN.out hg))
        clear h1 h2 hen hg hB
        go_wp2_with fail
        (with_reducible refine (H1.out _).mono ?_)
        rintro e w1 ⟨rfl, b1⟩
        go_wp2_with fail
        go_ret2
        exact ⟨HE.out.symm ▸ rfl, (hb.alloc hbz _).trans (b1.mono (by simp; omega))⟩
      | true =>
        rw [hg] at h1
        have h3 := fun W => h2 W hg
        have hen := hen hg
        have HS := Lib.hid (HG.out hg)
        have K0 := Lib.hid (Box.made wr (.cells #[.string (bs r.k), .int .i64 r.o, .int .i64 r.l, .int .u64 ((r.q : Nat) : Int), .bool r.g] 39))
        have H1 := Lib.hid h1
        have H3 := Lib.hid h3
        clear h1 h2 h3 hg hB
        have HW := Lib.hid fun W (h : Bld w.heap.size w.heap.size (put l.length ++ eencs (l.take k)) W) (h2 : w.heap.size ≤ W.heap.size) => write_any w.heap.size w.heap.size (put l.length ++ eencs (l.take k)) (eenc r) W h (by omega) h2
        go_wp2_with fail
        (with_reducible refine (H1.out _).mono ?_)
        rintro e w1 ⟨rfl, b1⟩
        obtain ⟨_, d0, d1, d2, d3, d4⟩ := Box5.cells (K0.out.call b1)
        go_wp2_with fail
        (with_reducible refine (H3.out _).mono ?_)
        rintro e w2 ⟨rfl, b2⟩
        go_wp2_with fail
        have B2 : Below wr.heap.size wr w2 := ((Below.refl _ _).alloc (Nat.le_refl _) _).trans ((b1.mono (by simp)).trans (b2.mono (by have := b1.size; simp at this; omega)))
        (with_reducible refine (HW.out _ (HB.out.later B2) (by have := B2.size; omega)).mono ?_)
        rintro e w3 ⟨rfl, hB3, b3⟩
        go_wp2_with fail
        go_roundw
        case rel => exact ⟨k + 1, by omega, by go_num, HS.out, by rw [HT.out, eencs_snoc, ← List.append_assoc]; exact hB3, (hb.trans (B2.mono hbz)).trans b3⟩
        case measure => simp [intOf]; omega
    · have e : k = l.length := by omega
      subst e
      rw [List.take_length] at hB hg hacc2
      have HE := Lib.hid (hbV_yes hln hg)
      have HS := Lib.hid (bstring_any w.heap.size w.heap.size (put l.length ++ eencs l) wr hB hb.size)
      have HQ := Lib.hid fun W => seal_of (put l.length ++ eencs l) W (by omega)
      clear hg hB
      go_wp2_with fail
      (with_reducible refine HS.out.mono ?_)
      rintro e w1 ⟨rfl, b1⟩
      go_wp2_with fail
      (with_reducible refine (HQ.out _).mono ?_)
      rintro e w2 ⟨rfl, b2⟩
      go_wp2_with fail
      go_ret2
      have z1 := (hb.trans b1).size
      exact ⟨HE.out.symm ▸ rfl, (hb.trans b1).trans (b2.mono z1)⟩

set_option maxRecDepth 100000 in
set_option maxHeartbeats 800000 in
theorem refhbytes_any (l : List Et) (a : Option Addr) (cap : Nat) (w : World) (hl : l.length ≤ 1000000) (hr : EntsIn w a l) (hf : EFits l) :
    Calls Try.prog 10 #[.slice a l.length cap] w fun e w' => e = .returned (hbV l) ∧ Below w.heap.size w w' := by
  have HR := Lib.hid hr
  have HF := Lib.hid hf
  clear hr hf
  have hp := refput_nat l.length
  have wr0 := IntWalk.u64_in (l.length : Int) ⟨by omega, by omega⟩
  have hpl := put_ten (lt64 (n := l.length) (by omega))
  have HPL := Lib.hid hpl
  have HP := Lib.hid fun W => hp W (by omega)
  clear hp
  go_enter Try.func10, Try.ntmps10
  go_wp2_with fail
  (with_reducible refine (HP.out _).mono ?_)
  rintro e w1 ⟨rfl, b1⟩
  have B1 := Lib.hid b1
  clear b1 HP wr0
  go_wp2_with fail
  go_loopw [4, 5] (fun s i wr => ∃ k : Nat, k ≤ l.length ∧ i = .int .i64 k ∧ s = .string (bs (put l.length ++ eencs (l.take k))) ∧ erights (l.take k) = true ∧ Below w.heap.size w wr) (fun _ i _ => l.length - (intOf i).toNat)
  case atStart => exact ⟨0, by omega, rfl, by simp [eencs], rfl, B1.out⟩
  case round =>
    obtain ⟨k, hk, rfl, rfl, hg, hb⟩ := hrel
    have hel := eencs_len _ hg
    have htl : (l.take k).length ≤ k := List.length_take_le _ _
    have hacc : (eencs (l.take k)).length ≤ 80000000 := by omega
    have hpl := HPL.out
    have hacc2 : (put l.length ++ eencs (l.take k)).length ≤ 80000010 := by rw [List.length_append]; omega
    clear hel htl hpl hacc
    by_cases hlt : k < l.length
    · obtain ⟨b, off, rfl, hbl, c0, c1, c2, c3, c4⟩ := ents_of_mem HR.out k hlt
      rw [← hb.cell (p := ⟨b, _, none⟩) hbl] at c0 c1 c2 c3 c4
      have hfe := HF.out l[k] (List.getElem_mem hlt)
      have h1 := fun W => refvalid_any l[k] W hfe
      have h2 := fun W => refeenc_any l[k] W
      simp only [ev] at h1 h2
      have HT := Lib.hid (etake_next l k hlt)
      have HG := Lib.hid (erights_next hlt hg)
      have HN := Lib.hid (erights_not (l := l) hlt)
      clear hg hfe
      have hbz := hb.size
      generalize l[k] = r at *
      have hen : eright r = true → (eenc r).length ≤ 80 := fun h => (eenc_len h).2
      have zz : (bs (put l.length ++ eencs (l.take k))).size ≤ 80000010 := by rw [bs_size]; exact hacc2
      cases hg : eright r with
      | false =>
        rw [hg] at h1
        have H1 := Lib.hid h1
        have HE := Lib.hid (hbV_no (HN.out hg))
        clear h1 h2 hen hg
        generalize bs (put l.length ++ eencs (l.take k)) = X at *
        generalize bs r.k = K at *
        go_wp2_with fail
        (with_reducible refine (H1.out _).mono ?_)
        rintro e w1 ⟨rfl, b1⟩
        go_wp2_with fail
        go_ret2
        exact ⟨HE.out.symm ▸ rfl, hb.trans (b1.mono hbz)⟩
      | true =>
        rw [hg] at h1
        have h3 := fun W => h2 W hg
        have zr : (bs (eenc r)).size ≤ 80 := by rw [bs_size]; exact hen hg
        have HS := Lib.hid (HG.out hg)
        have HA : Hid (bs (put l.length ++ eencs (l.take (k + 1))) = bs (put l.length ++ eencs (l.take k)) ++ bs (eenc r)) := Lib.hid (by rw [HT.out, eencs_snoc, ← List.append_assoc, bs_app])
        have H1 := Lib.hid h1
        have H3 := Lib.hid h3
        clear h1 h2 h3 hg hen
        generalize hX : bs (put l.length ++ eencs (l.take k)) = X at *
        clear hX
        generalize bs (eenc r) = Y at *
        generalize bs r.k = K at *
        have c9 : ¬ 9223372036854775807 < X.size + Y.size := by omega
        go_wp2_with fail
        (with_reducible refine (H1.out _).mono ?_)
        rintro e w1 ⟨rfl, b1⟩
        rw [← b1.cell (p := ⟨b, _, none⟩) (by show b < wr.heap.size; omega)] at c0 c1 c2 c3 c4
        go_wp2_with fail
        (with_reducible refine (H3.out _).mono ?_)
        rintro e w2 ⟨rfl, b2⟩
        go_wp2_with fail
        go_roundw
        case rel => exact ⟨k + 1, by omega, by go_num, by rw [HA.out], HS.out, hb.trans ((b1.mono hbz).trans (b2.mono (by have := b1.size; omega)))⟩
        case measure => simp [intOf]; omega
    · have e : k = l.length := by omega
      subst e
      rw [List.take_length] at hg hacc2 ⊢
      by_cases h2000 : 2000 < l.length
      · have HE := Lib.hid (hbV_many h2000)
        have h0i : (2000 : Int) < (l.length : Int) := by omega
        go_wp2_with fail
        go_ret2
        exact ⟨HE.out.symm ▸ rfl, hb⟩
      · have HE := Lib.hid (hbV_yes (by omega) hg)
        have h0i : ¬ (2000 : Int) < (l.length : Int) := by omega
        have HQ := Lib.hid fun W => refseal_of (put l.length ++ eencs l) W (by omega)
        clear hg h2000
        go_wp2_with fail
        (with_reducible refine (HQ.out _).mono ?_)
        rintro e w2 ⟨rfl, b2⟩
        go_wp2_with fail
        go_ret2
        exact ⟨HE.out.symm ▸ rfl, hb.trans (b2.mono hb.size)⟩

end Go.Proofs.Ytdifecclldkhpaa
