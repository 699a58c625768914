/- What the calls All and Bytes of package record return. -/
import Derived.Test.YtdifecclldkhpaaRenc
namespace Go.Proofs.Ytdifecclldkhpaa
open Go.RowKit

/-- All records' bytes, one behind the other. -/
def encs (l : List Rc) : List UInt8 := l.flatMap enc
theorem encs_nil : encs [] = [] := rfl
theorem encs_snoc (l : List Rc) (r : Rc) : encs (l ++ [r]) = encs l ++ enc r := by simp [encs]
theorem encs_cons (r : Rc) (l : List Rc) : encs (r :: l) = enc r ++ encs l := by simp [encs]

/-- May all be? -/
def rights (l : List Rc) : Bool := l.all right

theorem encs_len : ∀ (l : List Rc), rights l = true → (encs l).length ≤ 370 * l.length
  | [], _ => by simp [encs]
  | r :: l, h => by
    simp only [rights, List.all_cons, Bool.and_eq_true] at h
    have h1 := enc_len h.1
    have h2 := encs_len l h.2
    rw [encs_cons, List.length_append, List.length_cons]
    omega

/-- What All returns. -/
def allV (l : List Rc) : Value := if rights l = true then .tuple #[.string (bs (encs l)), .int .i64 0] else .tuple #[.string (bs []), .int .i64 1]

/-- A slice of records in memory. -/
def Recs (w : World) (a : Option Addr) (l : List Rc) : Prop :=
  0 < l.length → ∃ b off, a = some ⟨b, off, none⟩ ∧ b < w.heap.size ∧ ∀ i (h : i < l.length),
    w.cell? ⟨b, off + i * 4, none⟩ = some (.int .u64 (l[i].q : Nat)) ∧ w.cell? ⟨b, off + i * 4 + 1, none⟩ = some (.string (bs l[i].k)) ∧
    w.cell? ⟨b, off + i * 4 + 2, none⟩ = some (.string (bs l[i].v)) ∧ w.cell? ⟨b, off + i * 4 + 3, none⟩ = some (.bool l[i].g)

theorem Recs.later {w w' : World} {a : Option Addr} {l : List Rc} (h : Recs w a l) {B : Nat} (hb : Below B w w') (hB : w.heap.size ≤ B) : Recs w' a l := by
  intro h0
  obtain ⟨b, off, ha, hlt, hc⟩ := h h0
  have hlt' : b < B := by omega
  refine ⟨b, off, ha, Nat.lt_of_lt_of_le hlt hb.size, fun i hi => ?_⟩
  obtain ⟨c0, c1, c2, c3⟩ := hc i hi
  exact ⟨(hb.cell (p := ⟨b, _, none⟩) hlt').trans c0, (hb.cell (p := ⟨b, _, none⟩) hlt').trans c1, (hb.cell (p := ⟨b, _, none⟩) hlt').trans c2, (hb.cell (p := ⟨b, _, none⟩) hlt').trans c3⟩

/-- No record is greater than a machine's. -/
def Fits (l : List Rc) : Prop := ∀ r ∈ l, r.q ≤ 18446744073709551615 ∧ r.k.length ≤ 9223372036854775807 ∧ r.v.length ≤ 9223372036854775807

theorem Bld.later {B b : Nat} {l : List UInt8} {w w' : World} (h : Bld B b l w) (hb : Below w.heap.size w w') : Bld B b l w' := by
  have key : ∀ p, Lib.BuilderAt 60 5 B b p (Lib.byteCells l) w → Lib.BuilderAt 60 5 B b p (Lib.byteCells l) w' := by
    intro p hp
    have hlt := hp.lt
    obtain ⟨h1, v, h2, h3, h4⟩ := hp
    refine ⟨h1, v, by rw [hb.block b hlt]; exact h2, ⟨h3.1, ?_⟩, h4⟩
    have hl := h3.lt
    rcases h3.2 with hn | ⟨g, cap, cur, rfl, hbg, hg, rest⟩
    · exact .inl hn
    · exact .inr ⟨g, cap, cur, rfl, hbg, by rw [hb.block g (hl g rfl).2]; exact hg, rest⟩
  rcases h with h | h
  · exact .inl (key _ h)
  · exact .inr (key _ h)

theorem allV_no {l : List Rc} (h : ¬ rights l = true) : allV l = .tuple #[.string ⟨#[]⟩, .int .i64 1] := by rw [allV, if_neg h]; rfl
theorem allV_yes {l : List Rc} (h : rights l = true) : allV l = .tuple #[.string (bs (encs l)), .int .i64 0] := by rw [allV, if_pos h]

theorem take_next (l : List Rc) (k : Nat) (h : k < l.length) : l.take (k + 1) = l.take k ++ [l[k]] := List.take_succ_eq_append_getElem h
theorem rights_next {l : List Rc} {k : Nat} (h : k < l.length) (hg : rights (l.take k) = true) (hr : right l[k] = true) : rights (l.take (k + 1)) = true := by
  rw [take_next l k h, rights, List.all_append]
  rw [rights] at hg
  simp [hg, hr]
theorem rights_not {l : List Rc} {k : Nat} (h : k < l.length) (hr : right l[k] = false) : ¬ rights l = true := by
  intro hg
  rw [rights, List.all_eq_true] at hg
  have := hg l[k] (List.getElem_mem h)
  rw [hr] at this
  cases this

set_option maxRecDepth 100000 in
set_option maxHeartbeats 400000 in
theorem all_any (l : List Rc) (a : Option Addr) (cap : Nat) (w : World) (hl : l.length ≤ 1000) (hr : Recs w a l) (hf : Fits l) :
    Calls Try.prog 39 #[.slice a l.length cap] w fun e w' => e = .returned (allV l) ∧ Below w.heap.size w w' := by
  have HR := Lib.hid hr
  have HF := Lib.hid hf
  clear hr hf
  go_enter Try.func39, Try.ntmps39
  go_wp2_with fail
  go_loopw [9] (fun i wr => ∃ k : Nat, k ≤ l.length ∧ i = .int .i64 k ∧ rights (l.take k) = true ∧ Bld w.heap.size w.heap.size (encs (l.take k)) wr ∧ Below w.heap.size w wr) (fun i _ => l.length - (intOf i).toNat)
  case atStart => exact ⟨0, by omega, rfl, rfl, Bld.fresh w, (Below.refl _ _).alloc (Nat.le_refl _) _⟩
  case round =>
    obtain ⟨k, hk, rfl, hg, hB, hb⟩ := hrel
    have hel := encs_len _ hg
    have htl : (l.take k).length ≤ k := List.length_take_le _ _
    have hacc : (encs (l.take k)).length ≤ 370000 := by omega
    clear hel htl
    by_cases hlt : k < l.length
    · obtain ⟨b, off, rfl, hbl, hc⟩ := HR.out (by omega)
      obtain ⟨c0, c1, c2, c3⟩ := hc k hlt
      obtain ⟨f0, f1, f2⟩ := HF.out l[k] (List.getElem_mem hlt)
      clear hc
      rw [← hb.cell (p := ⟨b, _, none⟩) hbl] at c0 c1 c2 c3
      have h1 := fun W => right_any l[k] W f0 f1 f2
      have h2 := fun W => enc_any l[k] W
      simp only [rv] at h1 h2
      have HT := Lib.hid (take_next l k hlt)
      have HG := Lib.hid (rights_next hlt hg)
      have HN := Lib.hid (rights_not (l := l) hlt)
      clear f0 f1 f2 hg
      have hbz := hb.size
      generalize l[k] = r at *
      have HB := Lib.hid hB
      have hen : right r = true → (enc r).length ≤ 370 := fun h => (enc_len h).2
      cases hg : right r with
      | false =>
        rw [hg] at h1
        have H1 := Lib.hid h1
        have HE := Lib.hid (allV_no (HN.out hg))
        clear h1 h2 hen hg hB
        go_wp2_with fail
        (with_reducible refine (H1.out _).mono ?_)
        rintro e w1 ⟨rfl, b1⟩
        go_wp2_with fail
        go_ret2
        exact ⟨HE.out.symm ▸ rfl, (hb.alloc hbz _).trans (b1.mono (by simp; omega))⟩
      | true =>
        rw [hg] at h1
        have h3 := fun W => h2 W hg
        have hen := hen hg
        have HS := Lib.hid (HG.out hg)
        have K0 := Box.made wr (.cells #[.int .u64 (r.q : Nat), .string (bs r.k), .string (bs r.v), .bool r.g] 45)
        have K0 := Lib.hid K0
        have H1 := Lib.hid h1
        have H3 := Lib.hid h3
        clear h1 h2 h3 hg hB
        have hw := fun W (h : Bld w.heap.size w.heap.size (encs (l.take k)) W) (h2 : w.heap.size ≤ W.heap.size) => write_any w.heap.size w.heap.size (encs (l.take k)) (enc r) W h (by omega) h2
        have HW := Lib.hid hw
        clear hw
        go_wp2_with fail
        (with_reducible refine (H1.out _).mono ?_)
        rintro e w1 ⟨rfl, b1⟩
        obtain ⟨_, d0, d1, d2, d3⟩ := Box4.cells (K0.out.call b1)
        go_wp2_with fail
        (with_reducible refine (H3.out _).mono ?_)
        rintro e w2 ⟨rfl, b2⟩
        go_wp2_with fail
        have B2 : Below wr.heap.size wr w2 := ((Below.refl _ _).alloc (Nat.le_refl _) _).trans ((b1.mono (by simp)).trans (b2.mono (by have := b1.size; simp at this; omega)))
        (with_reducible refine (HW.out _ (HB.out.later B2) (by have := B2.size; omega)).mono ?_)
        rintro e w3 ⟨rfl, hB3, b3⟩
        go_wp2_with fail
        go_roundw
        case rel => exact ⟨k + 1, by omega, by go_num, HS.out, by rw [HT.out, encs_snoc]; exact hB3, (hb.trans (B2.mono hbz)).trans b3⟩
        case measure => simp [intOf]; omega
    · have e : k = l.length := by omega
      subst e
      rw [List.take_length] at hB hg
      have HE := Lib.hid (allV_yes hg)
      have hs := bstring_any w.heap.size w.heap.size (encs l) wr hB hb.size
      have HS := Lib.hid hs
      clear hg hB hs
      go_wp2_with fail
      (with_reducible refine HS.out.mono ?_)
      rintro e w1 ⟨rfl, b1⟩
      go_wp2_with fail
      go_ret2
      exact ⟨HE.out.symm ▸ rfl, hb.trans b1⟩

end Go.Proofs.Ytdifecclldkhpaa
