/- What the call entries of package hint returns. -/
import Derived.Test.YtdifecclldkhpaaHnum
import Derived.Test.YtdifecclldkhpaaFscan
namespace Go.Proofs.Ytdifecclldkhpaa
open Go.RowKit

/-- Entries as cells. -/
def eflat (l : List Et) : List Value := l.flatMap fun e => [.string (bs e.k), .int .i64 e.o, .int .i64 e.l, .int .u64 ((e.q : Nat) : Int), .bool e.g]
theorem eflat_snoc (l : List Et) (e : Et) : eflat (l ++ [e]) = eflat l ++ [.string (bs e.k), .int .i64 e.o, .int .i64 e.l, .int .u64 ((e.q : Nat) : Int), .bool e.g] := by simp [eflat]
theorem eflat_get : ∀ (l : List Et) (i : Nat) (h : i < l.length), (eflat l)[i * 5]? = some (.string (bs l[i].k)) ∧ (eflat l)[i * 5 + 1]? = some (.int .i64 l[i].o) ∧ (eflat l)[i * 5 + 2]? = some (.int .i64 l[i].l) ∧ (eflat l)[i * 5 + 3]? = some (.int .u64 ((l[i].q : Nat) : Int)) ∧ (eflat l)[i * 5 + 4]? = some (.bool l[i].g)
  | r :: l, 0, _ => by simp [eflat]
  | r :: l, i + 1, h => by
    have := eflat_get l i (by simpa using h)
    have e : eflat (r :: l) = [.string (bs r.k), .int .i64 r.o, .int .i64 r.l, .int .u64 ((r.q : Nat) : Int), .bool r.g] ++ eflat l := by simp [eflat]
    have s : ∀ j, (eflat (r :: l))[(i + 1) * 5 + j]? = (eflat l)[i * 5 + j]? := fun j => by
      rw [e, List.getElem?_append_right (by simp; omega)]
      congr 1
      simp
      omega
    exact ⟨(s 0).trans this.1, (s 1).trans this.2.1, (s 2).trans this.2.2.1, (s 3).trans this.2.2.2.1, (s 4).trans this.2.2.2.2⟩

theorem owns_ents {t : TypeId} {w : World} {base : Nat} {v : Value} {l : List Et} (h : w.ownsRow base t 5 v l.length (eflat l)) : ∃ a cap, v = .slice a l.length cap ∧ EntsIn w a l := by
  have hl := h.lt
  have hc := fun g hg => h.cells (g := g) hg
  rcases h.2 with ⟨rfl, h0⟩ | ⟨g, cap, cur, rfl, hbg, hg, rest⟩
  · exact ⟨none, 0, by rw [h0], fun h1 => by omega⟩
  · refine ⟨_, cap, rfl, fun _ => ⟨g, 0, rfl, (hl g rfl).2, fun i hi => ?_⟩⟩
    obtain ⟨f0, f1, f2, f3, f4⟩ := eflat_get l i hi
    have key : ∀ j u, (eflat l)[j]? = some u → w.cell? ⟨g, j, none⟩ = some u := fun j u hu => by
      have := hc g rfl j u hu
      rwa [show (⟨g, 0, none⟩ : Addr).add j = ⟨g, j, none⟩ from by simp [Addr.add]; omega] at this
    have z : ∀ j, 0 + j = j := Nat.zero_add
    simp only [z]
    exact ⟨key _ _ f0, key _ _ f1, key _ _ f2, key _ _ f3, key _ _ f4⟩

theorem cell_five_new (w : World) (c0 c1 c2 c3 c4 : Value) (t : TypeId) : ∀ j u, [c0, c1, c2, c3, c4][j]? = some u → (w.alloc (.cells #[c0, c1, c2, c3, c4] t)).cell? ((⟨w.heap.size, 0, none⟩ : Addr).add j) = some u := by
  intro j u hu
  rw [show (⟨w.heap.size, 0, none⟩ : Addr).add j = ⟨w.heap.size, j, none⟩ from by simp [Addr.add]; omega, World.cell?_alloc_mark]
  simpa using hu

theorem infoEnt : (Try.prog.info? 39).map (fun i => (i.zero, i.size, i.bytes)) = some (some (.agg #[.string ⟨#[]⟩, .int .i64 0, .int .i64 0, .int .u64 0, .bool false]), 5, 48) := by kernel_rfl

/-- A block that is an entry's. -/
def Eb (E : Nat) (c0 c1 c2 c3 c4 : Value) (W : World) : Prop := W.heap[E]? = some (.cells #[c0, c1, c2, c3, c4] 39 (0, 0))

section
variable {E B : Nat} {c0 c1 c2 c3 c4 : Value} {W W' : World}
theorem Eb.past (h : Eb E c0 c1 c2 c3 c4 W) (p : Past B W W') (hB : B ≤ E) : Eb E c0 c1 c2 c3 c4 W' := (p.2 E hB (lt_of_block h)).trans h
theorem Eb.made (W : World) (c0 c1 c2 c3 c4 : Value) : Eb W.heap.size c0 c1 c2 c3 c4 (W.alloc (.cells #[c0, c1, c2, c3, c4] 39)) := heap_alloc_new W _
theorem Eb.cells (h : Eb E c0 c1 c2 c3 c4 W) : (W.cell? ⟨E, 0, none⟩ = some c0 ∧ W.cell? ⟨E, 1, none⟩ = some c1 ∧ W.cell? ⟨E, 2, none⟩ = some c2 ∧ W.cell? ⟨E, 3, none⟩ = some c3 ∧ W.cell? ⟨E, 4, none⟩ = some c4) ∧
    W.frozen? ⟨E, 2, none⟩ = false ∧ W.frozen? ⟨E, 3, none⟩ = false ∧ W.frozen? ⟨E, 4, none⟩ = false :=
  ⟨⟨by rw [Lib.cell_of_heap h]; rfl, by rw [Lib.cell_of_heap h]; rfl, by rw [Lib.cell_of_heap h]; rfl, by rw [Lib.cell_of_heap h]; rfl, by rw [Lib.cell_of_heap h]; rfl⟩, Lib.frozen_of_heap h 2, Lib.frozen_of_heap h 3, Lib.frozen_of_heap h 4⟩
theorem Eb.set2 (h : Eb E c0 c1 c2 c3 c4 W) (v : Value) : Eb E c0 c1 v c3 c4 (W.setCell ⟨E, 2, none⟩ v) := heap_setCell_same W E 2 _ _ v h
theorem Eb.set3 (h : Eb E c0 c1 c2 c3 c4 W) (v : Value) : Eb E c0 c1 c2 v c4 (W.setCell ⟨E, 3, none⟩ v) := heap_setCell_same W E 3 _ _ v h
theorem Eb.set4 (h : Eb E c0 c1 c2 c3 c4 W) (v : Value) : Eb E c0 c1 c2 c3 v (W.setCell ⟨E, 4, none⟩ v) := heap_setCell_same W E 4 _ _ v h
end

theorem Sb.other {w0 W : World} {s : List UInt8} {ok : Bool} (h : Sb w0 s ok W) {E : Nat} (hE : w0.heap.size + 2 ≤ E) (i : Nat) (v : Value) : Sb w0 s ok (W.setCell ⟨E, i, none⟩ v) :=
  ⟨h.1.setCell (p := ⟨E, i, none⟩) (by show w0.heap.size ≤ E; omega) _, by rw [Below.heap_setCell _ _ _ _ (by show w0.heap.size ≠ E; omega)]; exact h.2.1, by rw [Below.heap_setCell _ _ _ _ (by show w0.heap.size + 1 ≠ E; omega)]; exact h.2.2⟩

theorem Sb.made (w : World) (c : List UInt8) : Sb w c true ((w.alloc (.cells #[.string (bs c)] 9)).alloc (.cells #[.bool true] 4)) :=
  ⟨((Below.refl _ _).alloc (Nat.le_refl _) _).alloc (by simp) _, heap_alloc2_old w _ _, heap_alloc2_new w _ _⟩

theorem Sb.grown {w0 W W' : World} {s : List UInt8} {ok : Bool} (h : Sb w0 s ok W) {n : Nat} {e : TypeId} {size : Nat} {v : Value} {xs : List Value} (ho : W.ownsRow (w0.heap.size + 2) e size v n xs) (hg : W.grownBy W' v.ownBlock) : Sb w0 s ok W' := by
  have hl := ho.lt
  have hlt := h.lt
  refine ⟨h.1.grown hg h.1.size (fun j hj => ?_), ?_, ?_⟩
  · have := (hl j hj).1; omega
  · rw [hg.block _ (by omega) (fun q => by have := (hl _ q.symm).1; omega)]; exact h.2.1
  · rw [hg.block _ hlt (fun q => by have := (hl _ q.symm).1; omega)]; exact h.2.2

/-- What entries leaves. -/
def EnPost (w : World) (x : Option (List Et)) (e : Ending) (w' : World) : Prop :=
  Below w.heap.size w w' ∧ match x with
    | some l => ∃ a cap, e = .returned (.tuple #[.slice a l.length cap, .bool true]) ∧ EntsIn w' a l
    | none => ∃ v, e = .returned (.tuple #[v, .bool false])

theorem EnPost.no {w w' : World} {x : Option (List Et)} (h : x = none) (hb : Below w.heap.size w w') (v : Value) : EnPost w x (.returned (.tuple #[v, .bool false])) w' := by
  subst h; exact ⟨hb, v, rfl⟩
theorem EnPost.yes {w w' : World} {x : Option (List Et)} {l : List Et} (h : x = some l) (hb : Below w.heap.size w w') {a : Option Addr} {cap : Nat} (hr : EntsIn w' a l) : EnPost w x (.returned (.tuple #[.slice a l.length cap, .bool true])) w' := by
  subst h; exact ⟨hb, a, cap, rfl, hr⟩

theorem half_of (z : Nat) : ∃ (h : Nat) (b : Bool), (z : Int) / 2 = (h : Int) ∧ ((z : Int) % 2 == 1) = b ∧ ((z / 2 : Nat) : Int) = (h : Int) ∧ decide (z % 2 = 1) = b ∧ h ≤ z := by
  refine ⟨z / 2, decide (z % 2 = 1), by omega, ?_, rfl, rfl, by omega⟩
  by_cases h : z % 2 = 1
  · rw [decide_eq_true h, beq_iff_eq]; omega
  · rw [decide_eq_false h, beq_eq_false_iff_ne]; omega

theorem mk5_fit {k : List UInt8} {o z q : Nat} (hk : k.length ≤ 9223372036854775807) (ho : o ≤ 1048576) (hz : z ≤ 1000) (hq : q ≤ 18446744073709551615) : EFit (mk5 k o z q) := by
  refine ⟨hk, ⟨?_, ?_⟩, ⟨?_, ?_⟩, hq⟩ <;> (simp only [mk5]; omega)

theorem ev_mk5 (k : List UInt8) (o z q : Nat) {h : Nat} {b : Bool} (h1 : ((z / 2 : Nat) : Int) = (h : Int)) (h2 : decide (z % 2 = 1) = b) : ev (mk5 k o z q) = .agg #[.string (bs k), .int .i64 (o : Int), .int .i64 (h : Int), .int .u64 (q : Int), .bool b] := by
  simp only [ev, mk5, h1, h2]

set_option maxRecDepth 100000 in
set_option maxHeartbeats 2000000 in
theorem entries_any (c : List UInt8) (w : World) (hc : c.length ≤ 1000000) :
    Calls Try.prog 33 #[.string (bs c)] w (EnPost w (ents c)) := by
  obtain ⟨i0, hi, hz0, hz1, hz2⟩ := info_parts infoEnt
  have HI := Lib.hid (And.intro hi (And.intro hz0 (And.intro hz1 hz2)))
  clear hi hz0 hz1 hz2
  have hmf : ∀ (fn : Fn) (first cap : Array Value) (w : World), (Instr.makeFunc fn first cap).run Try.prog w = .ok (.func fn first cap) w := fun _ _ _ _ => rfl
  obtain ⟨n, r, ok, hn⟩ : ∃ n r k, nm 2000 c = (n, r, k) := ⟨_, _, _, rfl⟩
  have hle := nm_le 2000 c
  rw [hn] at hle
  obtain ⟨hle1, hle2⟩ : n ≤ 2000 ∧ r.length ≤ c.length := hle
  have S0 := Lib.hid (Sb.made w c)
  have HN := Lib.hid fun W (h : Sb w c true W) => number_of 2000 rfl hn W h (by omega)
  have HNN := Lib.hid hn
  clear hn
  generalize hC : bs c = C at *
  clear hC
  go_enter Try.func33, Try.ntmps33
  go_wp2_with fail
  (with_reducible refine (HN.out _ S0.out).mono ?_)
  rintro e w1 ⟨rfl, s1, p1⟩
  rw [Bool.true_and] at s1
  have S1 := Lib.hid s1
  clear s1 p1 HN S0
  cases ok with
  | false =>
    have hz : n = 0 := by
      have := HNN.out
      obtain ⟨n', r', e, ht⟩ : ∃ n r e, tk c = (n, r, e) := ⟨_, _, _, rfl⟩
      by_cases he : e = 0
      · subst he
        by_cases hb : n' ≤ 2000
        · rw [nm_yes ht hb] at this; simp at this
        · rw [nm_big ht (by omega)] at this; simp at this; exact this.1.symm
      · rw [nm_err ht he] at this; simp at this; exact this.1.symm
    subst hz
    obtain ⟨c0, c1, _, _⟩ := S1.out.cells
    have HE := Lib.hid (ents_no HNN.out)
    generalize bs r = R at *
    go_wp2_with fail
    refine wp_loop_rounds 1 ?_
    rw [rounds_succ]
    go_wp2_with fail
    go_quiet (fail)
    go_wp2_with fail
    go_ret2
    exact EnPost.no HE.out (below_drewN S1.out.1 _) _
  | true =>
    go_wp2_with fail
    go_loopw [6, 15] (fun v i wr => ∃ (u : Value) (s : List UInt8) (acc : List Et) (m j : Nat), u = v ∧ i = .int .u64 j ∧ j + m = n ∧ acc.length = j ∧ s.length ≤ c.length ∧ entsF m s acc = entsF n r [] ∧ wr.ownsRow (w.heap.size + 2) 39 5 v acc.length (eflat acc) ∧ Sb w s true wr) (fun _ i _ => n - (intOf i).toNat)
    case atStart => exact ⟨_, r, [], n, 0, rfl, rfl, by omega, rfl, hle2, rfl, World.ownsRow_nil _ _ _ _, S1.out⟩
    case round =>
      obtain ⟨u, s, acc, m, j, rfl, rfl, hjm, haj, hsl, hr, hown, hs⟩ := hrel
      have HR := Lib.hid hr
      have HO := Lib.hid hown
      have HS := Lib.hid hs
      have HAJ := Lib.hid haj
      obtain ⟨c0, c1, f0, f1⟩ := hs.cells
      clear hr hown hs haj S1
      cases m with
      | zero =>
        have hlti : ¬ (j : Int) < (n : Int) := by omega
        have hend : entsF n r [] = some (acc, s) := by rw [← HR.out]; rfl
        have hen := ents_of HNN.out hend
        obtain ⟨a, cap, rfl, hrec⟩ := owns_ents HO.out
        have HC := Lib.hid hrec
        clear hrec hend
        by_cases hs0 : s = []
        · rw [if_pos hs0] at hen
          have HE := Lib.hid hen
          subst hs0
          clear hen
          rw [show bs ([] : List UInt8) = ⟨#[]⟩ from rfl] at c0
          go_wp2_with fail
          go_quiet (fail)
          go_wp2_with fail
          go_ret2
          exact EnPost.yes HE.out (below_drewN HS.out.1 _) (HC.out.later (below_drewN (Below.refl _ _) _) (Nat.le_refl _))
        · rw [if_neg hs0] at hen
          have HE := Lib.hid hen
          have hne := bs_ne hs0
          have hne2 : (bs s).toList.isEmpty = false := List.isEmpty_eq_false_iff.2 hne
          clear hen
          generalize bs s = S at *
          go_wp2_with fail
          go_quiet (fail)
          go_wp2_with fail
          go_ret2
          exact EnPost.no HE.out (below_drewN HS.out.1 _) _
      | succ m =>
        have hlti : (j : Int) < (n : Int) := by omega
        obtain ⟨k, r1, e, ho⟩ : ∃ k r e, ot s = (k, r, e) := ⟨_, _, _, rfl⟩
        have H1 := Lib.hid (oftext_of s (by omega) k r1 e ho)
        by_cases he : e = 0
        · subst he
          obtain ⟨o, r2, k1, h1⟩ : ∃ o r k, nm 1048576 r1 = (o, r, k) := ⟨_, _, _, rfl⟩
          obtain ⟨z, r3, k2, h2⟩ : ∃ o r k, nm 801 r2 = (o, r, k) := ⟨_, _, _, rfl⟩
          obtain ⟨q, r4, k3, h3⟩ : ∃ o r k, nm 1099511627776 r3 = (o, r, k) := ⟨_, _, _, rfl⟩
          have l0 := (ot_rest_le ho).1
          have l0' := (ot_rest_le ho).2
          have l1 : o ≤ 1048576 ∧ r2.length ≤ r1.length := by have := nm_le 1048576 r1; rwa [h1] at this
          have l2 : z ≤ 801 ∧ r3.length ≤ r2.length := by have := nm_le 801 r2; rwa [h2] at this
          have l3 : q ≤ 1099511627776 ∧ r4.length ≤ r3.length := by have := nm_le 1099511627776 r3; rwa [h3] at this
          have N1 := Lib.hid fun W (h : Sb w r1 true W) => number_of 1048576 rfl h1 W h (by omega)
          have N2 := Lib.hid fun W (h : Sb w r2 k1 W) => number_of 801 rfl h2 W h (by omega)
          have N3 := Lib.hid fun W (h : Sb w r3 (k1 && k2) W) => number_of 1099511627776 rfl h3 W h (by omega)
          obtain ⟨hf, b, g1, g2, g3, g4, g5⟩ := half_of z
          have hv := fun W => valid_any (mk5 k o z q) W (mk5_fit (by omega) l1.1 (by omega) (by omega))
          have he1 := e1_of ho h1 h2 h3
          obtain ⟨bb, hbb⟩ : ∃ bb, eright (mk5 k o z q) = bb := ⟨_, rfl⟩
          obtain ⟨kk, hkk⟩ : ∃ kk, (k1 && k2 && k3) = kk := ⟨_, rfl⟩
          rw [ev_mk5 k o z q g3 g4, hbb] at hv
          rw [hbb, hkk] at he1
          have HKK := Lib.hid hkk
          have HV := Lib.hid hv
          have HE1 := Lib.hid he1
          have HLL := Lib.hid (And.intro l0 (And.intro l1.2 (And.intro l2.2 l3.2)))
          have w1' := IntWalk.i64_in (o : Int) ⟨by omega, by omega⟩
          have w2' := IntWalk.i64_in (hf : Int) ⟨by omega, by omega⟩
          have l1' := l1.1
          have l2' := l2.1
          have l3' := l3.1
          have HEV := Lib.hid (show ev (mk5 k o z q) = _ from ev_mk5 k o z q g3 g4)
          clear ho h1 h2 h3 l0 l0' l1 l2 l3 hv g3 g4 he1 hbb hkk
          go_wp2_with fail
          (with_reducible refine (H1.out _).mono ?_)
          rintro e w2 ⟨rfl, b2⟩
          have S2 := HS.out.call b2
          obtain ⟨d0, d1, e0, e1'⟩ := S2.cells
          have HS2 := Lib.hid (S2.put r1)
          have HO2 := Lib.hid ((Past.below (B := w.heap.size + 2) b2).trans (Past.store (a := ⟨w.heap.size, 0, none⟩) (by show w.heap.size < w.heap.size + 2; omega) (.string (bs r1))))
          clear S2 b2 c0 c1 f0 f1
          go_wp2_with fail
          (with_reducible refine (N1.out _ HS2.out).mono ?_)
          rintro e w3 ⟨rfl, s3, p3⟩
          rw [Bool.true_and] at s3
          have HS3 := Lib.hid s3
          have O3 := Lib.hid ((HO2.out.trans p3).own HO.out)
          have HNE : Hid (u.ownBlock ≠ some w3.heap.size) := Lib.hid fun q => by have := (O3.out.lt _ q).2; omega
          have E3 := Lib.hid (Eb.made w3 (.string (bs k)) (.int .i64 (o : Int)) (.int .i64 0) (.int .u64 0) (.bool false))
          have lt3 : w.heap.size + 2 ≤ w3.heap.size := by have := s3.lt; omega
          clear HS2 HO2 s3 p3 N1 H1 d0 d1 e0 e1'
          go_wp2_with fail
          (with_reducible refine (N2.out _ (HS3.out.alloc _)).mono ?_)
          rintro e w4 ⟨rfl, s4, p4⟩
          have E4 := E3.out.past p4 lt3
          obtain ⟨⟨d0, d1, d2, d3, d4⟩, e2, e3, e4⟩ := E4.cells
          have HS4 := Lib.hid s4
          have O4 := Lib.hid (p4.own (O3.out.alloc (.cells #[.string (bs k), .int .i64 (o : Int), .int .i64 0, .int .u64 0, .bool false] 39)))
          have HE4 := Lib.hid E4
          clear HS3 O3 E3 s4 p4 E4 N2
          generalize w3.heap.size = E at *
          go_wp2_with fail
          (with_reducible refine (N3.out _ ((HS4.out.other lt3 2 _).other lt3 4 _)).mono ?_)
          rintro e w5 ⟨rfl, s5, p5⟩
          rw [HKK.out] at s5
          have E5 := ((HE4.out.set2 (.int .i64 (hf : Int))).set4 (.bool b)).past p5 lt3
          have O5 := Lib.hid (p5.own (ownsRow_setCell_other (ownsRow_setCell_other O4.out (a := ⟨E, 2, none⟩) HNE.out (.int .i64 (hf : Int))) (a := ⟨E, 4, none⟩) HNE.out (.bool b)))
          obtain ⟨⟨d0', d1', d2', d3', d4'⟩, e2', e3', e4'⟩ := E5.cells
          obtain ⟨c0, c1, f0, f1⟩ := s5.cells
          have HS5 := Lib.hid s5
          have HE5 := Lib.hid E5
          clear s5 p5 E5 O4 HE4 HS4 N3 d0 d1 d2 d3 d4 e2 e3 e4 HKK
          cases kk with
          | false =>
            have HE := Lib.hid (ents_bad HNN.out (by rw [← HR.out, entsF_none (by rw [HE1.out]; rfl)]))
            clear HE1
            go_wp2_with fail
            go_ret2
            exact EnPost.no HE.out (HS5.out.other lt3 3 _).1 _
          | true =>
            have HS5' := Lib.hid (HS5.out.other lt3 3 (.int .u64 (q : Int)))
            have HE5' := Lib.hid (HE5.out.set3 (.int .u64 (q : Int)))
            have O5' := Lib.hid (ownsRow_setCell_other O5.out (a := ⟨E, 3, none⟩) HNE.out (.int .u64 (q : Int)))
            cases bb with
            | false =>
              have HE := Lib.hid (ents_bad HNN.out (by rw [← HR.out, entsF_none (by rw [HE1.out]; rfl)]))
              clear HE1 HS5 HE5 O5
              go_wp2_with fail
              (with_reducible refine (HV.out _).mono ?_)
              rintro e w6 ⟨rfl, b6⟩
              go_wp2_with fail
              go_ret2
              exact EnPost.no HE.out (HS5'.out.call b6).1 _
            | true =>
              have HN6 : Hid (entsF m r4 (acc ++ [mk5 k o z q]) = entsF n r []) := Lib.hid (by rw [← HR.out, entsF_some (by rw [HE1.out]; rfl)])
              clear HE1 HS5 HE5 O5
              go_wp2_with fail
              (with_reducible refine (HV.out _).mono ?_)
              rintro e w6 ⟨rfl, b6⟩
              have S6 := Lib.hid (HS5'.out.call b6)
              have E6 : Eb E _ _ _ _ _ w6 := HE5'.out.past (Past.below b6) lt3
              obtain ⟨⟨d0, d1, d2, d3, d4⟩, _, _, _⟩ := E6.cells
              have O6 := Lib.hid (owns_later O5'.out b6)
              have lt6 := S6.out.lt
              have hal : acc.length ≤ 2000 := by have := HAJ.out; omega
              have HSn := Lib.hid (show eflat (acc ++ [mk5 k o z q]) = eflat acc ++ [.string (bs k), .int .i64 (o : Int), .int .i64 (hf : Int), .int .u64 (q : Int), .bool b] from by
                have := HEV.out
                simp only [ev, Value.agg.injEq, Array.mk.injEq, List.cons.injEq, and_true] at this
                obtain ⟨t0, t1, t2, t3, t4⟩ := this
                rw [eflat_snoc, t0, t1, t2, t3, t4])
              clear HS5' HE5' O5' b6 E6 HEV
              go_wp2_with (at_builtin; refine wpList_append_own _ rfl _ _ 22 rfl (w.heap.size + 2) 39 i0 (.agg #[.string ⟨#[]⟩, .int .i64 0, .int .i64 0, .int .u64 0, .bool false]) 5 48 Try.underlying22 HI.out.1 HI.out.2.1 HI.out.2.2.1 HI.out.2.2.2 rfl (by decide) _ _ _ rfl (O6.out.alloc _) ⟨w6.heap.size, 0, none⟩ 1 1 [.string (bs k), .int .i64 (o : Int), .int .i64 (hf : Int), .int .u64 (q : Int), .bool b] rfl rfl ?c1 (fun x hx => by simp at hx; rcases hx with rfl | rfl | rfl | rfl | rfl <;> rfl) (by unfold maxLen; omega) (by omega) (by simp; omega) ?_)
              case c1 => exact cell_five_new w6 _ _ _ _ _ _
              intro v' w7 hown' hgrow _
              have S7 := Lib.hid ((S6.out.alloc _).grown (O6.out.alloc _) hgrow)
              have O7 := Lib.hid hown'
              clear hown' hgrow
              go_wp2_with fail
              go_roundw
              case rel => exact ⟨_, r4, acc ++ [mk5 k o z q], m, j + 1, rfl, by go_num, by omega, by simp [HAJ.out], by have := HLL.out; omega, HN6.out, by rw [HSn.out, List.length_append]; exact O7.out, S7.out⟩
              case measure => simp [intOf]; omega
        · have HE := Lib.hid (ents_bad HNN.out (by rw [← HR.out, entsF_none (e1_err ho he)]))
          have hb0 : ((e : Int) != 0) = true := by rw [bne_iff_ne]; omega
          clear ho
          generalize bs s = S1 at *
          generalize bs k = K1 at *
          generalize bs r1 = R1 at *
          go_wp2_with fail
          (with_reducible refine (H1.out _).mono ?_)
          rintro e w2 ⟨rfl, b2⟩
          go_wp2_with fail
          go_ret2
          exact EnPost.no HE.out (HS.out.call b2).1 _

end Go.Proofs.Ytdifecclldkhpaa
