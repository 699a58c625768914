/- What the call Read of package hint returns, and the document's own Read of layer 5. -/
import Derived.Test.YtdifecclldkhpaaHents
import Derived.Test.YtdifecclldkhpaaFrefs
namespace Go.Proofs.Ytdifecclldkhpaa
open Go.RowKit

/-- What Read leaves. -/
def HrPost (w : World) (x : List Et × Nat) (e : Ending) (w' : World) : Prop :=
  ∃ a cap, e = .returned (.tuple #[.slice a x.1.length cap, .int .i64 ((x.2 : Nat) : Int)]) ∧ EntsIn w' a x.1 ∧ Below w.heap.size w w'

theorem HrPost.no {w w' : World} {x : List Et × Nat} {n : Nat} (h : x = ([], n)) (hb : Below w.heap.size w w') : HrPost w x (.returned (.tuple #[.slice none 0 0, .int .i64 (n : Int)])) w' := by
  subst h
  exact ⟨none, 0, rfl, EntsIn.nil _ _, hb⟩
theorem HrPost.yes {w w' : World} {x : List Et × Nat} {l : List Et} (h : x = (l, 0)) (hb : Below w.heap.size w w') {a : Option Addr} {cap : Nat} (hr : EntsIn w' a l) : HrPost w x (.returned (.tuple #[.slice a l.length cap, .int .i64 0])) w' := by
  subst h
  exact ⟨a, cap, rfl, hr, hb⟩

set_option maxRecDepth 100000 in
set_option maxHeartbeats 400000 in
theorem hread_any (b : List UInt8) (w : World) (hb : b.length ≤ 1000000) :
    Calls Try.prog 12 #[.string (bs b)] w (HrPost w (hrd b)) := by
  obtain ⟨c, ok, h⟩ : ∃ c ok, opn b = (c, ok) := ⟨_, _, rfl⟩
  have hc := opn_le h
  have H1 := Lib.hid (opens_of b (by omega) c ok h)
  cases ok with
  | false =>
    have HE := Lib.hid (hrd_sum h)
    clear h
    go_enter Try.func12, Try.ntmps12
    go_wp2_with fail
    (with_reducible refine (H1.out _).mono ?_)
    rintro e w1 ⟨rfl, b1⟩
    go_wp2_with fail
    go_ret2
    exact HrPost.no HE.out b1
  | true =>
    have h2 := fun W => entries_any c W (by omega)
    cases he : ents c with
    | none =>
      have HE := Lib.hid (hrd_form h he)
      rw [he] at h2
      have H2 := Lib.hid h2
      clear h h2 he
      go_enter Try.func12, Try.ntmps12
      go_wp2_with fail
      (with_reducible refine (H1.out _).mono ?_)
      rintro e w1 ⟨rfl, b1⟩
      go_wp2_with fail
      (with_reducible refine (H2.out _).mono ?_)
      rintro e w2 ⟨b2, v, rfl⟩
      go_wp2_with fail
      go_ret2
      exact HrPost.no HE.out (b1.trans (b2.mono b1.size))
    | some l =>
      have HE := Lib.hid (hrd_yes h he)
      rw [he] at h2
      have H2 := Lib.hid h2
      clear h h2 he
      go_enter Try.func12, Try.ntmps12
      go_wp2_with fail
      (with_reducible refine (H1.out _).mono ?_)
      rintro e w1 ⟨rfl, b1⟩
      go_wp2_with fail
      (with_reducible refine (H2.out _).mono ?_)
      rintro e w2 ⟨b2, a, cap, rfl, hr⟩
      have HR := Lib.hid hr
      clear hr
      go_wp2_with fail
      go_ret2
      exact HrPost.yes HE.out (b1.trans (b2.mono b1.size)) HR.out

theorem tk_len {s r : List UInt8} {n e : Nat} (h : tk s = (n, r, e)) : n ≤ 18446744073709551615 ∧ r.length ≤ s.length := by
  rcases tk_cases s with ⟨q, _⟩ | q | ⟨n', r', q, hn, hs⟩
  · rw [h] at q; simp at q; obtain ⟨rfl, rfl, rfl⟩ := q; simp
  · rw [h] at q; simp at q; obtain ⟨rfl, rfl, rfl⟩ := q; simp
  · rw [h] at q; simp at q; obtain ⟨rfl, rfl, rfl⟩ := q
    unfold M64 at hn
    exact ⟨by omega, by rw [hs]; simp⟩

theorem ot_len {s k r : List UInt8} {e : Nat} (h : ot s = (k, r, e)) : k.length ≤ s.length ∧ r.length ≤ s.length := by
  by_cases he : e = 0
  · subst he
    exact ⟨(ot_rest_le h).2, (ot_rest_le h).1⟩
  · rcases tk_cases s with ⟨q, _⟩ | q | ⟨n', r', q, hn, hs⟩
    · rw [ot_err q (by omega)] at h; simp at h; obtain ⟨rfl, rfl, rfl⟩ := h; simp
    · rw [ot_err q (by omega)] at h; simp at h; obtain ⟨rfl, rfl, rfl⟩ := h; simp
    · by_cases hq : r'.length < n'
      · rw [ot_short q hq] at h; simp at h; obtain ⟨rfl, rfl, rfl⟩ := h; simp
      · rw [ot_yes q hq] at h; simp at h; omega

theorem reftakes_of (s : List UInt8) (hs : s.length ≤ 9223372036854775807) (n : Nat) (r : List UInt8) (e : Nat) (h : tk s = (n, r, e)) (w : World) :
    Calls Try.prog 35 #[.string (bs s)] w fun x w' => x = .returned (.tuple #[.int .u64 (n : Nat), .string (bs r), .int .i64 (e : Nat)]) ∧ Below w.heap.size w w' := by
  have := reftake_any (bs s) w (by rw [bs_size]; exact hs)
  rw [bs_list, tkV, h] at this
  exact this

theorem infoRefEnt : (Try.prog.info? 49).map (fun i => (i.zero, i.size, i.bytes)) = some (some (.agg #[.string ⟨#[]⟩, .int .i64 0, .int .i64 0, .int .u64 0, .bool false]), 5, 48) := by kernel_rfl

set_option maxRecDepth 100000 in
set_option maxHeartbeats 2000000 in
theorem refhread_any (b : List UInt8) (w : World) (hb : b.length ≤ 1000000) :
    Calls Try.prog 13 #[.string (bs b)] w (HrPost w (hrd b)) := by
  obtain ⟨i0, hi, hz0, hz1, hz2⟩ := info_parts infoRefEnt
  have HI := Lib.hid (And.intro hi (And.intro hz0 (And.intro hz1 hz2)))
  clear hi hz0 hz1 hz2
  obtain ⟨c, ok, h⟩ : ∃ c ok, opn b = (c, ok) := ⟨_, _, rfl⟩
  have hc := opn_le h
  have H1 := Lib.hid (refopens_of b (by omega) c ok h)
  cases ok with
  | false =>
    have HE := Lib.hid (hrd_sum h)
    clear h
    go_enter Try.func13, Try.ntmps13
    go_wp2_with fail
    (with_reducible refine (H1.out _).mono ?_)
    rintro e w1 ⟨rfl, b1⟩
    go_wp2_with fail
    go_ret2
    exact HrPost.no HE.out b1
  | true =>
    obtain ⟨n, r, e, ht⟩ : ∃ n r e, tk c = (n, r, e) := ⟨_, _, _, rfl⟩
    have H2 := Lib.hid (reftakes_of c (by omega) n r e ht)
    have htl := (tk_len ht).2
    by_cases he : e = 0
    · subst he
      have HH := Lib.hid (And.intro h ht)
      clear h ht
      generalize hB : bs b = B at *
      have HB := Lib.hid hB
      clear hB
      go_enter Try.func13, Try.ntmps13
      go_wp2_with fail
      (with_reducible refine (H1.out _).mono ?_)
      rintro e w1 ⟨rfl, b1⟩
      go_wp2_with fail
      (with_reducible refine (H2.out _).mono ?_)
      rintro e w2 ⟨rfl, b2⟩
      have B2 := Lib.hid (b1.trans (b2.mono b1.size))
      clear b1 b2 H1 H2
      go_wp2_with fail
      go_loopw [4, 8] (fun s v wr => ∃ (x : List UInt8) (acc : List Et) (m : Nat), s = .string (bs x) ∧ x.length < m ∧ acc.length + x.length ≤ b.length ∧ EFits acc ∧ xF m x acc = xF (r.length + 1) r [] ∧ wr.ownsRow w.heap.size 49 5 v acc.length (eflat acc) ∧ Below w.heap.size w wr) (fun s _ _ => strLen s)
      case atStart => exact ⟨r, [], r.length + 1, rfl, by omega, by simp; omega, fun e he => by simp at he, rfl, World.ownsRow_nil _ _ _ _, B2.out⟩
      case round =>
        obtain ⟨x, acc, m, rfl, hm, hl, hfit, hr, hown, hbw⟩ := hrel
        obtain ⟨m, rfl⟩ : ∃ n, m = n + 1 := ⟨m - 1, by omega⟩
        have HR := Lib.hid hr
        have HO := Lib.hid hown
        have HFT := Lib.hid hfit
        clear hr hown hfit B2
        by_cases hx : x = []
        · subst hx
          have hend : xF (r.length + 1) r [] = some acc := by rw [← HR.out, xF_nil]
          have HE := Lib.hid (ref_end HH.out.1 HH.out.2 hend)
          clear hend
          rw [show bs ([] : List UInt8) = ⟨#[]⟩ from rfl]
          obtain ⟨a, cap, rfl, hrec⟩ := owns_ents HO.out
          have hby := refhbytes_any acc a cap wr (by omega) hrec HFT.out
          have HC := Lib.hid hrec
          obtain ⟨y, f, hyf⟩ : ∃ y f, hbs acc = (y, f) := ⟨_, _, rfl⟩
          rw [hbV, hyf] at hby
          have HY := Lib.hid hby
          by_cases hf0 : f = 0
          · subst hf0
            by_cases hyb : y = b
            · subst hyb
              have HE2 : Hid (hrd y = (acc, 0)) := Lib.hid (by rw [HE.out, if_pos hyf])
              have hcmp : ((bs y).toList == B.toList) = true := by rw [HB.out]; simp
              clear hby hrec hyf HE
              generalize bs y = Y at *
              go_wp2_with fail
              (with_reducible refine (HY.out).mono ?_)
              rintro e w3 ⟨rfl, b3⟩
              go_wp2_with fail
              go_ret2
              exact HrPost.yes HE2.out (hbw.trans (b3.mono hbw.size)) (HC.out.later b3 (Nat.le_refl _))
            · have HE2 : Hid (hrd b = ([], 2)) := Lib.hid (by rw [HE.out, if_neg (by rw [hyf]; simpa using hyb)])
              have hcmp : ((bs y).toList == B.toList) = false := by rw [← HB.out, bs_toList, bs_toList, beq_eq_false_iff_ne]; exact hyb
              clear hby hrec hyf HE hyb
              generalize bs y = Y at *
              go_wp2_with fail
              (with_reducible refine (HY.out).mono ?_)
              rintro e w3 ⟨rfl, b3⟩
              go_wp2_with fail
              go_ret2
              exact HrPost.no HE2.out (hbw.trans (b3.mono hbw.size))
          · have HE2 : Hid (hrd b = ([], 2)) := Lib.hid (by rw [HE.out, if_neg (by rw [hyf]; simp; omega)])
            have hb0 : ((f : Int) != 0) = true := by rw [bne_iff_ne]; omega
            clear hby hrec hyf HE
            generalize bs y = Y at *
            go_wp2_with fail
            (with_reducible refine (HY.out).mono ?_)
            rintro e w3 ⟨rfl, b3⟩
            go_wp2_with fail
            go_ret2
            exact HrPost.no HE2.out (hbw.trans (b3.mono hbw.size))
        · have hpos : 0 < (bs x).size := by rw [bs_size]; exact List.length_pos_iff.2 hx
          have hsz : (bs x).size ≤ 9223372036854775807 := by rw [bs_size]; omega
          obtain ⟨k, r1, e1, t1⟩ : ∃ k r e, ot x = (k, r, e) := ⟨_, _, _, rfl⟩
          obtain ⟨o, r2, e2, t2⟩ : ∃ k s e, tk r1 = (k, s, e) := ⟨_, _, _, rfl⟩
          obtain ⟨z, r3, e3, t3⟩ : ∃ k s e, tk r2 = (k, s, e) := ⟨_, _, _, rfl⟩
          obtain ⟨q, r4, e4, t4⟩ : ∃ k s e, tk r3 = (k, s, e) := ⟨_, _, _, rfl⟩
          have l1 := ot_len t1
          have l2 := tk_len t2
          have l3 := tk_len t3
          have l4 := tk_len t4
          have HX1 := Lib.hid (x1_of t1 t2 t3 t4)
          have HT1 := Lib.hid t1
          have C1 := Lib.hid (refoftext_of x (by omega) k r1 e1 t1)
          have C2 := Lib.hid (reftakes_of r1 (by omega) o r2 e2 t2)
          have C3 := Lib.hid (reftakes_of r2 (by omega) z r3 e3 t3)
          have C4 := Lib.hid (reftakes_of r3 (by omega) q r4 e4 t4)
          have HXX := Lib.hid hx
          clear t1 t2 t3 t4 hx
          obtain ⟨l1a, l1b⟩ := l1
          obtain ⟨l2a, l2b⟩ := l2
          obtain ⟨l3a, l3b⟩ := l3
          obtain ⟨l4a, l4b⟩ := l4
          generalize hX : bs x = X at *
          have HXB := Lib.hid hX
          clear hX
          go_wp2_with fail
          (with_reducible refine (C1.out _).mono ?_)
          rintro e w3 ⟨rfl, b3⟩
          go_wp2_with fail
          (with_reducible refine (C2.out _).mono ?_)
          rintro e w4 ⟨rfl, b4⟩
          go_wp2_with fail
          (with_reducible refine (C3.out _).mono ?_)
          rintro e w5 ⟨rfl, b5⟩
          go_wp2_with fail
          (with_reducible refine (C4.out _).mono ?_)
          rintro e w6 ⟨rfl, b6⟩
          have b64 := (b3.trans ((b4.mono b3.size).trans ((b5.mono (by have := b3.size; have := b4.size; omega)).trans (b6.mono (by have := b3.size; have := b4.size; have := b5.size; omega)))))
          have O6 := Lib.hid (owns_later HO.out b64)
          have B6 := Lib.hid (hbw.trans (b64.mono hbw.size))
          clear b3 b4 b5 b6 b64 HO hbw C1 C2 C3 C4
          have hcs : (e1 ≠ 0 ∨ (e1 = 0 ∧ e2 ≠ 0) ∨ (e1 = 0 ∧ e2 = 0 ∧ e3 ≠ 0) ∨ (e1 = 0 ∧ e2 = 0 ∧ e3 = 0 ∧ e4 ≠ 0) ∨ (e1 = 0 ∧ e2 = 0 ∧ e3 = 0 ∧ e4 = 0 ∧ 1048576 < o) ∨ (e1 = 0 ∧ e2 = 0 ∧ e3 = 0 ∧ e4 = 0 ∧ o ≤ 1048576 ∧ 1000 < z)) ∨ (e1 = 0 ∧ e2 = 0 ∧ e3 = 0 ∧ e4 = 0 ∧ o ≤ 1048576 ∧ z ≤ 1000) := by omega
          rcases hcs with hbad | ⟨rfl, rfl, rfl, rfl, ho, hz⟩
          · have HE : Hid (hrd b = ([], 2)) := Lib.hid (ref_bad HH.out.1 HH.out.2 (by rw [← HR.out, xF_none HXX.out (by rw [HX1.out, if_neg (by omega)])]))
            clear HX1 HR HFT HT1
            rcases hbad with h | ⟨rfl, h⟩ | ⟨rfl, rfl, h⟩ | ⟨rfl, rfl, rfl, h⟩ | ⟨rfl, rfl, rfl, rfl, h⟩ | ⟨rfl, rfl, rfl, rfl, ho, h⟩
            · have hb0 : ((e1 : Int) != 0) = true := by rw [bne_iff_ne]; omega
              clear h
              go_wp2_with fail
              go_ret2
              exact HrPost.no HE.out B6.out
            · have hb0 : ((e2 : Int) != 0) = true := by rw [bne_iff_ne]; omega
              clear h
              go_wp2_with fail
              go_ret2
              exact HrPost.no HE.out B6.out
            · have hb0 : ((e3 : Int) != 0) = true := by rw [bne_iff_ne]; omega
              clear h
              go_wp2_with fail
              go_ret2
              exact HrPost.no HE.out B6.out
            · have hb0 : ((e4 : Int) != 0) = true := by rw [bne_iff_ne]; omega
              clear h
              go_wp2_with fail
              go_ret2
              exact HrPost.no HE.out B6.out
            · have hbi : (1048576 : Int) < (o : Int) := by omega
              clear h
              go_wp2_with fail
              go_ret2
              exact HrPost.no HE.out B6.out
            · have hbi : ¬ (1048576 : Int) < (o : Int) := by omega
              have hbj : (1000 : Int) < (z : Int) := by omega
              clear h ho
              go_wp2_with fail
              go_ret2
              exact HrPost.no HE.out B6.out
          · have hbi : ¬ (1048576 : Int) < (o : Int) := by omega
            have hbj : ¬ (1000 : Int) < (z : Int) := by omega
            obtain ⟨hf, g, g1, g2, g3, g4, g5⟩ := half_of z
            have w1' := IntWalk.i64_in (o : Int) ⟨by omega, by omega⟩
            have w2' := IntWalk.i64_in (hf : Int) ⟨by omega, by omega⟩
            have HN6 : Hid (xF m r4 (acc ++ [mk5 k o z q]) = xF (r.length + 1) r []) := Lib.hid (by rw [← HR.out, xF_some HXX.out (by rw [HX1.out, if_pos ⟨rfl, rfl, rfl, rfl, ho, hz⟩])])
            have HF6 : Hid (EFits (acc ++ [mk5 k o z q])) := Lib.hid fun e he => by
              rcases List.mem_append.1 he with he | he
              · exact HFT.out e he
              · rw [List.mem_singleton] at he; subst he; exact mk5_fit (by omega) ho hz l4a
            have hless : r4.length < x.length := by
              have := (ot_ok HT1.out).1
              have h2 := txt_pos k
              have h3 : x.length = (txt k).length + r1.length := by rw [this, List.length_append]
              omega
            have HL : Hid (strLen (.string (bs r4)) < strLen (.string X)) := Lib.hid (by rw [← HXB.out]; show (bs r4).size < (bs x).size; rw [bs_size, bs_size]; exact hless)
            have HSn := Lib.hid (show eflat (acc ++ [mk5 k o z q]) = eflat acc ++ [.string (bs k), .int .i64 (o : Int), .int .i64 (hf : Int), .int .u64 (q : Int), .bool g] from by
              have := ev_mk5 k o z q g3 g4
              simp only [ev, Value.agg.injEq, Array.mk.injEq, List.cons.injEq, and_true] at this
              obtain ⟨t0, t1, t2, t3, t4⟩ := this
              rw [eflat_snoc, t0, t1, t2, t3, t4])
            have hal : acc.length ≤ 1000000 := by omega
            have hb6 := B6.out.size
            clear HX1 HR HFT HT1 g3 g4
            go_wp2_with (at_builtin; refine wpList_append_own _ rfl _ _ 29 rfl w.heap.size 49 i0 (.agg #[.string ⟨#[]⟩, .int .i64 0, .int .i64 0, .int .u64 0, .bool false]) 5 48 Try.underlying29 HI.out.1 HI.out.2.1 HI.out.2.2.1 HI.out.2.2.2 rfl (by decide) _ _ _ rfl (O6.out.alloc _) ⟨w6.heap.size, 0, none⟩ 1 1 [.string (bs k), .int .i64 (o : Int), .int .i64 (hf : Int), .int .u64 (q : Int), .bool g] rfl rfl ?c1 (fun x hx => by simp at hx; rcases hx with rfl | rfl | rfl | rfl | rfl <;> rfl) (by unfold maxLen; omega) (by omega) (by simp; omega) ?_)
            case c1 => exact cell_five_new w6 _ _ _ _ _ _
            intro v' w7 hown' hgrow _
            have B7 : Hid (Below w.heap.size w w7) := Lib.hid (Below.grown (B6.out.alloc hb6 _) hgrow (by simp; omega) (fun j hj => (O6.out.lt _ hj).1))
            have O7 := Lib.hid hown'
            clear hown' hgrow
            go_wp2_with fail
            go_roundw
            case rel => exact ⟨r4, acc ++ [mk5 k o z q], m, rfl, by omega, by simp; omega, HF6.out, HN6.out, by rw [HSn.out, List.length_append]; exact O7.out, B7.out⟩
            case measure => exact HL.out
    · have HE := Lib.hid (ref_first h ht he)
      have hb0 : ((e : Int) != 0) = true := by rw [bne_iff_ne]; omega
      clear h ht
      go_enter Try.func13, Try.ntmps13
      go_wp2_with fail
      (with_reducible refine (H1.out _).mono ?_)
      rintro e w1 ⟨rfl, b1⟩
      go_wp2_with fail
      (with_reducible refine (H2.out _).mono ?_)
      rintro e w2 ⟨rfl, b2⟩
      go_wp2_with fail
      go_ret2
      exact HrPost.no HE.out (b1.trans (b2.mono b1.size))

end Go.Proofs.Ytdifecclldkhpaa
