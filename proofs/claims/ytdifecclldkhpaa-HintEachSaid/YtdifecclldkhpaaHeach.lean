/- The walk of the law HintEach. -/
import Derived.Test.YtdifecclldkhpaaHawake
import Derived.Test.YtdifecclldkhpaaFopens
namespace Go.Proofs.Ytdifecclldkhpaa
open Go.RowKit

theorem cat_le : ∀ (ll : List (List Rc)), (∀ l ∈ ll, good l = true) → (cat ll).length ≤ 6000 * ll.length
  | [], _ => by simp [cat]
  | l :: ll, h => by
    have h1 := fbs_len (h l (by simp))
    have h2 := cat_le ll (fun x hx => h x (by simp [hx]))
    rw [cat_cons, List.length_append, List.length_cons]
    omega

theorem flat_append (l m : List Rc) : flat (l ++ m) = flat l ++ flat m := by simp [flat]
theorem flat_len : ∀ (l : List Rc), (flat l).length = 4 * l.length
  | [] => rfl
  | r :: l => by
    have := flat_len l
    have e : flat (r :: l) = [.int .u64 ((r.q : Nat) : Int), .string (bs r.k), .string (bs r.v), .bool r.g] ++ flat l := by simp [flat]
    rw [e, List.length_append, this, List.length_cons]
    simp; omega
theorem flat_one (l : List Rc) : ∀ u ∈ flat l, u.oneCell' = true := by
  intro u hu
  unfold flat at hu
  rw [List.mem_flatMap] at hu
  obtain ⟨r, _, hu⟩ := hu
  simp at hu
  rcases hu with rfl | rfl | rfl | rfl <;> rfl
theorem recs_news {w : World} {b off : Nat} {l : List Rc} (h : ∀ i (h : i < l.length),
    w.cell? ⟨b, off + i * 4, none⟩ = some (.int .u64 (l[i].q : Nat)) ∧ w.cell? ⟨b, off + i * 4 + 1, none⟩ = some (.string (bs l[i].k)) ∧
    w.cell? ⟨b, off + i * 4 + 2, none⟩ = some (.string (bs l[i].v)) ∧ w.cell? ⟨b, off + i * 4 + 3, none⟩ = some (.bool l[i].g)) :
    ∀ j u, (flat l)[j]? = some u → w.cell? ((⟨b, off, none⟩ : Addr).add j) = some u := by
  intro j u hu
  have hj : j < 4 * l.length := by rw [← flat_len]; exact (List.getElem?_eq_some_iff.1 hu).1
  have hi : j / 4 < l.length := by omega
  obtain ⟨c0, c1, c2, c3⟩ := h (j / 4) hi
  obtain ⟨f0, f1, f2, f3⟩ := flat_get l (j / 4) hi
  rw [Addr.add_lit]
  rcases (by omega : j % 4 = 0 ∨ j % 4 = 1 ∨ j % 4 = 2 ∨ j % 4 = 3) with q | q | q | q
  · have e : j = j / 4 * 4 := by omega
    rw [e, f0] at hu; cases hu
    rw [show off + j = off + j / 4 * 4 from by omega]; exact c0
  · have e : j = j / 4 * 4 + 1 := by omega
    rw [e, f1] at hu; cases hu
    rw [show off + j = off + j / 4 * 4 + 1 from by omega]; exact c1
  · have e : j = j / 4 * 4 + 2 := by omega
    rw [e, f2] at hu; cases hu
    rw [show off + j = off + j / 4 * 4 + 2 from by omega]; exact c2
  · have e : j = j / 4 * 4 + 3 := by omega
    rw [e, f3] at hu; cases hu
    rw [show off + j = off + j / 4 * 4 + 3 from by omega]; exact c3

def tT : Rc := ⟨9, [116, 97, 105, 108], [], false⟩
theorem good_tT : good [tT] = true := rfl
theorem fits_tT : Fits [tT] := fun r hr => by
  simp at hr
  subst hr
  decide
theorem recs_tT (W : World) : Recs (W.alloc (.cells #[.int .u64 9, .string ⟨#[116, 97, 105, 108]⟩, .string ⟨#[]⟩, .bool false] 45)) (some ⟨W.heap.size, 0, none⟩) [tT] := by
  intro _
  refine ⟨W.heap.size, 0, rfl, by simp, fun i hi => ?_⟩
  obtain rfl : i = 0 := by simp at hi; omega
  simp only [World.cell?_alloc_mark]
  exact ⟨rfl, rfl, rfl, rfl⟩

/-- What is known of the entries of batches. -/
theorem each_at {ll : List (List Rc)} (hg : ∀ l ∈ ll, good l = true) (hl : ll.length ≤ 20) (i : Nat) (hi : i < (hof 0 ll).length) :
    EFit (hof 0 ll)[i] ∧ (0 ≤ (hof 0 ll)[i].o ∧ (hof 0 ll)[i].o ≤ 120000 ∧ 0 ≤ (hof 0 ll)[i].l ∧ (hof 0 ll)[i].l ≤ 400) ∧ hat (cat ll) (hof 0 ll)[i] = (ll.flatten[i]'(by rw [← hof_len 0]; exact hi), 0) := by
  have hc := cat_le ll hg
  obtain ⟨off, r, he, hr, ho⟩ := hof_le ll 0 hg _ (List.getElem_mem hi)
  obtain ⟨q1, q2, q3, q4, q5, q6⟩ := (right_iff r).1 hr
  have h7 := enc_len hr
  refine ⟨?_, ?_, hat_at hg (by omega) hi⟩
  · rw [he]
    refine ⟨?_, ⟨?_, ?_⟩, ⟨?_, ?_⟩, ?_⟩ <;> (simp only [ent]; omega)
  · rw [he]
    refine ⟨?_, ?_, ?_, ?_⟩ <;> (simp only [ent]; omega)

theorem flat_next (l : List Rc) (i : Nat) (h : i < l.length) : flat (l.take (i + 1)) = flat (l.take i) ++ [.int .u64 ((l[i].q : Nat) : Int), .string (bs l[i].k), .string (bs l[i].v), .bool l[i].g] := by
  rw [take_next l i h, flat_snoc]

set_option maxRecDepth 100000 in
set_option maxHeartbeats 4000000 in
theorem each_of (ll : List (List Rc)) (a : Option Addr) (cap : Nat) (c : Int) (w : World) (hl : ll.length ≤ 9223372036854775807) (hr : BatsIn w a cap ll) (hf : Fits2 ll) (hc : c ≤ 9223372036854775807) :
    Calls Try.prog 6 #[.slice a ll.length cap, .int .i64 c] w fun e w' => e = .returned (.bool true) ∧ Below w.heap.size w w' := by
  obtain ⟨hr, -, -, -⟩ := hr
  obtain ⟨i0, hi, hz0, hz1, hz2⟩ := info_parts infoRec
  have HI := Lib.hid (And.intro hi (And.intro hz0 (And.intro hz1 hz2)))
  clear hi hz0 hz1 hz2
  have HR := Lib.hid hr
  have HF := Lib.hid hf
  clear hr hf
  obtain ⟨n, hn⟩ : ∃ n, n = ll.length := ⟨_, rfl⟩
  have HN := Lib.hid hn
  have h2 := fun W (hW : Below w.heap.size w W) => light2_any ll a cap W (by omega) (HR.out.later hW (Nat.le_refl _)) HF.out
  rw [← hn] at hl h2 ⊢
  have H2 := Lib.hid h2
  clear hn h2
  go_enter Try.func6, Try.ntmps6
  go_wp2_with fail
  refine (awake_any _).mono ?_
  rintro e w1 ⟨rfl, b1⟩
  go_wp2_with fail
  (with_reducible refine (H2.out _ b1).mono ?_)
  rintro e w2 ⟨ok, rfl, h40, b2⟩
  have B2 := Lib.hid (b1.trans (b2.mono b1.size))
  clear b1 b2
  cases ok with
  | false =>
    go_wp2_with fail
    go_ret
    exact ⟨rfl, B2.out⟩
  | true =>
    by_cases hc0 : c < 0
    · clear h40
      go_wp2_with fail
      go_ret
      exact ⟨rfl, B2.out⟩
    obtain ⟨h20, h40⟩ := h40 rfl
    have hn20 : n ≤ 20 := by rw [HN.out]; exact h20
    clear h40 h20
    go_wp2_with fail
    go_loopw [7, 8, 9] (fun s v i wr => ∃ (u : Value) (k m : Nat), u = v ∧ k ≤ n ∧ i = .int .i64 k ∧ s = .string (bs (cat (ll.take k))) ∧ (∀ l ∈ ll.take k, good l = true) ∧ m = (ll.take k).flatten.length ∧ m ≤ 16 * k ∧ wr.ownsRow w.heap.size 45 4 u m (flat (ll.take k).flatten) ∧ Below w.heap.size w wr) (fun _ _ i _ => n - (intOf i).toNat)
    case atStart => exact ⟨_, 0, 0, rfl, by omega, rfl, by simp [cat]; rfl, by simp, rfl, by omega, World.ownsRow_nil _ _ _ _, B2.out⟩
    case round =>
      obtain ⟨u, k, m, rfl, hk, rfl, rfl, hg, hm, hm16, hown, hbw⟩ := hrel
      have HG := Lib.hid hg
      have HM := Lib.hid hm
      have HO := Lib.hid hown
      clear hg hm hown B2
      by_cases hlt : k < n
      · have hlt' : k < ll.length := by rw [← HN.out]; exact hlt
        obtain ⟨g1, off1, a1, cap1, rfl, hbl1, c1, r1⟩ := bat_of HR.out k hlt'
        obtain ⟨hf1, hll⟩ := HF.out _ (List.getElem_mem hlt')
        have HC1 := Lib.hid c1
        rw [← hbw.cell (p := ⟨g1, _, none⟩) hbl1] at c1
        have h3 := fun W (hW : Below w.heap.size w W) => fbytes_any _ a1 cap1 W hll (r1.later hW (Nat.le_refl _)) hf1
        have hlti : (k : Int) < (n : Int) := by omega
        by_cases hgk : good (ll[k]'hlt') = true
        · have hcl := cat_le _ HG.out
          have htl : (ll.take k).length ≤ k := List.length_take_le _ _
          have hfl := fbs_len hgk
          have hsz := ((good_iff _).1 hgk).1
          have HT := Lib.hid (List.take_succ_eq_append_getElem hlt')
          have HRR := Lib.hid r1
          rw [fbV_yes hgk] at h3
          have H3 := Lib.hid h3
          have HGK := Lib.hid hgk
          clear h3 hgk r1 hf1
          generalize ll[k]'hlt' = l at *
          obtain ⟨g2, off2, rfl, hbl2, hcells⟩ := HRR.out (by omega)
          have HNW := Lib.hid (fun W (hW : Below w.heap.size w W) => recs_news fun i (hi : i < l.length) => by
            obtain ⟨x0, x1, x2, x3⟩ := hcells i hi
            exact ⟨(hW.cell (p := ⟨g2, _, none⟩) hbl2).trans x0, (hW.cell (p := ⟨g2, _, none⟩) hbl2).trans x1, (hW.cell (p := ⟨g2, _, none⟩) hbl2).trans x2, (hW.cell (p := ⟨g2, _, none⟩) hbl2).trans x3⟩)
          have HF4 := Lib.hid (flat_len l)
          have HF1 := Lib.hid (flat_one l)
          have HFT : Hid ((ll.take (k + 1)).flatten = (ll.take k).flatten ++ l) := Lib.hid (by rw [HT.out]; simp)
          clear hcells
          have z1 := bs_size (cat (ll.take k))
          have z2 := bs_size (fbs l)
          rw [← z1] at hcl
          rw [← z2] at hfl
          obtain ⟨hfl1, hfl2⟩ := hfl
          have hcl' : (bs (cat (ll.take k))).size ≤ 120000 := by omega
          have HZ : Hid (bs (cat (ll.take (k + 1))) = bs (cat (ll.take k)) ++ bs (fbs l)) := Lib.hid (by rw [HT.out, cat_snoc, bs_app])
          obtain ⟨nl, hnl⟩ : ∃ nl, nl = l.length := ⟨_, rfl⟩
          have HNL := Lib.hid hnl
          rw [← hnl] at c1 hsz hll H3 HF4
          obtain ⟨hsz1, hsz2⟩ := hsz
          have HC1 : Hid (w.cell? ⟨g1, off1 + k, none⟩ = some (.slice (some ⟨g2, off2, none⟩) nl cap1)) := Lib.hid (by rw [hnl]; exact HC1.out)
          clear z1 z2 hcl hnl
          generalize bs (cat (ll.take k)) = X at *
          generalize bs (fbs l) = Y at *
          go_wp2_with fail
          (with_reducible refine (H3.out _ hbw).mono ?_)
          rintro e w3 ⟨rfl, b3⟩
          have B3 := Lib.hid (hbw.trans (b3.mono hbw.size))
          have O3 := Lib.hid (owns_later HO.out b3)
          have c3 := HC1.out
          rw [← B3.out.cell (p := ⟨g1, _, none⟩) hbl1] at c3
          have hz3 := B3.out.size
          clear b3 c1 hbw HO
          go_wp2_with (at_builtin; refine wpList_append_own _ rfl _ _ 53 rfl w.heap.size 45 i0 (.agg #[.int .u64 0, .string ⟨#[]⟩, .string ⟨#[]⟩, .bool false]) 4 48 Try.underlying53 HI.out.1 HI.out.2.1 HI.out.2.2.1 HI.out.2.2.2 rfl (by decide) _ _ _ rfl O3.out ⟨g2, off2, none⟩ nl cap1 (flat l) rfl (by rw [HF4.out, Nat.mul_comm]) (HNW.out _ B3.out) HF1.out (by unfold maxLen; omega) (by omega) hz3 ?_)
          intro v' w4 hown' hgrow _
          have B4 : Hid (Below w.heap.size w w4) := Lib.hid (Below.grown B3.out hgrow hz3 (fun j hj => (O3.out.lt _ hj).1))
          have O4 := Lib.hid hown'
          clear hown' hgrow
          go_wp2_with fail
          exact ⟨⟨_, k + 1, m + nl, rfl, by omega, by go_num, by rw [HZ.out], fun x hx => by
            rw [HT.out] at hx
            rcases List.mem_append.1 hx with hx | hx
            · exact HG.out x hx
            · rw [List.mem_singleton] at hx; subst hx; exact HGK.out, by rw [HFT.out, List.length_append, HM.out, HNL.out], by omega, by rw [HFT.out, flat_append]; exact O4.out, B4.out⟩, by simp [intOf]; omega⟩
        · rw [fbV_no hgk] at h3
          have H3 := Lib.hid h3
          clear h3 hgk r1 hf1
          generalize ll[k]'hlt' = r at *
          generalize bs (cat (ll.take k)) = X at *
          go_wp2_with fail
          (with_reducible refine (H3.out _ hbw).mono ?_)
          rintro e w3 ⟨rfl, b3⟩
          have B3 := Lib.hid (hbw.trans (b3.mono hbw.size))
          clear b3 c1 hbw
          go_wp2_with fail
          go_ret
          exact ⟨rfl, B3.out⟩
      · obtain rfl : k = n := by omega
        have htk : ll.take k = ll := by rw [HN.out, List.take_length]
        rw [htk] at HG HM HO ⊢
        have ho := HO.out
        rw [HM.out] at ho
        obtain ⟨aw, capw, rfl, hrw⟩ := owns_recs ho
        have RW := Lib.hid hrw.1
        have hcl := cat_le ll HG.out
        have hlen := hof_len 0 ll
        obtain ⟨zt1, zt2⟩ := fbs_len good_tT
        have h3 := fun (W : World) (a : Option Addr) cap (hr : Recs W a [tT]) => fbytes_any [tT] a cap W (by decide) hr fits_tT
        rw [fbV_yes good_tT, show ([tT] : List Rc).length = 1 from rfl] at h3
        have zT := bs_size (fbs [tT])
        have zX := bs_size (cat ll)
        have hqe : ∃ q : Nat, c % ((bs (fbs [tT])).size : Int) = (q : Int) ∧ q < (fbs [tT]).length := by
          have m1 := Int.emod_nonneg c (b := ((bs (fbs [tT])).size : Int)) (by omega)
          have m2 := Int.emod_lt_of_pos c (b := ((bs (fbs [tT])).size : Int)) (by omega)
          exact ⟨(c % ((bs (fbs [tT])).size : Int)).toNat, by omega, by omega⟩
        obtain ⟨q, hq, hqlt⟩ := hqe
        have h4 := fun W => hof_any (cat ll ++ (fbs [tT]).take q) W (by rw [List.length_append, List.length_take]; have := HN.out; omega)
        rw [fs_cat ll _ HG.out (ft_cut good_tT hqlt) (by omega), bs_app, show bs ((fbs [tT]).take q) = (bs (fbs [tT])).extract 0 q from by rw [ext_to, bs_list]] at h4
        simp only at h4
        rw [← zX] at hcl h4
        rw [← zT] at zt1 zt2 hqlt
        have hxs : (bs (cat ll)).size ≤ 120000 := by have := HN.out; omega
        have HZX := Lib.hid zX
        have HML := Lib.hid hlen
        obtain ⟨ml, hml⟩ : ∃ ml, ml = (hof 0 ll).length := ⟨_, rfl⟩
        have HMM := Lib.hid hml
        have hfl : ll.flatten.length = ml := by rw [hml, hlen]
        have HFL := Lib.hid hfl
        rw [hfl]
        have hml2 : ml ≤ 320 := by
          have := hof_small ll 0 HG.out
          have := HN.out
          rw [hml]; omega
        have H3 := Lib.hid h3
        have H4 := Lib.hid h4
        have RT := Lib.hid recs_tT
        have HS := Lib.hid (fun W a b c c' h1 h2 => same_yes ll.flatten a b c c' W (by rw [hfl]; omega) h1 h2)
        rw [hfl] at HS
        clear h3 h4 hrw ho hlen hcl zX zT hml hfl HO htk
        generalize bs (fbs [tT]) = T at *
        have hT0 : ((T.size : Int) == 0) = false := by rw [beq_eq_false_iff_ne]; omega
        generalize hXX : bs (cat ll) = X at *
        have HXX := Lib.hid hXX
        clear hXX
        go_wp2_with fail
        (with_reducible refine (H3.out _ _ _ (RT.out wr)).mono ?_)
        rintro e w3 ⟨rfl, b3⟩
        have a3 : Below wr.heap.size wr w3 := ((Below.refl wr.heap.size wr).alloc (Nat.le_refl _) (.cells #[.int .u64 9, .string ⟨#[116, 97, 105, 108]⟩, .string ⟨#[]⟩, .bool false] 45)).trans (b3.mono (by simp))
        have B3 := Lib.hid (hbw.trans (a3.mono hbw.size))
        have RW := Lib.hid (RW.out.later a3 (Nat.le_refl _))
        clear a3 b3 hbw
        go_wp2_with fail
        (with_reducible refine (H4.out _).mono ?_)
        rintro e w4 ⟨am, capm, rfl, rm, b4⟩
        have RM := Lib.hid (show EntsIn w4 am (hof 0 ll) from rm)
        have B4 := Lib.hid (B3.out.trans (b4.mono B3.out.size))
        have RW := Lib.hid (RW.out.later b4 (Nat.le_refl _))
        simp only
        rw [← HMM.out]
        clear b4 rm B3 hq
        go_wp2_with fail
        go_loopw [16, 17] (fun v it wr2 => ∃ (u : Value) (i : Nat), u = v ∧ i ≤ ml ∧ it = .int .i64 i ∧ wr2.ownsRow w4.heap.size 45 4 u i (flat (ll.flatten.take i)) ∧ Below w4.heap.size w4 wr2) (fun _ it _ => ml - (intOf it).toNat)
        case atStart => exact ⟨_, 0, rfl, by omega, rfl, World.ownsRow_nil _ _ _ _, Below.refl _ _⟩
        case round =>
          obtain ⟨u, i, rfl, hi, rfl, hown, hb⟩ := hrel
          have HO := Lib.hid hown
          clear hown
          by_cases hlt : i < ml
          · have hi' : i < (hof 0 ll).length := by rw [← HMM.out]; exact hlt
            have hif : i < ll.flatten.length := by rw [HFL.out]; exact hlt
            obtain ⟨hfit, ⟨o1, o2, l1, l2⟩, hat'⟩ := each_at HG.out (by rw [← HN.out]; exact hn20) i hi'
            obtain ⟨gm, offm, rfl, hbm, c0, c1, c2, c3, c4⟩ := ents_of_mem RM.out i hi'
            rw [← hb.cell (p := ⟨gm, _, none⟩) hbm] at c0 c1 c2 c3 c4
            have HFN := Lib.hid (flat_next ll.flatten i hif)
            have h5 := fun W => hat_any (cat ll) (hof 0 ll)[i] W hfit
            rw [hatV, hat', HXX.out] at h5
            simp only [ev, rv] at h5
            have hlti : (i : Int) < (ml : Int) := by omega
            have hbz := hb.size
            have hprev : i = 0 ∨ ∃ (k : Nat) (eo el : Int), i = k + 1 ∧ wr.cell? ⟨gm, offm + k * 5 + 1, none⟩ = some (.int .i64 eo) ∧ wr.cell? ⟨gm, offm + k * 5 + 2, none⟩ = some (.int .i64 el) ∧ (0 ≤ eo ∧ eo ≤ 120000) ∧ (0 ≤ el ∧ el ≤ 400) ∧ eo + el ≤ (hof 0 ll)[i].o := by
              cases i with
              | zero => exact .inl rfl
              | succ k =>
                obtain ⟨_, ⟨p1, p2, p3, p4⟩, _⟩ := each_at HG.out (by rw [← HN.out]; exact hn20) k (by omega)
                obtain ⟨gm', offm', e', hbm', _, d1, d2, _, _⟩ := ents_of_mem RM.out k (by omega)
                cases e'
                rw [← hb.cell (p := ⟨gm, _, none⟩) hbm'] at d1 d2
                exact .inr ⟨k, _, _, rfl, d1, d2, ⟨p1, p2⟩, ⟨p3, p4⟩, hof_order hi'⟩
            clear hat' hfit
            generalize ll.flatten[i] = r at *
            generalize (hof 0 ll)[i] = E at *
            have H5 := Lib.hid h5
            clear h5 hi' hif
            generalize bs E.k = K at *
            generalize E.o = O at *
            generalize E.l = L at *
            generalize ((E.q : Nat) : Int) = Q at *
            generalize E.g = G at *
            generalize ((r.q : Nat) : Int) = q1 at *
            generalize bs r.k = k1 at *
            generalize bs r.v = v1 at *
            generalize r.g = g1 at *
            rcases hprev with h0 | ⟨k, eo, el, hik, d1, d2, ⟨p1, p2⟩, ⟨p3, p4⟩, hord⟩
            · have hi0 : ¬ (0 : Int) < (i : Int) := by omega
              have hi1 : ¬ 0 < i := by omega
              have hi2 : decide (0 < i) = false := by rw [decide_eq_false_iff_not]; exact hi1
              have hi3 : decide ((0 : Int) < (i : Int)) = false := by rw [decide_eq_false_iff_not]; exact hi0
              clear h0
              go_wp2_with fail
              (with_reducible refine (H5.out _).mono ?_)
              rintro e w5 ⟨rfl, b5⟩
              have B5 := Lib.hid (hb.trans (b5.mono hbz))
              have O5 := Lib.hid ((owns_later HO.out b5).alloc (.cells #[.int .u64 q1, .string k1, .string v1, .bool g1] 45))
              have A5 := Lib.hid (Box.made w5 (.cells #[.int .u64 q1, .string k1, .string v1, .bool g1] 45))
              have BA := Lib.hid (B5.out.alloc B5.out.size (.cells #[.int .u64 q1, .string k1, .string v1, .bool g1] 45))
              clear b5 HO hb c0 c1 c2 c3 c4 B5
              go_wp2_with fail
              obtain ⟨_, x0, x1, x2, x3⟩ := Box4.cells A5.out
              have zA : w5.heap.size < (w5.alloc (.cells #[.int .u64 q1, .string k1, .string v1, .bool g1] 45)).heap.size := by simp
              have hb5 := BA.out.size
              generalize w5.alloc (.cells #[.int .u64 q1, .string k1, .string v1, .bool g1] 45) = w6 at *
              generalize w5.heap.size = R at *
              go_quiet (fail)
              have bq := below_drewN (Below.refl w6.heap.size w6) nq
              have O6 := Lib.hid (owns_later O5.out bq)
              have B6 := Lib.hid (BA.out.trans (bq.mono hb5))
              have y0 := (bq.cell (p := ⟨R, 0, none⟩) zA).trans x0
              have y1 := (bq.cell (p := ⟨R, 1, none⟩) zA).trans x1
              have y2 := (bq.cell (p := ⟨R, 2, none⟩) zA).trans x2
              have y3 := (bq.cell (p := ⟨R, 3, none⟩) zA).trans x3
              clear O5 BA A5 bq x0 x1 x2 x3
              generalize w6.drewN nq = w7 at *
              have hz7 := B6.out.size
              go_wp2_with (at_builtin; refine wpList_append_own _ rfl _ _ 53 rfl w4.heap.size 45 i0 (.agg #[.int .u64 0, .string ⟨#[]⟩, .string ⟨#[]⟩, .bool false]) 4 48 Try.underlying53 HI.out.1 HI.out.2.1 HI.out.2.2.1 HI.out.2.2.2 rfl (by decide) _ _ _ rfl (O6.out.alloc _) ⟨w7.heap.size, 0, none⟩ 1 1 [.int .u64 q1, .string k1, .string v1, .bool g1] rfl rfl ?c1 (fun x hx => by simp at hx; rcases hx with rfl | rfl | rfl | rfl <;> rfl) (by unfold maxLen; omega) (by omega) (by simp; omega) ?_)
              case c1 => exact cell_four_new w7 _ _ _ _ _
              intro v' w8 hown' hgrow _
              have B8 : Hid (Below w4.heap.size w4 w8) := Lib.hid (Below.grown (B6.out.alloc hz7 _) hgrow (by simp; omega) (fun j hj => (O6.out.lt _ hj).1))
              have O8 := Lib.hid hown'
              clear hown' hgrow
              go_wp2_with fail
              exact ⟨⟨_, i + 1, rfl, by omega, by go_num, by rw [HFN.out]; exact O8.out, B8.out⟩, by simp [intOf]; omega⟩
            · have hi0 : (0 : Int) < (i : Int) := by omega
              have hi1 : 0 < i := by omega
              have hi2 : decide (0 < i) = true := by rw [decide_eq_true_iff]; exact hi1
              have hi3 : decide ((0 : Int) < (i : Int)) = true := by rw [decide_eq_true_iff]; exact hi0
              have hk1 : (i : Int) - 1 = (k : Int) := by omega
              have hw1 := IntWalk.i64_in ((i : Int) - 1) ⟨by omega, by omega⟩
              have hw2 := IntWalk.i64_in (eo + el) ⟨by omega, by omega⟩
              rw [hk1] at hw1
              have hcm : ¬ O < eo + el := by omega
              have hcm2 : decide (O < eo + el) = false := by rw [decide_eq_false_iff_not]; exact hcm
              have hkml : (k : Int) < (ml : Int) := by omega
              have HIK := Lib.hid hik
              clear hik
              go_wp2_with fail
              (with_reducible refine (H5.out _).mono ?_)
              rintro e w5 ⟨rfl, b5⟩
              have B5 := Lib.hid (hb.trans (b5.mono hbz))
              have O5 := Lib.hid ((owns_later HO.out b5).alloc (.cells #[.int .u64 q1, .string k1, .string v1, .bool g1] 45))
              have A5 := Lib.hid (Box.made w5 (.cells #[.int .u64 q1, .string k1, .string v1, .bool g1] 45))
              have BA := Lib.hid (B5.out.alloc B5.out.size (.cells #[.int .u64 q1, .string k1, .string v1, .bool g1] 45))
              have al := (b5.trans ((Below.refl w5.heap.size w5).alloc (Nat.le_refl _) (.cells #[.int .u64 q1, .string k1, .string v1, .bool g1] 45) |>.mono b5.size))
              have hz4 := hb.size
              have f1 := (al.cell (p := ⟨gm, offm + i * 5 + 1, none⟩) (by show gm < wr.heap.size; omega)).trans c1
              have f2 := (al.cell (p := ⟨gm, offm + k * 5 + 1, none⟩) (by show gm < wr.heap.size; omega)).trans d1
              have f3 := (al.cell (p := ⟨gm, offm + k * 5 + 2, none⟩) (by show gm < wr.heap.size; omega)).trans d2
              clear al d1 d2
              clear b5 HO hb c0 c1 c2 c3 c4 B5
              go_wp2_with fail
              obtain ⟨_, x0, x1, x2, x3⟩ := Box4.cells A5.out
              have zA : w5.heap.size < (w5.alloc (.cells #[.int .u64 q1, .string k1, .string v1, .bool g1] 45)).heap.size := by simp
              have hb5 := BA.out.size
              generalize w5.alloc (.cells #[.int .u64 q1, .string k1, .string v1, .bool g1] 45) = w6 at *
              generalize w5.heap.size = R at *
              go_quiet (fail)
              have bq := below_drewN (Below.refl w6.heap.size w6) nq
              have O6 := Lib.hid (owns_later O5.out bq)
              have B6 := Lib.hid (BA.out.trans (bq.mono hb5))
              have y0 := (bq.cell (p := ⟨R, 0, none⟩) zA).trans x0
              have y1 := (bq.cell (p := ⟨R, 1, none⟩) zA).trans x1
              have y2 := (bq.cell (p := ⟨R, 2, none⟩) zA).trans x2
              have y3 := (bq.cell (p := ⟨R, 3, none⟩) zA).trans x3
              clear O5 BA A5 bq x0 x1 x2 x3 f1 f2 f3 hk1 hw1 hw2
              generalize w6.drewN nq = w7 at *
              have hz7 := B6.out.size
              go_wp2_with (at_builtin; refine wpList_append_own _ rfl _ _ 53 rfl w4.heap.size 45 i0 (.agg #[.int .u64 0, .string ⟨#[]⟩, .string ⟨#[]⟩, .bool false]) 4 48 Try.underlying53 HI.out.1 HI.out.2.1 HI.out.2.2.1 HI.out.2.2.2 rfl (by decide) _ _ _ rfl (O6.out.alloc _) ⟨w7.heap.size, 0, none⟩ 1 1 [.int .u64 q1, .string k1, .string v1, .bool g1] rfl rfl ?c1 (fun x hx => by simp at hx; rcases hx with rfl | rfl | rfl | rfl <;> rfl) (by unfold maxLen; omega) (by omega) (by simp; omega) ?_)
              case c1 => exact cell_four_new w7 _ _ _ _ _
              intro v' w8 hown' hgrow _
              have B8 : Hid (Below w4.heap.size w4 w8) := Lib.hid (Below.grown (B6.out.alloc hz7 _) hgrow (by simp; omega) (fun j hj => (O6.out.lt _ hj).1))
              have O8 := Lib.hid hown'
              clear hown' hgrow
              go_wp2_with fail
              exact ⟨⟨_, i + 1, rfl, by omega, by go_num, by rw [HFN.out]; exact O8.out, B8.out⟩, by simp [intOf]; omega⟩
          · have e : i = ml := by omega
            have hnlt : ¬ (i : Int) < (ml : Int) := by omega
            have htk : ll.flatten.take i = ll.flatten := by rw [e, ← HFL.out, List.take_length]
            have ho := HO.out
            rw [htk, e, ← HFL.out] at ho
            obtain ⟨ag, capg, rfl, hrg⟩ := owns_recs ho
            have HRG := Lib.hid hrg.1
            have RW2 := Lib.hid (RW.out.later hb (Nat.le_refl _))
            rw [HFL.out]
            clear ho hrg htk HO
            go_wp2_with fail
            (with_reducible refine (HS.out _ _ _ _ _ RW2.out HRG.out).mono ?_)
            rintro e w5 ⟨rfl, b5⟩
            have B5 := Lib.hid ((B4.out.trans (hb.mono B4.out.size)).trans (b5.mono (B4.out.trans (hb.mono B4.out.size)).size))
            clear b5
            go_wp2_with fail
            go_ret
            exact ⟨rfl, B5.out⟩

theorem each_law (ll : List (List Rc)) (a : Option Addr) (cap : Nat) (c : Int) (w : World) (hl : ll.length ≤ 9223372036854775807) (hr : BatsIn w a cap ll) (hf : Came2 ll) (hc : (Lit.int .i64 c).wf = true) :
    Calls Try.prog 6 #[.slice a ll.length cap, .int .i64 c] w fun e w' => e = .returned (.bool true) ∧ Below w.heap.size w w' :=
  each_of ll a cap c w hl hr hf.fits (bounds_i64 hc).2

end Go.Proofs.Ytdifecclldkhpaa
