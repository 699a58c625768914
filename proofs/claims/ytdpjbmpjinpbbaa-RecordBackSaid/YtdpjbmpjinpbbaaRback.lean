/- The walk of the law RecordBack. -/
import Derived.Test.YtdpjbmpjinpbbaaRsame
namespace Go.Proofs.Ytdpjbmpjinpbbaa
open Go.RowKit

theorem rds_nil : rds [] = ([], 0) := rfl

/-- What is read has just these bytes: the law's last test. -/
theorem back_last (b : List UInt8) : (rd b).2.2 ≠ 0 ∨ (∃ r s, rd b = (r, s, 0) ∧ right r = true ∧ b = enc r ++ s) := by
  rcases rd_cases b with ⟨e, he, _, h⟩ | h
  · exact .inl (by rw [h]; exact he)
  · exact .inr h

/-- The law's two last calls, and its last test. -/
theorem one_enc {r : Rc} (h : right r = true) : allV [r] = .tuple #[.string (bs (enc r)), .int .i64 0] := by
  rw [allV_yes (by simp [rights, h]), encs_cons, encs_nil, List.append_nil]

theorem zV : allV [Rc.z] = .tuple #[.string ⟨#[]⟩, .int .i64 1] := allV_no (by simp [rights, right, Rc.z])

theorem bytes_z (w : World) : Calls Try.prog 8 #[.agg #[.int .u64 0, .string ⟨#[]⟩, .string ⟨#[]⟩, .bool false]] w fun e w' => e = .returned (.tuple #[.string ⟨#[]⟩, .int .i64 1]) ∧ Below w.heap.size w w' := by
  have := bytes_any Rc.z w (by decide) (by decide) (by decide)
  rw [zV] at this
  exact this

set_option maxRecDepth 100000 in
set_option maxHeartbeats 1000000 in
theorem back_of (l : List Rc) (a : Option Addr) (cap : Nat) (b rest : List UInt8) (w : World) (hl : l.length ≤ 9223372036854775807) (hr : Recs w a l) (hf : Fits l) (hb : b.length ≤ 9223372036854775807) (hrest : rest.length ≤ 9223372036854775807) :
    Calls Try.prog 5 #[.slice a l.length cap, .string (bs b), .string (bs rest)] w fun e w' => e = .returned (.bool true) ∧ Below w.heap.size w w' := by
  have HR := Lib.hid hr
  have HF := Lib.hid hf
  have hbz := bs_size b
  have hrz := bs_size rest
  clear hr hf
  go_enter Try.func5, Try.ntmps5
  go_wp2_with fail
  refine (awake_any _).mono ?_
  rintro e w1 ⟨rfl, b1⟩
  go_wp2_with fail
  (with_reducible refine (light_any l a cap w1 hl (HR.out.later b1 (Nat.le_refl _)) HF.out).mono ?_)
  rintro e w2 ⟨ok, rfl, h40, b2⟩
  have B2 := b1.trans (b2.mono b1.size)
  cases ok with
  | false =>
    go_wp2_with fail
    go_ret
    exact ⟨rfl, B2⟩
  | true =>
    have h40 := h40 rfl
    by_cases c : 2000 < b.length ∨ 500 < rest.length
    · rcases c with c | c
      all_goals
        go_wp2_with fail
        all_goals
          go_ret
          exact ⟨rfl, B2⟩
    · obtain ⟨z1, z2⟩ : b.length ≤ 2000 ∧ rest.length ≤ 500 := by omega
      have BB2 := Lib.hid B2
      have h1 := fun W (hW : Below w.heap.size w W) => all_any l a cap W (by omega) (HR.out.later hW (Nat.le_refl _)) HF.out
      clear B2 b1 b2 c
      cases hg : rights l with
      | false =>
        rw [allV_no (by simp [hg])] at h1
        have H1 := Lib.hid h1
        have h2 := fun W => list_any [] W (by simp)
        rw [rds_nil, show bs [] = ⟨#[]⟩ from rfl] at h2
        have H2 := Lib.hid h2
        clear h1 h2
        go_wp2_with fail
        (with_reducible refine (H1.out _ BB2.out).mono ?_)
        rintro e w3 ⟨rfl, b3⟩
        have B3 := Lib.hid (BB2.out.trans (b3.mono BB2.out.size))
        clear b3 BB2
        go_wp2_with fail
        (with_reducible refine (H2.out _).mono ?_)
        rintro e w4 ⟨a4, c4, rfl, r4, b4⟩
        have B4 := Lib.hid (B3.out.trans (b4.mono B3.out.size))
        clear b4 r4 B3
        have hne : l.length ≠ 0 := fun h => by
          obtain rfl := List.length_eq_zero_iff.1 h
          simp [rights] at hg
        have H3 := Lib.hid (fun W => same_no a a4 l.length 0 cap c4 W hne)
        go_wp2_with fail
        (with_reducible refine (H3.out _).mono ?_)
        rintro e w5 ⟨rfl, b5⟩
        have B5 := Lib.hid (B4.out.trans (b5.mono B4.out.size))
        clear b5 B4
        go_wp2_with fail
        go_loopw [14] (fun i wr => i = .int .i64 0 ∧ Below w.heap.size w wr) (fun _ _ => 0)
        case atStart => exact ⟨rfl, B5.out⟩
        case round =>
          obtain ⟨rfl, hbw⟩ := hrel
          have HBW := Lib.hid hbw
          clear hbw
          have zbs : (bs b).size ≤ 2000 := by omega
          rcases rd_cases b with ⟨ee, he, _, hrd⟩ | ⟨r, t, hrd, hgr, hbe⟩
          · have HT1 := Lib.hid (read_of b (by omega) _ _ _ hrd)
            have HT2 := Lib.hid bytes_z
            simp only [Rc.z] at HT1
            rw [show bs [] = ⟨#[]⟩ from rfl] at HT1
            have hne0 : ((ee : Int) != 0) = true := by rw [bne_iff_ne]; omega
            clear hrd
            go_wp2_with fail
            (with_reducible refine (HT1.out _).mono ?_)
            rintro e wx ⟨rfl, bx⟩
            have hxz := bx.size
            go_wp2_with fail
            (with_reducible refine (HT2.out _).mono ?_)
            rintro e wy ⟨rfl, b_y⟩
            go_wp2_with fail
            go_ret
            exact ⟨rfl, (HBW.out.trans (bx.mono HBW.out.size)).trans (((Below.refl _ _).alloc (Nat.le_refl _) _).trans (b_y.mono (by simp)) |>.mono (Nat.le_trans HBW.out.size hxz))⟩
          · obtain ⟨q1, q2, q3, q4, q5, q6⟩ := (right_iff r).1 hgr
            have HT1 := Lib.hid (read_of b (by omega) _ _ _ hrd)
            have HT2 := Lib.hid (fun W => bytes_any r W (by omega) (by omega) (by omega))
            rw [one_enc hgr] at HT2
            have hel := (enc_len hgr).2
            have htl : t.length ≤ 2000 := by rw [hbe, List.length_append] at z1; omega
            have zx : (bs (enc r)).size ≤ 370 := by rw [bs_size]; exact hel
            have zt : (bs t).size ≤ 2000 := by rw [bs_size]; exact htl
            have hbe2 : bs b = bs (enc r) ++ bs t := by rw [← bs_app, ← hbe]
            have HBE := Lib.hid hbe2
            clear hrd q1 q2 q3 q4 q5 q6 hgr hel htl hbe hbe2
            simp only [rv] at HT2
            generalize ((r.q : Nat) : Int) = Q at *
            generalize bs r.k = K at *
            generalize bs r.v = V at *
            generalize r.g = G at *
            generalize bs (enc r) = X at *
            generalize bs t = Y at *
            have cc : ¬ 9223372036854775807 < X.size + Y.size := by omega
            go_wp2_with fail
            (with_reducible refine (HT1.out _).mono ?_)
            rintro e wx ⟨rfl, bx⟩
            have hxz := bx.size
            go_wp2_with fail
            (with_reducible refine (HT2.out _).mono ?_)
            rintro e wy ⟨rfl, b_y⟩
            go_wp2_with fail
            go_ret
            exact ⟨ret_bool (by simp [HBE.out]), (HBW.out.trans (bx.mono HBW.out.size)).trans (((Below.refl _ _).alloc (Nat.le_refl _) _).trans (b_y.mono (by simp)) |>.mono (Nat.le_trans HBW.out.size hxz))⟩
      | true =>
        rw [allV_yes hg] at h1
        have H1 := Lib.hid h1
        have hel := encs_len l hg
        have h2 := fun W => list_any (encs l) W (by omega)
        rw [rds_encs hg] at h2
        have H2 := Lib.hid h2
        have H3 := Lib.hid (fun W a4 c4 h1 h2 => same_yes l a a4 cap c4 W (by omega) h1 h2)
        have HG : Hid (∀ k (h : k < l.length), right l[k] = true) := Lib.hid (fun k h => by rw [rights, List.all_eq_true] at hg; exact hg _ (List.getElem_mem h))
        clear h1 h2 hel hg
        generalize bs (encs l) = E at *
        go_wp2_with fail
        (with_reducible refine (H1.out _ BB2.out).mono ?_)
        rintro e w3 ⟨rfl, b3⟩
        have B3 := Lib.hid (BB2.out.trans (b3.mono BB2.out.size))
        clear b3 BB2
        go_wp2_with fail
        (with_reducible refine (H2.out _).mono ?_)
        rintro e w4 ⟨a4, c4, rfl, r4, b4⟩
        have R4 := Lib.hid r4
        have B4 := Lib.hid (B3.out.trans (b4.mono B3.out.size))
        clear b4 r4 B3
        go_wp2_with fail
        (with_reducible refine (H3.out _ _ _ (HR.out.later B4.out (Nat.le_refl _)) R4.out).mono ?_)
        rintro e w5 ⟨rfl, b5⟩
        have B5 := Lib.hid (B4.out.trans (b5.mono B4.out.size))
        clear b5 B4
        go_wp2_with fail
        go_loopw [14] (fun i wr => ∃ k : Nat, k ≤ l.length ∧ i = .int .i64 k ∧ Below w.heap.size w wr) (fun i _ => l.length - (intOf i).toNat)
        case atStart => exact ⟨0, by omega, rfl, B5.out⟩
        case round =>
          obtain ⟨k, hk, rfl, hbw⟩ := hrel
          have HBW := Lib.hid hbw
          by_cases hlt : k < l.length
          · obtain ⟨bb, off, rfl, hbl, c0, c1, c2, c3⟩ := cells_of HR.out k hlt
            rw [← hbw.cell (p := ⟨bb, _, none⟩) hbl] at c0 c1 c2 c3
            have hgr := HG.out k hlt
            have hbz2 := hbw.size
            clear hbw
            generalize l[k] = r at *
            obtain ⟨q1, q2, q3, q4, q5, q6⟩ := (right_iff r).1 hgr
            have L1 := Lib.hid (fun W => bytes_any r W (by omega) (by omega) (by omega))
            rw [one_enc hgr] at L1
            have hel := (enc_len hgr).2
            have L2 := Lib.hid (read_of (enc r ++ rest) (by rw [List.length_append]; omega) _ _ _ (rd_enc hgr rest))
            rw [bs_app] at L2
            have zx : (bs (enc r)).size ≤ 370 := by rw [bs_size]; exact hel
            have zt : (bs rest).size ≤ 500 := by omega
            clear q1 q2 q3 q4 q5 q6 hgr hel
            simp only [rv] at L1
            generalize ((r.q : Nat) : Int) = Q at *
            generalize bs r.k = K at *
            generalize bs r.v = V at *
            generalize r.g = G at *
            generalize bs (enc r) = X at *
            generalize bs rest = Y at *
            have cc : ¬ 9223372036854775807 < X.size + Y.size := by omega
            go_wp2_with fail
            (with_reducible refine (L1.out _).mono ?_)
            rintro e wx ⟨rfl, bx⟩
            have hxz := bx.size
            go_wp2_with fail
            (with_reducible refine (L2.out _).mono ?_)
            rintro e wy ⟨rfl, b_y⟩
            have hyz := b_y.size
            rw [← bx.cell (p := ⟨bb, _, none⟩) (by show bb < _; omega), ← b_y.cell (p := ⟨bb, _, none⟩) (by show bb < _; omega)] at c0 c1 c2 c3
            have hlti : (k : Int) < (l.length : Int) := by omega
            go_wp2_with fail
            have BZ : Hid (Below w.heap.size w (wy.alloc (.cells #[.int .u64 Q, .string K, .string V, .bool G] 24))) := Lib.hid (((HBW.out.trans (bx.mono hbz2)).trans (b_y.mono (by omega))).alloc (by omega) _)
            have M0 : Box4 wy _ _ _ _ _ := Box.made wy (.cells #[.int .u64 Q, .string K, .string V, .bool G] 24)
            obtain ⟨_, d0, d1, d2, d3⟩ := Box4.cells M0
            have BA : Below wy.heap.size wy (wy.alloc (.cells #[.int .u64 Q, .string K, .string V, .bool G] 24)) := (Below.refl _ _).alloc (Nat.le_refl _) _
            rw [← BA.cell (p := ⟨bb, _, none⟩) (by show bb < _; omega)] at c0 c1 c2 c3
            clear BA M0 bx b_y
            generalize wy.alloc (.cells #[.int .u64 Q, .string K, .string V, .bool G] 24) = WZ at *
            go_quiet (fail)
            go_wp2_with fail
            exact ⟨⟨k + 1, by omega, by go_num, below_drewN BZ.out nq⟩, by simp [intOf]; omega⟩
          · have ek : k = l.length := by omega
            subst ek
            clear hbw
            have zbs : (bs b).size ≤ 2000 := by omega
            rcases rd_cases b with ⟨ee, he, _, hrd⟩ | ⟨r, t, hrd, hgr, hbe⟩
            · have HT1 := Lib.hid (read_of b (by omega) _ _ _ hrd)
              have HT2 := Lib.hid bytes_z
              simp only [Rc.z] at HT1
              rw [show bs [] = ⟨#[]⟩ from rfl] at HT1
              have hne0 : ((ee : Int) != 0) = true := by rw [bne_iff_ne]; omega
              clear hrd
              go_wp2_with fail
              (with_reducible refine (HT1.out _).mono ?_)
              rintro e wx ⟨rfl, bx⟩
              have hxz := bx.size
              go_wp2_with fail
              (with_reducible refine (HT2.out _).mono ?_)
              rintro e wy ⟨rfl, b_y⟩
              go_wp2_with fail
              go_ret
              exact ⟨rfl, (HBW.out.trans (bx.mono HBW.out.size)).trans (((Below.refl _ _).alloc (Nat.le_refl _) _).trans (b_y.mono (by simp)) |>.mono (Nat.le_trans HBW.out.size hxz))⟩
            · obtain ⟨q1, q2, q3, q4, q5, q6⟩ := (right_iff r).1 hgr
              have HT1 := Lib.hid (read_of b (by omega) _ _ _ hrd)
              have HT2 := Lib.hid (fun W => bytes_any r W (by omega) (by omega) (by omega))
              rw [one_enc hgr] at HT2
              have hel := (enc_len hgr).2
              have htl : t.length ≤ 2000 := by rw [hbe, List.length_append] at z1; omega
              have zx : (bs (enc r)).size ≤ 370 := by rw [bs_size]; exact hel
              have zt : (bs t).size ≤ 2000 := by rw [bs_size]; exact htl
              have hbe2 : bs b = bs (enc r) ++ bs t := by rw [← bs_app, ← hbe]
              have HBE := Lib.hid hbe2
              clear hrd q1 q2 q3 q4 q5 q6 hgr hel htl hbe hbe2
              simp only [rv] at HT2
              generalize ((r.q : Nat) : Int) = Q at *
              generalize bs r.k = K at *
              generalize bs r.v = V at *
              generalize r.g = G at *
              generalize bs (enc r) = X at *
              generalize bs t = Y at *
              have cc : ¬ 9223372036854775807 < X.size + Y.size := by omega
              go_wp2_with fail
              (with_reducible refine (HT1.out _).mono ?_)
              rintro e wx ⟨rfl, bx⟩
              have hxz := bx.size
              go_wp2_with fail
              (with_reducible refine (HT2.out _).mono ?_)
              rintro e wy ⟨rfl, b_y⟩
              go_wp2_with fail
              go_ret
              exact ⟨ret_bool (by simp [HBE.out]), (HBW.out.trans (bx.mono HBW.out.size)).trans (((Below.refl _ _).alloc (Nat.le_refl _) _).trans (b_y.mono (by simp)) |>.mono (Nat.le_trans HBW.out.size hxz))⟩

end Go.Proofs.Ytdpjbmpjinpbbaa
