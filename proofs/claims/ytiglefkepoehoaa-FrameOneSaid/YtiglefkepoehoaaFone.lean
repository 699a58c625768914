/- The walk of the law FrameOne. -/
import Derived.Test.YtiglefkepoehoaaFawake
import Derived.Test.YtiglefkepoehoaaRopens
import Derived.OpenShut
import Derived.Laws.IdiomStrings
import Derived.Laws.BitsAllLaws
namespace Go.Proofs.Ytiglefkepoehoaa
open Go.RowKit

/-- Nothing that was there ahead has turned; block cb holds the row L. -/
def Kb (w0 : World) (cb : Nat) (L : List UInt8) (W : World) : Prop :=
  Below w0.heap.size w0 W ∧ cb < W.heap.size ∧ (∀ j (h : j < L.length), W.cell? ⟨cb, j, none⟩ = some (.int .u8 (L[j].toNat : Int))) ∧ (∀ j, j < L.length → W.frozen? ⟨cb, j, none⟩ = false)

theorem Kb.drewN {w0 W : World} {cb : Nat} {L : List UInt8} (h : Kb w0 cb L W) (d : Nat) : Kb w0 cb L (W.drewN d) := ⟨below_drewN h.1 d, h.2⟩
theorem Kb.call {w0 W W' : World} {cb : Nat} {L : List UInt8} (h : Kb w0 cb L W) (b : Below W.heap.size W W') : Kb w0 cb L W' :=
  ⟨h.1.trans (b.mono h.1.size), Nat.lt_of_lt_of_le h.2.1 b.size,
    fun j hj => by rw [b.cell h.2.1]; exact h.2.2.1 j hj, fun j hj => by rw [b.frozen h.2.1]; exact h.2.2.2 j hj⟩
theorem Kb.store {w0 W : World} {cb : Nat} {L : List UInt8} (h : Kb w0 cb L W) (hcb : w0.heap.size ≤ cb) (k : Nat) (hk : k < L.length) (x : UInt8) :
    Kb w0 cb (L.set k x) (W.setCell ⟨cb, k, none⟩ (.int .u8 (x.toNat : Int))) := by
  refine ⟨h.1.setCell hcb _, by simpa [World.setCell] using h.2.1, fun j hj => ?_, fun j hj => ?_⟩
  · rw [List.length_set] at hj
    by_cases e : k = j
    · subst e
      rw [World.cell?_setCell_same (h := h.2.2.1 k hk), List.getElem_set_self]
    · rw [World.cell?_setCell_other (a := ⟨cb, k, none⟩) (b := ⟨cb, j, none⟩) (h := fun q => e (congrArg Addr.off q)), List.getElem_set_ne e]
      exact h.2.2.1 j hj
  · rw [List.length_set] at hj
    rw [World.frozen?_setCell]
    exact h.2.2.2 j hj

theorem Kb.conv {w0 W : World} {cb : Nat} {L : List UInt8} (h : Kb w0 cb L W) (n cap : Nat) (hn : L.length = n) :
    (convert 40 9 (.slice (some ⟨cb, 0, none⟩) n cap)).run Try.prog W = .ok (.string (bs L)) W := by
  subst hn
  refine run_convert_bytes_back W 40 9 5 ⟨cb, 0, none⟩ cap L (by kernel_rfl) (by kernel_rfl) (by kernel_rfl) fun j hj => ?_
  have e : (⟨cb, 0, none⟩ : Addr).add j = ⟨cb, j, none⟩ := by simp [Addr.add]; omega
  rw [e]
  exact h.2.2.1 j hj

/-- What '[]byte(s)' lays. -/
theorem Kb.made {w0 W : World} (hb : Below w0.heap.size w0 W) (L : List UInt8) (cap lo hi : Nat) (hlo : (bytesRow (bs L) cap).size ≤ lo) :
    Kb w0 W.heap.size L (W.drew.alloc (.cells (bytesRow (bs L) cap) 5 (lo, hi))) := by
  have hsz : (W.drew.alloc (.cells (bytesRow (bs L) cap) 5 (lo, hi))).heap.size = W.heap.size + 1 := by simp
  have hrow : L.length ≤ (bytesRow (bs L) cap).size := by simp [bytesRow, bs]
  refine ⟨hb.drew.alloc hb.size _, by omega, fun j hj => ?_, fun j hj => ?_⟩
  · have := World.cell?_alloc_mark W.drew (bytesRow (bs L) cap) 5 (lo, hi) j
    rw [show W.drew.heap.size = W.heap.size from rfl] at this
    rw [this]
    unfold bytesRow
    rw [Array.getElem?_append_left (by simpa [bs] using hj)]
    simp [bs, hj]
  · have := World.frozen?_alloc_mark W.drew (bytesRow (bs L) cap) 5 lo hi j
    rw [show W.drew.heap.size = W.heap.size from rfl] at this
    rw [this]
    have : ¬ lo ≤ j := by omega
    simp [this]

theorem ft_fst {l : List Rc} (h : good l = true) (rest : List UInt8) (w : World) (hr : rest.length ≤ 300) :
    Calls Try.prog 10 #[.string (bs (fbs l) ++ bs rest)] w (FtPost w (l, (bs (fbs l)).size, 0)) := by
  obtain ⟨z1, z2⟩ := fbs_len h
  rw [bs_size]
  have := ftake_any (fbs l ++ rest) w (by rw [List.length_append]; omega)
  rwa [ft_bytes h, bs_app] at this

theorem ft_snd {l : List Rc} (h : good l = true) (rest : List UInt8) (w : World) (hr : rest.length ≤ 300) (k : Nat) (x : UInt8) (h1 : (if 129 < (fbs l).length then 2 else 1) ≤ k) (hk : k < (fbs l).length) (hx : x ≠ (fbs l)[k]) :
    Calls Try.prog 10 #[.string (bs ((fbs l).set k x) ++ bs rest)] w (FtPost w ([], 0, 4)) := by
  obtain ⟨z1, z2⟩ := fbs_len h
  have := ftake_any ((fbs l).set k x ++ rest) w (by rw [List.length_append, List.length_set]; omega)
  rwa [ft_byte h rest k x (by rw [put_one h]; exact h1) hk hx, bs_app] at this

theorem xor_bit (x : UInt8) (j : Nat) (hj : j < 8) : bits .xor .u8 (x.toNat : Int) (2 ^ j % 256) = (((x ^^^ UInt8.ofNat (2 ^ j)).toNat : Nat) : Int) := by
  have e : ((2 : Int) ^ j % 256) = (((UInt8.ofNat (2 ^ j)).toNat : Nat) : Int) := by
    rcases (by omega : j = 0 ∨ j = 1 ∨ j = 2 ∨ j = 3 ∨ j = 4 ∨ j = 5 ∨ j = 6 ∨ j = 7) with rfl | rfl | rfl | rfl | rfl | rfl | rfl | rfl <;> rfl
  rw [e, u8_xor_nat _ _ (u8_lt _) (u8_lt _), u8_xor_toNat]

set_option maxRecDepth 100000 in
set_option maxHeartbeats 1000000 in
theorem one_of (l : List Rc) (a : Option Addr) (cap : Nat) (rest : List UInt8) (p : Int) (w : World) (hl : l.length ≤ 9223372036854775807) (hr : Recs w a l) (hf : Fits l) (hb : rest.length ≤ 9223372036854775807) (hp : p ≤ 9223372036854775807) :
    Calls Try.prog 5 #[.slice a l.length cap, .string (bs rest), .int .i64 p] w fun e w' => e = .returned (.bool true) ∧ Below w.heap.size w w' := by
  have HR := Lib.hid hr
  have HF := Lib.hid hf
  have zr := bs_size rest
  have zb : (bs rest).size ≤ 9223372036854775807 := by rw [bs_size]; exact hb
  have h1 := fun W (hW : Below w.heap.size w W) => fbytes_any l a cap W hl (HR.out.later hW (Nat.le_refl _)) HF.out
  clear hr hf
  by_cases hg : good l = true
  case neg =>
    rw [fbV_no hg] at h1
    have H1 := Lib.hid h1
    clear h1 hg zr
    generalize bs rest = R at *
    go_enter Try.func5, Try.ntmps5
    go_wp2_with fail
    refine (awake_any _).mono ?_
    rintro e w1 ⟨rfl, b1⟩
    go_wp2_with fail
    (with_reducible refine (light_any l a cap w1 hl (HR.out.later b1 (Nat.le_refl _)) HF.out).mono ?_)
    rintro e w2 ⟨ok, rfl, h40, b2⟩
    have B2 := Lib.hid (b1.trans (b2.mono b1.size))
    clear b1 b2 h40
    go_wp2_with fail
    (with_reducible refine (H1.out _ B2.out).mono ?_)
    rintro e w3 ⟨rfl, b3⟩
    have B3 := Lib.hid (B2.out.trans (b3.mono B2.out.size))
    clear B2 b3
    go_wp2_with fail
    all_goals
      go_ret
      exact ⟨rfl, B3.out⟩
  obtain ⟨z1, z2⟩ := fbs_len hg
  have zs := bs_size (fbs l)
  rw [fbV_yes hg] at h1
  have H1 := Lib.hid h1
  clear h1
  by_cases hc : 300 < rest.length ∨ p < 0
  · rw [← zr] at hc
    rw [← zs] at z1 z2
    clear hg zr zs
    generalize bs rest = R at *
    generalize bs (fbs l) = A1 at *
    rcases hc with hc | hc
    all_goals
      go_enter Try.func5, Try.ntmps5
      go_wp2_with fail
      refine (awake_any _).mono ?_
      rintro e w1 ⟨rfl, b1⟩
      go_wp2_with fail
      (with_reducible refine (light_any l a cap w1 hl (HR.out.later b1 (Nat.le_refl _)) HF.out).mono ?_)
      rintro e w2 ⟨ok, rfl, h40, b2⟩
      have B2 := Lib.hid (b1.trans (b2.mono b1.size))
      clear b1 b2 h40
      cases ok
      all_goals
        go_wp2_with fail
        (with_reducible refine (H1.out _ B2.out).mono ?_)
        rintro e w3 ⟨rfl, b3⟩
        have B3 := Lib.hid (B2.out.trans (b3.mono B2.out.size))
        clear B2 b3
        go_wp2_with fail
        all_goals
          go_ret
          exact ⟨rfl, B3.out⟩
  have h2 := fun W => ft_fst hg rest W (by omega)
  have H2 := Lib.hid h2
  have hcv := fun w => run_bytes_of_string (P := Try.prog) w 9 40 5 (bs (fbs l)) Try.underlying9 Try.underlying40 Try.underlying5
  have HC := Lib.hid hcv
  have h7 := Lib.hid (fun W a b c c' h1 h2 => same_yes l a b c c' W (by omega) h1 h2)
  have hp8 : 0 ≤ p := by omega
  have hr300 : ¬ 300 < (bs rest).size := by omega
  go_enter Try.func5, Try.ntmps5
  go_wp2_with fail
  refine (awake_any _).mono ?_
  rintro e w1 ⟨rfl, b1⟩
  go_wp2_with fail
  (with_reducible refine (light_any l a cap w1 hl (HR.out.later b1 (Nat.le_refl _)) HF.out).mono ?_)
  rintro e w2 ⟨ok, rfl, h40, b2⟩
  have B2 := Lib.hid (b1.trans (b2.mono b1.size))
  clear b1 b2 h40
  cases ok with
  | false =>
    go_wp2_with fail
    (with_reducible refine (H1.out _ B2.out).mono ?_)
    rintro e w3 ⟨rfl, b3⟩
    have B3 := Lib.hid (B2.out.trans (b3.mono B2.out.size))
    clear B2 b3
    go_wp2_with fail
    all_goals
      go_ret
      exact ⟨rfl, B3.out⟩
  | true =>
    have zs1 := z1
    have zs2 := z2
    have HZ := Lib.hid zs
    rw [← zs] at zs1 zs2
    clear zs
    generalize hA : bs (fbs l) = A1 at *
    have HA := Lib.hid hA
    clear hA
    go_wp2_with fail
    (with_reducible refine (H1.out _ B2.out).mono ?_)
    rintro e w3 ⟨rfl, b3⟩
    have B3 := Lib.hid (B2.out.trans (b3.mono B2.out.size))
    clear B2 b3
    go_wp2_with fail
    (with_reducible refine (H2.out _).mono ?_)
    rintro e w4 ⟨a4, c4, rfl, r4, b4⟩
    have R4 := Lib.hid r4.1
    have B4 := Lib.hid (B3.out.trans (b4.mono B3.out.size))
    clear B3 b4 r4
    go_wp2_with fail
    (with_reducible refine (h7.out _ _ _ _ _ (HR.out.later B4.out (Nat.le_refl _)) R4.out).mono ?_)
    rintro e w5 ⟨rfl, b5⟩
    have B5 := Lib.hid (B4.out.trans (b5.mono B4.out.size))
    clear B4 b5 R4
    by_cases h129 : 129 < A1.size
    · have m1 := Int.emod_nonneg (p / 8) (b := (A1.size : Int) - 2) (by omega)
      have m2 := Int.emod_lt_of_pos (p / 8) (b := (A1.size : Int) - 2) (by omega)
      obtain ⟨q, hq⟩ : ∃ q : Nat, p / 8 % ((A1.size : Int) - 2) = (q : Int) := ⟨(p / 8 % ((A1.size : Int) - 2)).toNat, by omega⟩
      rw [hq] at m1 m2
      obtain ⟨k, hk⟩ : ∃ k : Nat, 2 + (q : Int) = (k : Int) := ⟨2 + q, by omega⟩
      have hk1 : k < A1.size := by omega
      have hk2 : 2 ≤ k := by omega
      obtain ⟨j, hj⟩ : ∃ j : Nat, p % 8 = (j : Int) := ⟨(p % 8).toNat, by omega⟩
      have hj8 : j < 8 := by omega
      have hkL : k < (fbs l).length := by rw [← HZ.out]; exact hk1
      have hcb : w.heap.size ≤ w5.heap.size := B5.out.size
      have K6 : Kb w w5.heap.size (fbs l) (w5.alloc (Obj.cells (bytesRow A1 (grownCap w5 A1.size 0 5)) 5 ((bytesRow A1 (grownCap w5 A1.size 0 5)).size, (bytesRow A1 (grownCap w5 A1.size 0 5)).size + 1))).drew := by
        have := Kb.made B5.out (fbs l) (grownCap w5 A1.size 0 5) (bytesRow A1 (grownCap w5 A1.size 0 5)).size ((bytesRow A1 (grownCap w5 A1.size 0 5)).size + 1) (by rw [HA.out]; exact Nat.le_refl _)
        rw [HA.out] at this
        exact this
      have HK6 := Lib.hid K6
      clear K6
      have hcv := HC.out w5
      go_wp2_with fail
      clear hcv
      generalize (w5.alloc (Obj.cells (bytesRow A1 (grownCap w5 A1.size 0 5)) 5 ((bytesRow A1 (grownCap w5 A1.size 0 5)).size, (bytesRow A1 (grownCap w5 A1.size 0 5)).size + 1))).drew = W6 at *
      generalize grownCap w5 A1.size 0 5 = cap6 at *
      generalize w5.heap.size = cb at *
      have K6 := HK6.out
      have c2 := K6.2.2.1 k hkL
      have c3 := K6.2.2.2 k hkL
      clear K6
      generalize hx : (fbs l)[k] = x at *
      have HX := Lib.hid hx
      clear hx
      go_region
      rw [xor_bit x j hj8]
      have hne := bit_ne x j hj8
      generalize x ^^^ UInt8.ofNat (2 ^ j) = x' at *
      have K7 : Kb w cb ((fbs l).set k x') ((W6.setCell ⟨cb, k, none⟩ (.int .u8 (x'.toNat : Int))).drew) := (HK6.out.store hcb k hkL x').drewN 1
      generalize (W6.setCell ⟨cb, k, none⟩ (.int .u8 (x'.toNat : Int))).drew = W7 at *
      have hcv7 := K7.conv A1.size cap6 (by rw [List.length_set, ← HZ.out])
      have h8 := fun W => ft_snd hg rest W (by omega) k x' (by rw [← HZ.out]; split <;> omega) hkL (by rw [HX.out]; exact hne)
      have H8 := Lib.hid h8
      have HK7 := Lib.hid K7
      clear h8 K7 HK6 c2 c3 hne HX
      have hs7 : (bs ((fbs l).set k x')).size ≤ 6000 := by rw [bs_size, List.length_set]; omega
      generalize bs ((fbs l).set k x') = S7 at *
      go_wp2_with fail
      (with_reducible refine (H8.out _).mono ?_)
      rintro e w8 ⟨a8, c8, rfl, r8, b8⟩
      clear r8
      have K8 := Lib.hid (HK7.out.call b8).1
      go_wp2_with fail
      go_ret
      exact ⟨rfl, K8.out⟩
    · have m1 := Int.emod_nonneg (p / 8) (b := (A1.size : Int) - 1) (by omega)
      have m2 := Int.emod_lt_of_pos (p / 8) (b := (A1.size : Int) - 1) (by omega)
      obtain ⟨q, hq⟩ : ∃ q : Nat, p / 8 % ((A1.size : Int) - 1) = (q : Int) := ⟨(p / 8 % ((A1.size : Int) - 1)).toNat, by omega⟩
      rw [hq] at m1 m2
      obtain ⟨k, hk⟩ : ∃ k : Nat, 1 + (q : Int) = (k : Int) := ⟨1 + q, by omega⟩
      have hk1 : k < A1.size := by omega
      have hk2 : 1 ≤ k := by omega
      obtain ⟨j, hj⟩ : ∃ j : Nat, p % 8 = (j : Int) := ⟨(p % 8).toNat, by omega⟩
      have hj8 : j < 8 := by omega
      have hkL : k < (fbs l).length := by rw [← HZ.out]; exact hk1
      have hcb : w.heap.size ≤ w5.heap.size := B5.out.size
      have K6 : Kb w w5.heap.size (fbs l) (w5.alloc (Obj.cells (bytesRow A1 (grownCap w5 A1.size 0 5)) 5 ((bytesRow A1 (grownCap w5 A1.size 0 5)).size, (bytesRow A1 (grownCap w5 A1.size 0 5)).size + 1))).drew := by
        have := Kb.made B5.out (fbs l) (grownCap w5 A1.size 0 5) (bytesRow A1 (grownCap w5 A1.size 0 5)).size ((bytesRow A1 (grownCap w5 A1.size 0 5)).size + 1) (by rw [HA.out]; exact Nat.le_refl _)
        rw [HA.out] at this
        exact this
      have HK6 := Lib.hid K6
      clear K6
      have hcv := HC.out w5
      go_wp2_with fail
      clear hcv
      generalize (w5.alloc (Obj.cells (bytesRow A1 (grownCap w5 A1.size 0 5)) 5 ((bytesRow A1 (grownCap w5 A1.size 0 5)).size, (bytesRow A1 (grownCap w5 A1.size 0 5)).size + 1))).drew = W6 at *
      generalize grownCap w5 A1.size 0 5 = cap6 at *
      generalize w5.heap.size = cb at *
      have K6 := HK6.out
      have c2 := K6.2.2.1 k hkL
      have c3 := K6.2.2.2 k hkL
      clear K6
      generalize hx : (fbs l)[k] = x at *
      have HX := Lib.hid hx
      clear hx
      go_region
      rw [xor_bit x j hj8]
      have hne := bit_ne x j hj8
      generalize x ^^^ UInt8.ofNat (2 ^ j) = x' at *
      have K7 : Kb w cb ((fbs l).set k x') ((W6.setCell ⟨cb, k, none⟩ (.int .u8 (x'.toNat : Int))).drew) := (HK6.out.store hcb k hkL x').drewN 1
      generalize (W6.setCell ⟨cb, k, none⟩ (.int .u8 (x'.toNat : Int))).drew = W7 at *
      have hcv7 := K7.conv A1.size cap6 (by rw [List.length_set, ← HZ.out])
      have h8 := fun W => ft_snd hg rest W (by omega) k x' (by rw [← HZ.out]; split <;> omega) hkL (by rw [HX.out]; exact hne)
      have H8 := Lib.hid h8
      have HK7 := Lib.hid K7
      clear h8 K7 HK6 c2 c3 hne HX
      have hs7 : (bs ((fbs l).set k x')).size ≤ 6000 := by rw [bs_size, List.length_set]; omega
      generalize bs ((fbs l).set k x') = S7 at *
      go_wp2_with fail
      (with_reducible refine (H8.out _).mono ?_)
      rintro e w8 ⟨a8, c8, rfl, r8, b8⟩
      clear r8
      have K8 := Lib.hid (HK7.out.call b8).1
      go_wp2_with fail
      go_ret
      exact ⟨rfl, K8.out⟩

theorem one_law (l : List Rc) (a : Option Addr) (cap : Nat) (rest : List UInt8) (p : Int) (w : World) (hl : l.length ≤ 9223372036854775807) (hr : Recs w a l) (hf : ∀ r ∈ l, Came r) (hb : rest.length ≤ 9223372036854775807) (hp : (Lit.int .i64 p).wf = true) :
    Calls Try.prog 5 #[.slice a l.length cap, .string (bs rest), .int .i64 p] w fun e w' => e = .returned (.bool true) ∧ Below w.heap.size w w' :=
  one_of l a cap rest p w hl hr (Came.all hf) hb (bounds_i64 hp).2

end Go.Proofs.Ytiglefkepoehoaa
