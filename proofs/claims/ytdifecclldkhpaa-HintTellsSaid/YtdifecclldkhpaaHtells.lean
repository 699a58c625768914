/- The walk of the law HintTells. -/
import Derived.Test.YtdifecclldkhpaaHawake
import Derived.Test.YtdifecclldkhpaaHopens
import Derived.Test.YtdifecclldkhpaaHto
import Derived.Test.YtdifecclldkhpaaHrefof
import Derived.Test.YtdifecclldkhpaaHrefat
namespace Go.Proofs.Ytdifecclldkhpaa
open Go.RowKit

theorem hof_few (b : List UInt8) (hb : b.length ≤ 1000000) : (hof 0 (fs b).1).length ≤ 16000000 := by
  obtain ⟨ll, n, h⟩ : ∃ ll n, fs b = (ll, n) := ⟨_, _, rfl⟩
  obtain ⟨hg, hn, hc⟩ := fs_ok h
  have h1 := cat_big ll hg
  have h2 := hof_small ll 0 hg
  have h3 := congrArg List.length hc
  rw [List.length_append] at h3
  rw [h]
  show (hof 0 ll).length ≤ _
  omega

set_option maxRecDepth 100000 in
set_option maxHeartbeats 2000000 in
theorem tells_of (b : List UInt8) (x : Et) (w : World) (hx : EFit x) (hb : b.length ≤ 9223372036854775807) :
    Calls Try.prog 4 #[.string (bs b), ev x] w fun e w' => e = .returned (.bool true) ∧ Below w.heap.size w w' := by
  have zb : (bs b).size ≤ 9223372036854775807 := by rw [bs_size]; exact hb
  have hbz := bs_size b
  have zk : (bs x.k).size ≤ 9223372036854775807 := by rw [bs_size]; exact hx.1
  have K0 := Lib.hid (Box.made w (.cells #[.string (bs x.k), .int .i64 x.o, .int .i64 x.l, .int .u64 ((x.q : Nat) : Int), .bool x.g] 39))
  have h5 := fun W => hat_any b x W hx
  have h6 := fun W => refhat_any b x W hx
  rw [hatV] at h5 h6
  simp only [ev, rv] at h5 h6 ⊢
  generalize hK : bs x.k = K at *
  clear hK hx
  generalize x.o = O at *
  generalize x.l = L at *
  generalize ((x.q : Nat) : Int) = Q at *
  generalize x.g = G at *
  generalize hat b x = ans at *
  have H5 := Lib.hid h5
  have H6 := Lib.hid h6
  clear h5 h6
  go_enter Try.func4, Try.ntmps4
  go_wp2_with fail
  refine (awake_any _).mono ?_
  rintro e w1 ⟨rfl, b1⟩
  have K1 := K0.out.call b1
  obtain ⟨_, c0, c1, c2, c3, c4⟩ := Box5.cells K1
  have K1 := Lib.hid K1
  clear b1 K0
  by_cases c : 4000 < (bs b).size
  · go_wp2_with fail
    go_ret
    exact ⟨rfl, K1.out.1⟩
  by_cases ck : 100 < K.size
  · go_wp2_with fail
    go_ret
    exact ⟨rfl, K1.out.1⟩
  have z2 : b.length ≤ 1000000 := by omega
  have h1 := fun W => hof_any b W z2
  have h2 := fun W => refhof_any b W z2
  have hm := hof_few b z2
  obtain ⟨m, hmm⟩ : ∃ m, m = hof 0 (fs b).1 := ⟨_, rfl⟩
  rw [← hmm] at h1 h2 hm
  generalize (fs b).2 = n at *
  clear hmm z2
  have H1 := Lib.hid h1
  have H2 := Lib.hid h2
  have H3 := Lib.hid (fun W a2 cap2 (hW : EntsIn W a2 m) => to_any m a2 cap2 W (by omega) hW)
  have H4 := Lib.hid (fun W a b c c' h1 h2 => esame_yes m a b c c' W (by omega) h1 h2)
  clear h1 h2
  go_wp2_with fail
  (with_reducible refine (H1.out _).mono ?_)
  rintro e w2 ⟨a2, p2, rfl, r2, b2⟩
  have R2 := Lib.hid r2
  have K2 := Lib.hid (K1.out.call b2)
  clear b2 r2 K1 c0 c1 c2 c3 c4
  go_wp2_with fail
  (with_reducible refine (H2.out _).mono ?_)
  rintro e w3 ⟨a3, p3, rfl, r3, b3⟩
  have R3 := Lib.hid r3
  have R2 := Lib.hid (R2.out.later b3 (Nat.le_refl _))
  have K3 := K2.out.call b3
  obtain ⟨_, c0, c1, c2, c3, c4⟩ := Box5.cells K3
  have K3 := Lib.hid K3
  clear b3 r3 K2
  go_wp2_with fail
  (with_reducible refine (H5.out _).mono ?_)
  rintro e w4 ⟨rfl, b4⟩
  have R3 := Lib.hid (R3.out.later b4 (Nat.le_refl _))
  have R2 := Lib.hid (R2.out.later b4 (Nat.le_refl _))
  have K4 := K3.out.call b4
  obtain ⟨_, c0', c1', c2', c3', c4'⟩ := Box5.cells K4
  have hz4 := K4.2.1
  have K4 := Lib.hid K4
  have A4 := Lib.hid (Box.made w4 (.cells #[.int .u64 ((ans.1.q : Nat) : Int), .string (bs ans.1.k), .string (bs ans.1.v), .bool ans.1.g] 45))
  clear b4 K3 c0 c1 c2 c3 c4
  generalize ((ans.1.q : Nat) : Int) = q1 at *
  generalize bs ans.1.k = k1 at *
  generalize bs ans.1.v = v1 at *
  generalize ans.1.g = g1 at *
  generalize ((ans.2 : Nat) : Int) = f1 at *
  go_wp2_with fail
  (with_reducible refine (H6.out _).mono ?_)
  rintro e w5 ⟨rfl, b5⟩
  have al : Below w4.heap.size w4 (w4.alloc (.cells #[.int .u64 q1, .string k1, .string v1, .bool g1] 45)) := (Below.refl _ _).alloc (Nat.le_refl _) _
  have R3 := Lib.hid ((R3.out.later al (Nat.le_refl _)).later b5 (Nat.le_refl _))
  have R2 := Lib.hid ((R2.out.later al (Nat.le_refl _)).later b5 (Nat.le_refl _))
  have K5 := Lib.hid ((K4.out.call al).call b5)
  have A5 := Lib.hid (A4.out.call b5)
  have al2 : Below w5.heap.size w5 (w5.alloc (.cells #[.int .u64 q1, .string k1, .string v1, .bool g1] 45)) := (Below.refl _ _).alloc (Nat.le_refl _) _
  have R3 := Lib.hid (R3.out.later al2 (Nat.le_refl _))
  have R2 := Lib.hid (R2.out.later al2 (Nat.le_refl _))
  have K5 := Lib.hid (K5.out.call al2)
  have A5 := Lib.hid (A5.out.call al2)
  have D5 := Lib.hid (Box.made w5 (.cells #[.int .u64 q1, .string k1, .string v1, .bool g1] 45))
  clear b5 al al2 K4 A4 c0' c1' c2' c3' c4'
  go_wp2_with fail
  (with_reducible refine (H3.out _ _ _ R2.out).mono ?_)
  rintro e w6 ⟨a6, p6, rfl, r6, b6⟩
  have R6 := Lib.hid r6
  have R3 := Lib.hid (R3.out.later b6 (Nat.le_refl _))
  have K6 := Lib.hid (K5.out.call b6)
  have A6 := Lib.hid (A5.out.call b6)
  have D6 := Lib.hid (D5.out.call b6)
  clear b6 r6 K5 A5 D5 R2
  go_wp2_with fail
  (with_reducible refine (H4.out _ _ _ _ _ R6.out R3.out).mono ?_)
  rintro e w7 ⟨rfl, b7⟩
  have K7 := Lib.hid (K6.out.call b7)
  have A7 : Box4 w4 _ _ _ _ w7 := A6.out.call b7
  have D7 : Box4 w5 _ _ _ _ w7 := D6.out.call b7
  obtain ⟨_, c0, c1, c2, c3⟩ := Box4.cells A7
  obtain ⟨_, d0, d1, d2, d3⟩ := Box4.cells D7
  clear b7 K6 A6 D6 R6 R3 A7 D7
  generalize w4.heap.size = r4 at *
  generalize w5.heap.size = r5 at *
  go_wp2_with fail
  go_ret
  exact ⟨rfl, K7.out.1⟩

theorem tells_law (b : List UInt8) (x : Et) (w : World) (hb : b.length ≤ 9223372036854775807) (hc : ECame x) :
    Calls Try.prog 4 #[.string (bs b), ev x] w fun e w' => e = .returned (.bool true) ∧ Below w.heap.size w w' :=
  tells_of b x w hc.fit hb

end Go.Proofs.Ytdifecclldkhpaa
