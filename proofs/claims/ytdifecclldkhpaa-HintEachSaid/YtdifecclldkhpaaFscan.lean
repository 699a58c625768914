/- What the call Scan of package frame returns. -/
import Derived.Test.YtdifecclldkhpaaFtake
import Derived.WalkMore
import Derived.ScopeJumps
namespace Go.Proofs.Ytdifecclldkhpaa
open Go.RowKit

/-- The slices of a list of batches: each has its batch's records. -/
def Rows2 (w : World) (vs : List Value) (ll : List (List Rc)) : Prop :=
  vs.length = ll.length ∧ ∀ i (h : i < ll.length), ∃ a cap, vs[i]? = some (.slice a ll[i].length cap) ∧ RecsT w a ll[i]

theorem Rows2.nil (w : World) : Rows2 w [] [] := ⟨rfl, fun i h => by simp at h⟩
theorem Rows2.later {w w' : World} {vs : List Value} {ll : List (List Rc)} (h : Rows2 w vs ll) {B : Nat} (hb : Below B w w') (hB : w.heap.size ≤ B) : Rows2 w' vs ll :=
  ⟨h.1, fun i hi => by obtain ⟨a, cap, h1, h2⟩ := h.2 i hi; exact ⟨a, cap, h1, h2.later hb hB⟩⟩
theorem Rows2.snoc {w : World} {vs : List Value} {ll : List (List Rc)} (h : Rows2 w vs ll) {a : Option Addr} {cap : Nat} {l : List Rc} (hl : RecsT w a l) : Rows2 w (vs ++ [.slice a l.length cap]) (ll ++ [l]) := by
  refine ⟨by simp [h.1], fun i hi => ?_⟩
  by_cases e : i < ll.length
  · obtain ⟨a', cap', h1, h2⟩ := h.2 i e
    refine ⟨a', cap', ?_, ?_⟩
    · rw [List.getElem?_append_left (by rw [h.1]; exact e), List.getElem_append_left e]; exact h1
    · rw [List.getElem_append_left e]; exact h2
  · have : i = ll.length := by simp at hi; omega
    subst this
    refine ⟨a, cap, ?_, ?_⟩
    · rw [List.getElem?_append_right (by rw [h.1]; exact Nat.le_refl _), h.1]; simp
    · simpa using hl

/-- A block of records stays where an own row of slices grows. -/
theorem RecsT.grown {w w' : World} {a : Option Addr} {l : List Rc} (h : RecsT w a l) {base n : Nat} {v : Value} {xs : List Value} (ho : w.ownsRow base 53 1 v n xs) (hg : w.grownBy w' v.ownBlock) : RecsT w' a l := by
  have key : ∀ ad, a = some ad → w'.heap[ad.block]? = w.heap[ad.block]? := fun ad e => by
    obtain ⟨cs, z, hh⟩ := h.2 ad e
    refine hg.block _ (h.2.lt e) ?_
    intro e2
    rcases ho.2 with ⟨rfl, _⟩ | ⟨g, cap, cur, rfl, _, hgg, _⟩
    · cases e2
    · simp [Value.ownBlock] at e2
      rw [e2, hgg] at hh
      injection hh with hh
      injection hh with _ hh
      exact absurd hh (by decide)
  refine ⟨fun h0 => ?_, fun ad e => ?_⟩
  · obtain ⟨b, off, e, hlt, hc⟩ := h.1 h0
    have hk := key _ e
    refine ⟨b, off, e, Nat.lt_of_lt_of_le hlt hg.size, fun i hi => ?_⟩
    obtain ⟨c0, c1, c2, c3⟩ := hc i hi
    have hk' : ∀ o, w'.cell? ⟨b, o, none⟩ = w.cell? ⟨b, o, none⟩ := fun o => World.cell?_of_block (a := ⟨b, o, none⟩) hk
    exact ⟨(hk' _).trans c0, (hk' _).trans c1, (hk' _).trans c2, (hk' _).trans c3⟩
  · obtain ⟨cs, z, hh⟩ := h.2 ad e
    exact ⟨cs, z, by rw [key ad e]; exact hh⟩

theorem Rows2.grown {w w' : World} {vs : List Value} {ll : List (List Rc)} (h : Rows2 w vs ll) {base n : Nat} {v : Value} {xs : List Value} (ho : w.ownsRow base 53 1 v n xs) (hg : w.grownBy w' v.ownBlock) : Rows2 w' vs ll :=
  ⟨h.1, fun i hi => by obtain ⟨a, cap, h1, h2⟩ := h.2 i hi; exact ⟨a, cap, h1, h2.grown ho hg⟩⟩

/-- A slice of batches in memory. -/
def Bats (w : World) (a : Option Addr) (ll : List (List Rc)) : Prop :=
  0 < ll.length → ∃ b off, a = some ⟨b, off, none⟩ ∧ b < w.heap.size ∧ ∀ i (h : i < ll.length), ∃ a' cap', w.cell? ⟨b, off + i, none⟩ = some (.slice a' ll[i].length cap') ∧ Recs w a' ll[i]

theorem Bats.later {w w' : World} {a : Option Addr} {ll : List (List Rc)} (h : Bats w a ll) {B : Nat} (hb : Below B w w') (hB : w.heap.size ≤ B) : Bats w' a ll := by
  intro h0
  obtain ⟨b, off, e, hlt, hc⟩ := h h0
  refine ⟨b, off, e, Nat.lt_of_lt_of_le hlt hb.size, fun i hi => ?_⟩
  obtain ⟨a', cap', c, hr⟩ := hc i hi
  exact ⟨a', cap', (hb.cell (p := ⟨b, _, none⟩) (by show b < B; omega)).trans c, hr.later hb hB⟩

theorem owns_bats {w : World} {base : Nat} {v : Value} {vs : List Value} {ll : List (List Rc)} (h : w.ownsRow base 53 1 v ll.length vs) (hr : Rows2 w vs ll) : ∃ a cap, v = .slice a ll.length cap ∧ Bats w a ll := by
  have hl := h.lt
  have hc := fun g hg => h.cells (g := g) hg
  rcases h.2 with ⟨rfl, h0⟩ | ⟨g, cap, cur, rfl, hbg, hg, rest⟩
  · exact ⟨none, 0, by rw [h0], fun h1 => by omega⟩
  · refine ⟨_, cap, rfl, fun _ => ⟨g, 0, rfl, (hl g rfl).2, fun i hi => ?_⟩⟩
    obtain ⟨a', cap', h1, h2⟩ := hr.2 i hi
    have := hc g rfl i _ h1
    rw [show (⟨g, 0, none⟩ : Addr).add i = ⟨g, 0 + i, none⟩ from by simp [Addr.add]; try omega] at this
    exact ⟨a', cap', this, h2.1⟩

/-- What Scan leaves. -/
def FsPost (w : World) (x : List (List Rc) × Nat) (e : Ending) (w' : World) : Prop :=
  ∃ a cap, e = .returned (.tuple #[.slice a x.1.length cap, .int .i64 ((x.2 : Nat) : Int)]) ∧ Bats w' a x.1 ∧ Below w.heap.size w w'

theorem infoSlice : (Try.prog.info? 53).map (fun i => (i.zero, i.size, i.bytes)) = some (some (.slice none 0 0), 1, 24) := by kernel_rfl

theorem ext_of (b : List UInt8) (k : Nat) : (bs b).extract k (bs b).size = bs (b.drop k) := by rw [ext_from, bs_list]

theorem cell_one_new (w : World) (c0 : Value) (t : TypeId) : ∀ j u, [c0][j]? = some u → (w.alloc (.cells #[c0] t)).cell? ((⟨w.heap.size, 0, none⟩ : Addr).add j) = some u := by
  intro j u hu
  rw [show (⟨w.heap.size, 0, none⟩ : Addr).add j = ⟨w.heap.size, j, none⟩ from by simp [Addr.add]; omega, World.cell?_alloc_mark]
  simpa using hu

set_option maxRecDepth 100000 in
set_option maxHeartbeats 1000000 in
theorem fscan_any (b : List UInt8) (w : World) (hb : b.length ≤ 1000000) :
    Calls Try.prog 37 #[.string (bs b)] w (FsPost w (fs b)) := by
  obtain ⟨i0, hi, hz0, hz1, hz2⟩ := info_parts infoSlice
  have HI := Lib.hid (And.intro hi (And.intro hz0 (And.intro hz1 hz2)))
  clear hi hz0 hz1 hz2
  have hB := bs_size b
  have HX := Lib.hid (fun k => ext_of b k)
  generalize bs b = B at *
  have HB := Lib.hid hB
  rw [← hB] at hb
  clear hB
  go_enter Try.func37, Try.ntmps37
  go_wp2_with fail
  go_step3
  go_wp2_with fail
  go_step3
  go_wp2_with fail
  go_loopw [4, 5] (fun v i wr => ∃ (acc : List (List Rc)) (n k : Nat) (vs : List Value), i = .int .i64 k ∧ k ≤ B.size ∧ B.size - k < n ∧ acc.length ≤ k ∧ fsF n (b.drop k) acc k = fs b ∧ wr.ownsRow w.heap.size 53 1 v acc.length vs ∧ Rows2 wr vs acc ∧ Below w.heap.size w wr) (fun _ i _ => B.size - (intOf i).toNat)
  case atStart => exact ⟨[], b.length + 1, 0, [], rfl, by omega, by have := HB.out; omega, by simp, rfl, World.ownsRow_nil _ _ _ _, Rows2.nil _, Below.refl _ _⟩
  case round =>
    obtain ⟨acc, n, k, vs, rfl, hk, hn, hak, hr, hown, hrows, hbw⟩ := hrel
    obtain ⟨m, rfl⟩ : ∃ m, n = m + 1 := ⟨n - 1, by omega⟩
    have HR := Lib.hid hr
    have HO := Lib.hid hown
    have HV := Lib.hid hrows
    clear hr hown hrows
    by_cases hlt : k < B.size
    · have hlti : (k : Int) < (B.size : Int) := by omega
      have h1 := fun W => ftake_any (b.drop k) W (by rw [List.length_drop, ← HB.out]; omega)
      rw [← HX.out] at h1
      rcases ft_cases (b.drop k) with ⟨e, he, he4, h⟩ | ⟨l, j, h, hl, hj, hjl⟩
      · rw [h] at h1
        have H1 := Lib.hid h1
        have HE : Hid (fs b = (acc, k)) := Lib.hid (by rw [← HR.out, fsF_end h he])
        have hb0 : ((e : Int) == 0) = false := by rw [beq_eq_false_iff_ne]; omega
        clear h1 h
        go_wp2_with fail
        (with_reducible refine (H1.out _).mono ?_)
        rintro e w1 ⟨a1, cap1, rfl, r1, b1⟩
        obtain ⟨a, cap, rfl, hrec⟩ := owns_bats HO.out HV.out
        have HC := Lib.hid hrec
        clear hrec r1
        go_wp2_with fail
        (try rw [Exit.noGoto_ret])
        go_ret2
        exact ⟨a, cap, by rw [HE.out]; rfl, by rw [HE.out]; exact HC.out.later b1 (Nat.le_refl _), hbw.trans (b1.mono hbw.size)⟩
      · rw [h] at h1
        have H1 := Lib.hid h1
        have HN : Hid (fsF m (b.drop (k + j)) (acc ++ [l]) (k + j) = fs b) := Lib.hid (by rw [← HR.out, fsF_next h, List.drop_drop])
        rw [List.length_drop, ← HB.out] at hjl
        clear h1 h
        go_wp2_with fail
        (with_reducible refine (H1.out _).mono ?_)
        rintro e w1 ⟨a1, cap1, rfl, r1, b1⟩
        have hbz := hbw.size
        have hb1z := b1.size
        have R1 := Lib.hid r1
        have O1 := Lib.hid (owns_later HO.out b1)
        have V1 := Lib.hid (HV.out.later b1 (Nat.le_refl _))
        have B1 := Lib.hid (hbw.trans (b1.mono hbz))
        clear b1 HO HV hbw r1
        go_wp2_with (at_builtin; refine wpList_append_own _ rfl _ _ 51 rfl w.heap.size 53 i0 (.slice none 0 0) 1 24 Try.underlying51 HI.out.1 HI.out.2.1 HI.out.2.2.1 HI.out.2.2.2 rfl (by decide) _ _ _ rfl (O1.out.alloc _) ⟨w1.heap.size, 0, none⟩ 1 1 [.slice a1 l.length cap1] rfl rfl ?c1 (fun x hx => by simp at hx; rcases hx with rfl; rfl) (by unfold maxLen; omega) (by omega) (by simp; omega) ?_)
        case c1 => exact cell_one_new w1 _ _
        intro v' w3 hown' hgrow _
        have G1 : Hid (Rows2 w3 (vs ++ [.slice a1 l.length cap1]) (acc ++ [l])) := by
          have ha := (Below.refl w1.heap.size w1).alloc (Nat.le_refl _) (.cells #[.slice a1 l.length cap1] 53)
          exact Lib.hid ((((V1.out.later ha (Nat.le_refl _)).snoc (R1.out.later ha (Nat.le_refl _)))).grown (O1.out.alloc _) hgrow)
        have B3 : Hid (Below w.heap.size w w3) := Lib.hid (Below.grown (B1.out.alloc (by omega) _) hgrow (by simp; omega) (fun j hj => (O1.out.lt _ hj).1))
        have O3 := Lib.hid hown'
        clear hown' hgrow
        go_wp2_with fail
        go_roundw
        case rel => exact ⟨acc ++ [l], m, k + j, _, by go_num, by omega, by omega, by simp; omega, HN.out, by rw [List.length_append]; exact O3.out, G1.out, B3.out⟩
        case measure => simp [intOf]; omega
    · obtain rfl : k = B.size := by omega
      have HE : Hid (fs b = (acc, B.size)) := Lib.hid (by rw [← HR.out, List.drop_of_length_le (by rw [HB.out]; omega), fsF_nil])
      obtain ⟨a, cap, rfl, hrec⟩ := owns_bats HO.out HV.out
      have HC := Lib.hid hrec
      clear hrec
      go_wp2_with fail
      (try rw [Exit.noGoto_ret])
      go_ret2
      exact ⟨a, cap, by rw [HE.out]; rfl, by rw [HE.out]; exact HC.out, hbw⟩

end Go.Proofs.Ytdifecclldkhpaa
