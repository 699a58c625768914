/- The manifest of bytes, as the document tells it. -/
import Derived.Test.YtbefhnpmilcffaaDoorNsame
import Derived.Test.YtbefhnpmilcffaaDoorNto
import Derived.Test.YtbefhnpmilcffaaDoorVreftake
namespace Go.Proofs.YtbefhnpmilcffaaDoor.J
open Go.RowKit
set_option linter.unusedVariables false
set_option linter.unusedSimpArgs false

theorem infoU64 : (Tryd.prog.info? 62).map (fun i => (i.zero, i.size, i.bytes)) = some (some (.int .u64 0), 1, 8) := by kernel_rfl
def nrow (l : List Nat) : List Value := l.map (fun (n : Nat) => Value.int .u64 (n : Int))
theorem nrow_len (l : List Nat) : (nrow l).length = l.length := List.length_map _
theorem nrow_snoc (l : List Nat) (n : Nat) : nrow (l ++ [n]) = nrow l ++ [.int .u64 (n : Int)] := by simp [nrow]
theorem nrow_at {l : List Nat} {i n : Nat} (h : l[i]? = some n) : (nrow l)[i]? = some (.int .u64 (n : Int)) := by unfold nrow; rw [List.getElem?_map, h]; rfl
def sLen : Value → Nat
  | .string b => b.size
  | _ => 0
theorem nrow_at' {w : World} {B : Nat} {e : TypeId} {a : Option Addr} {c : Nat} {l : List Nat} (h : w.ownsRow B e 1 (.slice a l.length c) l.length (nrow l)) (hl : 0 < l.length) : ∃ g, a = some ⟨g, 0, none⟩ ∧ B ≤ g ∧ g < w.heap.size ∧ ∀ (i n : Nat), l[i]? = some n → w.cell? ⟨g, i, none⟩ = some (.int .u64 (n : Int)) := by
  rcases h.2 with ⟨h0, h1⟩ | ⟨g, cap, cur, hv, hB, hg, _⟩
  · omega
  · cases hv
    refine ⟨g, rfl, hB, (Array.getElem?_eq_some_iff.1 hg).1, fun i n hin => ?_⟩
    rw [h.cellAt i (by have := (List.getElem?_eq_some_iff.1 hin).1; omega)]
    exact nrow_at hin
/-- What Read comes to. -/
def RdPost (w : World) (b : List UInt8) (e : Ending) (w' : World) : Prop :=
  ∃ a cap, e = .returned (.tuple #[mfV (mrd b).1.ver a (mrd b).1.segs.length cap, .int .i64 ((mrd b).2 : Nat)]) ∧ SgsIn w' a (mrd b).1.segs ∧ Below w.heap.size w w'

theorem bad_next {b : List UInt8} {D : List Nat} {rest r : List UInt8} {n e : Nat} (ho : (opn b).2 = true) (hD : ∀ x ∈ D, x < 4294967296) (he : (opn b).1 = puts D ++ rest) (hr : rest ≠ []) (ht : tk rest = (n, r, e)) (hb : e ≠ 0 ∨ 4294967296 ≤ n) : mrd b = (noMf, 2) := by
  rcases mrd_cases b with ⟨m, hm, _⟩ | ⟨h, _⟩ | ⟨_, h⟩
  · obtain ⟨n', r', h1, h2⟩ := read_next hm (fun x hx => by have := hD x hx; unfold M64; omega) he hr
    rw [ht] at h1
    simp only [Prod.mk.injEq] at h1
    omega
  · exact h
  · rw [ho] at h; cases h
theorem bad_few {b : List UInt8} {D : List Nat} (ho : (opn b).2 = true) (hD : ∀ x ∈ D, x < 4294967296) (he : (opn b).1 = puts D) (hl : D.length < 2) : mrd b = (noMf, 2) := by
  rcases mrd_cases b with ⟨m, hm, _⟩ | ⟨h, _⟩ | ⟨_, h⟩
  · have := read_all hm (fun x hx => by have := hD x hx; unfold M64; omega) he
    rw [← this] at hl
    unfold mnums at hl
    simp only [List.length_cons] at hl
    omega
  · exact h
  · rw [ho] at h; cases h
theorem trips_wf : ∀ (D : List Nat), (∀ x ∈ D, x < 4294967296) → ∀ s ∈ trips D, s.sum < 4294967296
  | a :: b :: c :: r, h, s, hs => by
    rw [trips, List.mem_cons] at hs
    rcases hs with rfl | hs
    · exact h c (by simp)
    · exact trips_wf r (fun x hx => h x (by simp [hx])) s hs
  | [], _, s, hs => by simp [trips] at hs
  | [_], _, s, hs => by simp [trips] at hs
  | [_, _], _, s, hs => by simp [trips] at hs
theorem trips_len : ∀ (D : List Nat), (trips D).length = D.length / 3
  | a :: b :: c :: r => by rw [trips, List.length_cons, trips_len r]; simp only [List.length_cons]; omega
  | [] => rfl
  | [_] => by simp [trips]
  | [_, _] => by simp [trips]
theorem trips_at : ∀ (D : List Nat) (j : Nat), j < D.length / 3 → ∃ x y z, D[3 * j]? = some x ∧ D[3 * j + 1]? = some y ∧ D[3 * j + 2]? = some z ∧ (trips D)[j]? = some ⟨x, y, z⟩
  | a :: b :: c :: r, 0, _ => ⟨a, b, c, rfl, rfl, rfl, rfl⟩
  | a :: b :: c :: r, j + 1, h => by
    simp only [List.length_cons] at h
    obtain ⟨x, y, z, h1, h2, h3, h4⟩ := trips_at r j (by omega)
    refine ⟨x, y, z, ?_, ?_, ?_, ?_⟩
    · rw [show 3 * (j + 1) = 3 * j + 3 by omega]; exact h1
    · rw [show 3 * (j + 1) + 1 = 3 * j + 1 + 3 by omega]; exact h2
    · rw [show 3 * (j + 1) + 2 = 3 * j + 2 + 3 by omega]; exact h3
    · rw [trips]; exact h4
  | [], _, h => by simp at h
  | [_], _, h => by simp at h
  | [_, _], _, h => by simp at h
/-- The end: the manifest of the numbers is b's, or there is none. -/
theorem end_yes {b : List UInt8} {D : List Nat} (hD : ∀ x ∈ D, x < 4294967296) (h : mbs (ofNums D) = (b, 0)) : mrd b = (ofNums D, 0) := by
  by_cases hr : Right (ofNums D)
  · rw [mbs_yes hr] at h
    simp only [Prod.mk.injEq, and_true] at h
    exact mrd_yes ⟨hr, fun s hs => trips_wf _ (fun x hx => hD x (List.mem_of_mem_drop hx)) s hs, h⟩
  · rw [mbs_no hr] at h
    simp at h
theorem end_no {b : List UInt8} {D : List Nat} (ho : (opn b).2 = true) (hD : ∀ x ∈ D, x < 4294967296) (he : (opn b).1 = puts D) (h : mbs (ofNums D) ≠ (b, 0)) : mrd b = (noMf, 2) := by
  rcases mrd_cases b with ⟨m, hm, _⟩ | ⟨h2, _⟩ | ⟨_, h2⟩
  · have := read_all hm (fun x hx => by have := hD x hx; unfold M64; omega) he
    rw [← this, ofNums_of hm.1, mbs_yes hm.1, hm.2.2] at h
    exact absurd rfl h
  · exact h2
  · rw [ho] at h2; cases h2

set_option maxRecDepth 100000 in
set_option maxHeartbeats 2000000 in
theorem refread_any (b : List UInt8) (w : World) (hb : b.length ≤ 5000) : Calls Tryd.prog 12 #[.string (bs b)] w (RdPost w b) := by
  obtain ⟨j0, hj0, hjz, hj1, hj2⟩ := info_parts infoU64
  have HJ := Lib.hid (And.intro hj0 (And.intro hjz (And.intro hj1 hj2)))
  obtain ⟨i0, hi, hz0, hz1, hz2⟩ := info_parts infoRefSeg
  have HINF := Lib.hid (And.intro hi (And.intro hz0 (And.intro hz1 hz2)))
  clear hi hz0 hz1 hz2 hj0 hjz hj1 hj2
  have HOP := Lib.hid (fun W => refopen_any (bs b) W (by rw [bs_size]; omega))
  rw [bs_list] at HOP
  go_enter Tryd.func12, Tryd.ntmps12
  go_wp2_with fail
  refine (HOP.out _).mono ?_
  rintro e w1 ⟨rfl, hb1⟩
  have hn0 := heap_alloc_new w (.cells #[.int .i64 0, .slice none 0 0] 32)
  have hb0 : Below w.heap.size w (w.alloc (.cells #[.int .i64 0, .slice none 0 0] 32)) := (Below.refl _ _).alloc (Nat.le_refl _) _
  have hn1 : w1.heap[w.heap.size]? = some (.cells #[.int .i64 0, .slice none 0 0] 32 (0, 0)) := by rw [hb1.block _ (by simp)]; exact hn0
  have hbw : Below w.heap.size w w1 := hb0.trans (hb1.mono hb0.size)
  have hwl : w.heap.size < w1.heap.size := (Array.getElem?_eq_some_iff.1 hn1).1
  have HN := Lib.hid hn1; have HBW := Lib.hid hbw
  clear hn0 hb0 hn1 hbw hb1
  obtain ⟨s0, o, hop⟩ : ∃ s0 o, opn b = (s0, o) := ⟨_, _, rfl⟩
  have HO1 : Hid ((opn b).1 = s0) := Lib.hid (by rw [hop]); have HO2 : Hid ((opn b).2 = o) := Lib.hid (by rw [hop])
  rw [show opnV b = .tuple #[.string (bs s0), .bool o] by unfold opnV; rw [hop]]
  have HS0 : Hid (s0.length ≤ 5000) := Lib.hid (by
    have : s0 = (opn b).1 := by rw [hop]
    rw [this]
    by_cases h4 : b.length < 4
    · rw [opn_short h4]; simp
    · by_cases e : four (sum (b.drop 4)) = b.take 4
      · rw [opn_yes h4 e]; simp; omega
      · rw [opn_no h4 e]; simp)
  clear hop
  cases o with
  | false =>
    have hcl := fun t => cell_of_row w1 w.heap.size t _ _ (0, 0) HN.out
    have c0 := hcl 0; have c1 := hcl 1
    simp only [List.getElem?_toArray, List.getElem?_cons_succ, List.getElem?_cons_zero] at c0 c1
    have fz : ∀ t, w1.frozen? ⟨w.heap.size, t, none⟩ = false := fun t => by simp only [World.frozen?, HN.out]; simp
    clear hcl
    go_wp2_with fail
    have g1 := heap_setCell_same w1 w.heap.size 0 _ _ (.int .i64 0) HN.out
    have g2 := heap_setCell_same _ w.heap.size 1 _ _ (.slice none 0 0) g1
    have hfin := (HBW.out.setCell (p := ⟨w.heap.size, 0, none⟩) (Nat.le_refl _) (.int .i64 0)).setCell (p := ⟨w.heap.size, 1, none⟩) (Nat.le_refl _) (.slice none 0 0)
    generalize World.setCell (World.setCell w1 _ _) _ _ = wf at *
    have hc3 := fun t => cell_of_row wf w.heap.size t _ _ (0, 0) g2
    have z0 := hc3 0; have z1 := hc3 1
    simp at z0 z1
    have HM := Lib.hid (mrd_sum HO2.out)
    refine bodyPost_ret (v := .tuple #[mfV 0 none 0 0, .int .i64 4]) (by simp [results, Tryd.results12, go_sem, z0, z1, mfV]) rfl ⟨none, 0, by rw [HM.out]; rfl, by rw [HM.out]; exact SgsIn.nil _ _, hfin⟩
  | true =>
    have hz1 : w.heap.size + 1 ≤ w1.heap.size := hwl
    go_wp2_with fail
    go_loopw [4, 6] (fun s v wr => ∃ (rest : List UInt8) (D : List Nat), s = .string (bs rest) ∧ (∀ x ∈ D, x < 4294967296) ∧ (opn b).1 = puts D ++ rest ∧ D.length + rest.length ≤ 5000 ∧ wr.ownsRow w1.heap.size 62 1 v D.length (nrow D) ∧ Below w1.heap.size w1 wr) (fun s _ _ => sLen s)
    case atStart => exact ⟨s0, [], rfl, fun x hx => by simp at hx, by rw [HO1.out]; rfl, by have := HS0.out; simpa using this, World.ownsRow_nil _ _ _ _, Below.refl _ _⟩
    case round =>
      obtain ⟨rest, D, rfl, hD, he, hdl, hown, hbr⟩ := hrel
      have hbz := hbr.size
      obtain ⟨va, vc, rfl⟩ := sform hown
      have hcl := fun t => cell_of_row wr w.heap.size t _ _ (0, 0) (by rw [hbr.block _ hwl]; exact HN.out)
      have c0 := hcl 0; have c1 := hcl 1
      simp only [List.getElem?_toArray, List.getElem?_cons_succ, List.getElem?_cons_zero] at c0 c1
      have hrb : wr.heap[w.heap.size]? = _ := (hbr.block _ hwl).trans HN.out
      have fz : ∀ t, wr.frozen? ⟨w.heap.size, t, none⟩ = false := fun t => by simp only [World.frozen?, hrb]; simp
      have HRB := Lib.hid hrb; have HD := Lib.hid hD; have HE := Lib.hid he; have HOW := Lib.hid hown; have HBR := Lib.hid hbr
      clear hcl hrb hD he hown hbr
      by_cases hr : rest = []
      · subst hr
        rw [List.append_nil] at HE
        by_cases hfew : D.length < 2
        · have HM := Lib.hid (bad_few HO2.out HD.out HE.out hfew)
          have q1 : (D.length : Int) < 2 := by omega
          have HB4 : Hid (Below w.heap.size w wr) := Lib.hid (HBW.out.trans (HBR.out.mono (Nat.le_of_lt hwl)))
          clear hfew
          generalize D.length = N at *
          go_wp2_with fail
          have g1 := heap_setCell_same wr w.heap.size 0 _ _ (.int .i64 0) HRB.out
          have g2 := heap_setCell_same _ w.heap.size 1 _ _ (.slice none 0 0) g1
          have hfin := ((HB4.out).setCell (p := ⟨w.heap.size, 0, none⟩) (Nat.le_refl _) (.int .i64 0)).setCell (p := ⟨w.heap.size, 1, none⟩) (Nat.le_refl _) (.slice none 0 0)
          generalize World.setCell (World.setCell wr _ _) _ _ = wf at *
          have hc3 := fun t => cell_of_row wf w.heap.size t _ _ (0, 0) g2
          have z0 := hc3 0; have z1 := hc3 1
          simp at z0 z1
          refine bodyPost_ret (v := .tuple #[mfV 0 none 0 0, .int .i64 2]) (by simp [results, Tryd.results12, go_sem, z0, z1, mfV]) rfl ⟨none, 0, by rw [HM.out]; rfl, by rw [HM.out]; exact SgsIn.nil _ _, hfin⟩
        · obtain ⟨g, rfl, hgB, hgl, hgc⟩ := nrow_at' HOW.out (by omega)
          obtain ⟨v0, hv0⟩ : ∃ v0, D[0]? = some v0 := ⟨D[0]'(by omega), List.getElem?_eq_getElem _⟩
          have hv9 : v0 < 4294967296 := HD.out v0 (List.mem_of_getElem? hv0)
          have d0 := hgc 0 v0 hv0
          have HGC := Lib.hid hgc
          have HV0 := Lib.hid hv0
          have HB4 : Hid (Below w.heap.size w wr) := Lib.hid (HBW.out.trans (HBR.out.mono (Nat.le_of_lt hwl)))
          have q1 : ¬ (D.length : Int) < 2 := by omega
          have q2 : IntKind.i64.wrap (v0 : Int) = (v0 : Int) := IntWalk.i64_in _ ⟨by omega, by omega⟩
          obtain ⟨N, hN⟩ : ∃ N, N = D.length := ⟨_, rfl⟩
          rw [← hN] at q1 hfew ⊢
          have HNN := Lib.hid hN
          have hN5 : N ≤ 5000 := by rw [hN]; simp at hdl; omega
          have hT3 := trips_len (D.drop 2)
          rw [List.length_drop, ← hN] at hT3
          have HT3 := Lib.hid hT3
          obtain ⟨T, hT⟩ : ∃ T, T = (N - 2) / 3 := ⟨_, rfl⟩
          have HTT := Lib.hid hT
          have hT9 : 3 * T ≤ N - 2 := by omega
          have hT8 : N - 2 < 3 * T + 3 := by omega
          clear hv0 hgc hN hT3 hT hdl
          go_wp2_with fail
          obtain ⟨w5, hw5⟩ : ∃ w5, w5 = wr.alloc (.cells #[.int .i64 (v0 : Int), .slice none 0 0] 32) := ⟨_, rfl⟩
          rw [← hw5]
          have hn5 : w5.heap[wr.heap.size]? = some (.cells #[.int .i64 (v0 : Int), .slice none 0 0] 32 (0, 0)) := by rw [hw5]; exact heap_alloc_new wr _
          have hb5 : Below wr.heap.size wr w5 := by rw [hw5]; exact (Below.refl _ _).alloc (Nat.le_refl _) _
          obtain ⟨tb, htb⟩ : ∃ tb, tb = wr.heap.size := ⟨_, rfl⟩
          rw [← htb] at hn5 ⊢
          have htl : tb < w5.heap.size := (Array.getElem?_eq_some_iff.1 hn5).1
          have hgt : g < tb := by omega
          have hwt : w.heap.size < tb := by omega
          have HN5 := Lib.hid hn5; have HB5 := Lib.hid hb5; have HTB := Lib.hid htb
          clear hw5 hn5 hb5 htb d0 c0 c1 fz q2
          generalize wr = w4 at *
          go_loopg [11] T (fun gq it wq => ∃ j k : Nat, j + gq = T ∧ it = .int .i64 (k : Int) ∧ k = 2 + 3 * j ∧ Toing w5 tb (v0 : Int) ((trips (D.drop 2)).take j) wq)
          case atStart => exact ⟨0, 2, by omega, rfl, by omega, ⟨_, HN5.out, World.ownsRow_nil _ _ _ _⟩, Turn.refl _ _⟩
          case round =>
            obtain ⟨j, k, hj, rfl, hk, hT⟩ := hrel
            have hts := hT.turn.size
            obtain ⟨u, hu, hrow⟩ := hT.out
            obtain ⟨ua, uc, rfl⟩ := sform hrow
            have hlen : ((trips (D.drop 2)).take j).length = j := by rw [List.length_take, HT3.out, ← HTT.out]; omega
            rw [hlen] at hrow hu
            have HLEN := Lib.hid hlen
            have hc1 := fun t => cell_of_row wr tb t _ _ (0, 0) hu
            have t0 := hc1 0; have t1 := hc1 1
            simp only [List.getElem?_toArray, List.getElem?_cons_succ, List.getElem?_cons_zero] at t0 t1
            have fz5 : ∀ t, wr.frozen? ⟨tb, t, none⟩ = false := fun t => by simp only [World.frozen?, hu]; simp
            have HV := Lib.hid hu; have HRW := Lib.hid hrow; have HT := Lib.hid hT
            have HGQ : Hid (∀ (i n : Nat), D[i]? = some n → wr.cell? ⟨g, i, none⟩ = some (.int .u64 (n : Int))) := Lib.hid (fun i n hin => by
              have h1 := HB5.out.block g hgl
              have h2 := HT.out.turn.block g (by omega) (by omega)
              rw [World.cell?_of_block (w := w4) (a := ⟨g, i, none⟩) (h2.trans h1)]
              exact HGC.out i n hin)
            clear hlen hc1 hu hrow hT
            by_cases hlt : j < T
            · obtain ⟨x, y, z, hx, hy, hz, htr⟩ := trips_at (D.drop 2) j (by rw [List.length_drop, ← HNN.out]; omega)
              rw [List.getElem?_drop] at hx hy hz
              rw [show 2 + 3 * j = k by omega] at hx
              rw [show 2 + (3 * j + 1) = k + 1 by omega] at hy
              rw [show 2 + (3 * j + 2) = k + 2 by omega] at hz
              have hx9 := HD.out x (List.mem_of_getElem? hx)
              have hy9 := HD.out y (List.mem_of_getElem? hy)
              have hz9 := HD.out z (List.mem_of_getElem? hz)
              have d0 := HGQ.out _ _ hx; have d1 := HGQ.out _ _ hy; have d2 := HGQ.out _ _ hz
              have HTK : Hid ((trips (D.drop 2)).take (j + 1) = (trips (D.drop 2)).take j ++ [⟨x, y, z⟩]) := Lib.hid (by rw [List.take_add_one, htr]; rfl)
              clear hx hy hz htr
              have hkN : k + 2 < N := by omega
              have hkN0 : k < N := by omega
              have hkN1 : k + 1 < N := by omega
              have hkc0 : (k : Int) < (N : Int) := by omega
              have hkc1 : (k : Int) + 1 < (N : Int) := by omega
              have hkc : (k : Int) + 2 < (N : Int) := by omega
              have HK := Lib.hid hk
              clear hk
              go_wp2_with fail
              have hnot : some tb ≠ (Value.slice ua j uc).ownBlock := fun e => by have := (HRW.out.lt tb e.symm).1; omega
              have m0 : ∀ W, Lw w5 wr W → W.cell? ⟨tb, 1, none⟩ = some (.slice ua j uc) := fun W hW => (Below.cell (p := ⟨tb, 1, none⟩) hW htl).trans t1
              have m2 : ∀ W, Lw w5 wr W → W.cell? ⟨g, k, none⟩ = some (.int .u64 (x : Int)) := fun W hW => (Below.cell (p := ⟨g, _, none⟩) hW (by show g < w5.heap.size; omega)).trans d0
              have m3 : ∀ W, Lw w5 wr W → W.cell? ⟨g, k + 1, none⟩ = some (.int .u64 (y : Int)) := fun W hW => (Below.cell (p := ⟨g, _, none⟩) hW (by show g < w5.heap.size; omega)).trans d1
              have m4 : ∀ W, Lw w5 wr W → W.cell? ⟨g, k + 2, none⟩ = some (.int .u64 (z : Int)) := fun W hW => (Below.cell (p := ⟨g, _, none⟩) hW (by show g < w5.heap.size; omega)).trans d2
              have r1 : IntKind.i64.wrap ((k : Int) + 1) = (k : Int) + 1 := IntWalk.i64_in _ ⟨by omega, by omega⟩
              have r2 : IntKind.i64.wrap ((k : Int) + 2) = (k : Int) + 2 := IntWalk.i64_in _ ⟨by omega, by omega⟩
              have r3 : (0 : Int) ≤ (k : Int) + 1 := by omega
              have r4 : (0 : Int) ≤ (k : Int) + 2 := by omega
              have r5 : ((k : Int) + 1).toNat = k + 1 := by omega
              have r6 : ((k : Int) + 2).toNat = k + 2 := by omega
              have r7 : IntKind.i64.wrap (x : Int) = (x : Int) := IntWalk.i64_in _ ⟨by omega, by omega⟩
              have r8 : IntKind.i64.wrap (y : Int) = (y : Int) := IntWalk.i64_in _ ⟨by omega, by omega⟩
              have r9 : IntKind.u32.wrap (z : Int) = (z : Int) := IntWalk.u32_in _ ⟨by omega, by omega⟩
              clear t0 d0 d1 d2
              refine wp_region_last (S := Lw w5 wr) (k := 23) (by kernel_rfl) rfl (by kernel_rfl) (by kernel_rfl) (by kernel_rfl) ?_
              have hHeld := (Below.refl w5.heap.size wr).drew
              refine wpAnyH_take (i := 0) (v := ?_) rfl (by kernel_rfl) (by kernel_rfl) (by kernel_rfl) (fun _ _ _ h => h) (Or.inl ⟨by rfl, ?_⟩) hHeld ?_
              rotate_left
              · intro W hSw
                go_simp
                try with_reducible rfl
              try simp only [Act.put, List.setIfInBounds_toArray, List.set_cons_zero, List.set_cons_succ]
              refine wpAnyH_take (i := 1) (v := ?_) rfl (by kernel_rfl) (by kernel_rfl) (by kernel_rfl) (fun _ _ _ h => h) (Or.inl ⟨by rfl, ?_⟩) hHeld ?_
              rotate_left
              · intro W hSw
                go_simp
                try with_reducible rfl
              try simp only [Act.put, List.setIfInBounds_toArray, List.set_cons_zero, List.set_cons_succ]
              refine wpAnyH_take (i := 2) (v := ?_) rfl (by kernel_rfl) (by kernel_rfl) (by kernel_rfl) (fun _ _ _ h => h) (Or.inl ⟨by rfl, ?_⟩) hHeld ?_
              rotate_left
              · intro W hSw
                go_simp
                try with_reducible rfl
              try simp only [Act.put, List.setIfInBounds_toArray, List.set_cons_zero, List.set_cons_succ]
              refine wpAnyH_take (i := 3) (v := ?_) rfl (by kernel_rfl) (by kernel_rfl) (by kernel_rfl) (fun _ _ _ h => h) (Or.inl ⟨by rfl, ?_⟩) hHeld ?_
              rotate_left
              · intro W hSw
                go_simp
                try with_reducible rfl
              try simp only [Act.put, List.setIfInBounds_toArray, List.set_cons_zero, List.set_cons_succ]
              refine wpAnyH_take (i := 4) (v := ?_) rfl (by kernel_rfl) (by kernel_rfl) (by kernel_rfl) (fun _ _ _ h => h) (Or.inl ⟨by rfl, ?_⟩) hHeld ?_
              rotate_left
              · intro W hSw
                go_simp
                try with_reducible rfl
              try simp only [Act.put, List.setIfInBounds_toArray, List.set_cons_zero, List.set_cons_succ]
              refine wpAnyH_take (i := 5) (v := ?_) rfl (by kernel_rfl) (by kernel_rfl) (by kernel_rfl) (fun _ _ _ h => h) (Or.inl ⟨by rfl, ?_⟩) hHeld ?_
              rotate_left
              · intro W hSw
                go_simp
                try with_reducible rfl
              try simp only [Act.put, List.setIfInBounds_toArray, List.set_cons_zero, List.set_cons_succ]
              refine wpAnyH_take (i := 6) (v := ?_) rfl (by kernel_rfl) (by kernel_rfl) (by kernel_rfl) (fun _ _ _ h => h) (Or.inl ⟨by rfl, ?_⟩) hHeld ?_
              rotate_left
              · intro W hSw
                go_simp
                try with_reducible rfl
              try simp only [Act.put, List.setIfInBounds_toArray, List.set_cons_zero, List.set_cons_succ]
              refine wpAnyH_take (i := 7) (v := ?_) rfl (by kernel_rfl) (by kernel_rfl) (by kernel_rfl) (fun _ _ _ h => h) (Or.inl ⟨by rfl, ?_⟩) hHeld ?_
              rotate_left
              · intro W hSw
                go_simp
                try with_reducible rfl
              try simp only [Act.put, List.setIfInBounds_toArray, List.set_cons_zero, List.set_cons_succ]
              refine wpAnyH_take (i := 8) (v := ?_) rfl (by kernel_rfl) (by kernel_rfl) (by kernel_rfl) (fun _ _ _ h => h) (Or.inl ⟨by rfl, ?_⟩) hHeld ?_
              rotate_left
              · intro W hSw
                go_simp
                try with_reducible rfl
              try simp only [Act.put, List.setIfInBounds_toArray, List.set_cons_zero, List.set_cons_succ]
              refine wpAnyH_take (i := 9) (v := ?_) rfl (by kernel_rfl) (by kernel_rfl) (by kernel_rfl) (fun _ _ _ h => h) (Or.inl ⟨by rfl, ?_⟩) hHeld ?_
              rotate_left
              · intro W hSw
                go_simp
                try with_reducible rfl
              try simp only [Act.put, List.setIfInBounds_toArray, List.set_cons_zero, List.set_cons_succ]
              refine wpAnyH_take (i := 10) (v := ?_) rfl (by kernel_rfl) (by kernel_rfl) (by kernel_rfl) (fun _ _ _ h => h) (Or.inl ⟨by rfl, ?_⟩) hHeld ?_
              rotate_left
              · intro W hSw
                go_simp
                try with_reducible rfl
              try simp only [Act.put, List.setIfInBounds_toArray, List.set_cons_zero, List.set_cons_succ]
              refine wpAnyH_take (i := 11) (v := ?_) rfl (by kernel_rfl) (by kernel_rfl) (by kernel_rfl) (fun _ _ _ h => h) (Or.inl ⟨by rfl, ?_⟩) hHeld ?_
              rotate_left
              · intro W hSw
                go_simp
                try with_reducible rfl
              try simp only [Act.put, List.setIfInBounds_toArray, List.set_cons_zero, List.set_cons_succ]
              refine wpAnyH_take (i := 12) (v := ?_) rfl (by kernel_rfl) (by kernel_rfl) (by kernel_rfl) (fun _ _ _ h => h) (Or.inl ⟨by rfl, ?_⟩) hHeld ?_
              rotate_left
              · intro W hSw
                go_simp
                try with_reducible rfl
              try simp only [Act.put, List.setIfInBounds_toArray, List.set_cons_zero, List.set_cons_succ]
              refine wpAnyH_take (i := 13) (v := ?_) rfl (by kernel_rfl) (by kernel_rfl) (by kernel_rfl) (fun _ _ _ h => h) (Or.inl ⟨by rfl, ?_⟩) hHeld ?_
              rotate_left
              · intro W hSw
                go_simp
                try with_reducible rfl
              try simp only [Act.put, List.setIfInBounds_toArray, List.set_cons_zero, List.set_cons_succ]
              refine wpAnyH_take (i := 14) (v := ?_) rfl (by kernel_rfl) (by kernel_rfl) (by kernel_rfl) (fun _ _ _ h => h) (Or.inl ⟨by rfl, ?_⟩) hHeld ?_
              rotate_left
              · intro W hSw
                go_simp
                try with_reducible rfl
              try simp only [Act.put, List.setIfInBounds_toArray, List.set_cons_zero, List.set_cons_succ]
              refine wpAnyH_take (i := 15) (v := ?_) rfl (by kernel_rfl) (by kernel_rfl) (by kernel_rfl) (fun _ _ _ h => h) (Or.inl ⟨by rfl, ?_⟩) hHeld ?_
              rotate_left
              · intro W hSw
                go_simp
                try with_reducible rfl
              try simp only [Act.put, List.setIfInBounds_toArray, List.set_cons_zero, List.set_cons_succ]
              refine wpAnyH_take (i := 16) (v := ?_) rfl (by kernel_rfl) (by kernel_rfl) (by kernel_rfl) (fun _ _ _ h => h) (Or.inl ⟨by rfl, ?_⟩) hHeld ?_
              rotate_left
              · intro W hSw
                go_simp
                try with_reducible rfl
              try simp only [Act.put, List.setIfInBounds_toArray, List.set_cons_zero, List.set_cons_succ]
              refine wpAnyH_take (i := 17) (v := ?_) rfl (by kernel_rfl) (by kernel_rfl) (by kernel_rfl) (fun _ _ _ h => h) (Or.inl ⟨by rfl, ?_⟩) hHeld ?_
              rotate_left
              · intro W hSw
                go_simp
                try with_reducible rfl
              try simp only [Act.put, List.setIfInBounds_toArray, List.set_cons_zero, List.set_cons_succ]
              refine wpAnyH_take (i := 18) (v := ?_) rfl (by kernel_rfl) (by kernel_rfl) (by kernel_rfl) (fun _ _ _ h => h) (Or.inl ⟨by rfl, ?_⟩) hHeld ?_
              rotate_left
              · intro W hSw
                go_simp
                try with_reducible rfl
              try simp only [Act.put, List.setIfInBounds_toArray, List.set_cons_zero, List.set_cons_succ]
              refine wpAnyH_take (i := 19) (v := ?_) rfl (by kernel_rfl) (by kernel_rfl) (by kernel_rfl) (fun _ _ _ h => h) (Or.inl ⟨by rfl, ?_⟩) hHeld ?_
              rotate_left
              · intro W hSw
                go_simp
                try with_reducible rfl
              try simp only [Act.put, List.setIfInBounds_toArray, List.set_cons_zero, List.set_cons_succ]
              refine wpAnyH_ready (rs := [20]) (by kernel_rfl) (by simp) ?_
              refine AllReadyH.cons rfl (fun K hK => ?_) ?_
              · go_simp
                refine hK.out _ _ (by first | assumption | exact hHeld.alloc (by simp; omega) _) (fun hHeld => ?_)
                clear hK K
                try simp only [Act.put, List.setIfInBounds_toArray, List.set_cons_zero, List.set_cons_succ]
                refine wpAnyH_ready (rs := [21]) (by kernel_rfl) (by simp) ?_
                refine AllReadyH.cons rfl (fun K hK => ?_) ?_
                · refine step_append_lies _ rfl (.tmp 60) (.tmp 79) 30 (by rfl) w5.heap.size 48 i0 _ 3 24 Tryd.underlying30 HINF.out.1 HINF.out.2.1 HINF.out.2.2.1 HINF.out.2.2.2 rfl (by omega) (.slice ua j uc) j (sflat ((trips (D.drop 2)).take j)) (by rfl) (by first | exact (HRW.out.alloc _).drew | exact HRW.out.drew.alloc _ | exact HRW.out.alloc _) ⟨wr.heap.size, 0, none⟩ 1 1 [.int .i64 (x : Int), .int .i64 (y : Int), .int .u32 (z : Int)] (by rfl) (by rfl) (World.news_of_block (cs := #[.int .i64 (x : Int), .int .i64 (y : Int), .int .u32 (z : Int)]) (t := 48) (fr := (0, 0)) (heap_alloc_new wr _)) (by simp [Value.oneCell']) (by omega) (by unfold maxLen; omega) (by omega) (by simp; omega) _ rfl ?_
                  intro gg cap2 w6 hown6 hgrow hat hlt6
                  have hS6 : Lw w5 wr w6 := hHeld.grown hgrow (by simp; omega) (fun j hj => (HRW.out.lt j hj).1)
                  refine hK.out _ _ (by first | assumption | exact hHeld.alloc (by simp; omega) _) (fun hHeld => ?_)
                  clear hK K
                  try simp only [Act.put, List.setIfInBounds_toArray, List.set_cons_zero, List.set_cons_succ]
                  refine wpAnyH_take (i := 22) (v := ?_) rfl (by kernel_rfl) (by kernel_rfl) (by kernel_rfl) (fun _ _ _ h => h) (Or.inl ⟨by rfl, ?_⟩) hHeld ?_
                  rotate_left
                  · intro W hSw
                    go_simp
                    try with_reducible rfl
                  try simp only [Act.put, List.setIfInBounds_toArray, List.set_cons_zero, List.set_cons_succ]
                  refine wpAnyH_done (by kernel_rfl) ?_ _
                  have x1 := (hS6.cell (p := ⟨tb, 1, none⟩) htl).trans t1
                  have f1 := (hS6.frozen (p := ⟨tb, 1, none⟩) htl).trans (fz5 1)
                  unfold AtLast
                  refine wpOp_step rfl (fun K hK => ?_)
                  have HK := Lib.hid hK
                  clear hK
                  go_simp
                  refine HK.out _ _ ?_
                  clear HK K
                  have hnx := Toing.next (s := ⟨x, y, z⟩) HT.out.turn HV.out htl hnot hgrow hS6 hown6 HLEN.out
                  rw [← HTK.out] at hnx
                  have HNX := Lib.hid hnx
                  clear hnx x1 f1 hown6 hgrow hat hS6 hHeld m0 m2 m3 m4 r1 r2 r3 r4 r5 r6 r7 r8 r9
                  go_wp2_with fail
                  go_roundg (gk - 1)
                  case measure => omega
                  case rel => exact ⟨j + 1, k + 3, by omega, by go_num, by have := HK.out; omega, HNX.out⟩
                exact AllReadyH.nil
              exact AllReadyH.nil
            · obtain rfl : j = T := by omega
              have hall : (trips (D.drop 2)).take j = trips (D.drop 2) := List.take_of_length_le (by rw [HT3.out, ← HTT.out]; exact Nat.le_refl _)
              have hrow := HRW.out
              rw [hall] at hrow
              have hlen3 : (trips (D.drop 2)).length = j := by rw [HT3.out, ← HTT.out]
              obtain ⟨m, hm⟩ : ∃ m, m = ofNums D := ⟨_, rfl⟩
              have hmv : m.ver = (v0 : Int) := by rw [hm]; unfold ofNums; rw [HV0.out]; rfl
              have hms : m.segs = trips (D.drop 2) := by rw [hm]; rfl
              have hml : m.segs.length = j := by rw [hms, hlen3]
              rw [← hms] at hrow
              have hrow2 : wr.ownsRow w5.heap.size 48 3 (.slice ua j uc) m.segs.length (sflat m.segs) := by rw [hml]; exact hrow
              have HOW2 := Lib.hid hrow2
              obtain ⟨a2, cap2, e2, hsg⟩ := owns_sgs hrow2
              rw [hml] at e2
              obtain ⟨rfl, rfl⟩ : ua = a2 ∧ uc = cap2 := by simpa using e2
              have hwf : m.wf := fun s hs => by rw [hms] at hs; exact trips_wf _ (fun x hx => HD.out x (List.mem_of_mem_drop hx)) s hs
              have HBY := Lib.hid (refbytes_any m ua uc wr hsg (by rw [hml]; omega) hwf)
              rw [hml, hmv] at HBY
              unfold mfV at HBY
              have HSG := Lib.hid hsg
              have hrb5 : wr.heap[w.heap.size]? = some (.cells #[.int .i64 0, .slice none 0 0] 32 (0, 0)) := (HT.out.turn.block _ (by omega) (by omega)).trans ((HB5.out.block _ (by omega)).trans HRB.out)
              have HRB5 := Lib.hid hrb5
              have HB6 : Hid (Below w.heap.size w wr) := Lib.hid (HB4.out.trans ((HB5.out.mono (by omega)).trans (HT.out.turn.below (fun q hq => by have hq : q = tb := hq; omega) (by have := HB5.out.size; omega))))
              have hkc : ¬ ((k : Int) + 2 < (N : Int)) := by omega
              have hk9 : k ≤ 6000 := by omega
              have HEY : Hid (mbs m = (b, 0) → mrd b = (m, 0)) := Lib.hid (by rw [hm]; exact end_yes HD.out)
              have HEN : Hid (mbs m ≠ (b, 0) → mrd b = (noMf, 2)) := Lib.hid (by rw [hm]; exact end_no HO2.out HD.out HE.out)
              have HML := Lib.hid hml; have HMV := Lib.hid hmv
              clear hall hrow hlen3 hm hms hml hmv hrow2 e2 hsg hwf hrb5 hk
              go_wp2_with fail
              refine HBY.out.mono ?_
              rintro e w6 ⟨rfl, hb6⟩
              have HB66 := Lib.hid hb6
              have hr6 := (hb6.block _ (by have := HB6.out.size; omega)).trans HRB5.out
              have ht6 := (hb6.block _ (by omega)).trans HV.out
              have hcl := fun t => cell_of_row w6 w.heap.size t _ _ (0, 0) hr6
              have c0 := hcl 0; have c1 := hcl 1
              have hcl2 := fun t => cell_of_row w6 tb t _ _ (0, 0) ht6
              have k0 := hcl2 0; have k1 := hcl2 1
              simp only [List.getElem?_toArray, List.getElem?_cons_succ, List.getElem?_cons_zero] at c0 c1 k0 k1
              have fz : ∀ t, w6.frozen? ⟨w.heap.size, t, none⟩ = false := fun t => by simp only [World.frozen?, hr6]; simp
              have HR6 := Lib.hid hr6
              have HB7 : Hid (Below w.heap.size w w6) := Lib.hid (HB6.out.trans (hb6.mono HB6.out.size))
              have HSG6 : Hid (SgsIn w6 ua m.segs) := Lib.hid (HSG.out.later hb6 (Nat.le_refl _))
              clear hcl hcl2 hr6 ht6 t0 t1 fz5
              by_cases hend : mbs m = (b, 0)
              · have HM := Lib.hid (HEY.out hend)
                have h1 : (mbs m).1 = b := by rw [hend]
                have h2 : (mbs m).2 = 0 := by rw [hend]
                rw [h1, h2]
                have p1 : (((0 : Nat) : Int) != 0) = false := rfl
                have p2 : ((bs b).toList == (bs b).toList) = true := by simp
                clear hend h1 h2 hb6
                go_wp2_with fail
                have g1 := heap_setCell_same w6 w.heap.size 0 _ _ (.int .i64 (v0 : Int)) HR6.out
                have g2 := heap_setCell_same _ w.heap.size 1 _ _ (.slice ua j uc) g1
                have hfin := (HB7.out.setCell (p := ⟨w.heap.size, 0, none⟩) (Nat.le_refl _) (.int .i64 (v0 : Int))).setCell (p := ⟨w.heap.size, 1, none⟩) (Nat.le_refl _) (.slice ua j uc)
                have hsgf : SgsIn ((w6.setCell ⟨w.heap.size, 0, none⟩ (.int .i64 (v0 : Int))).setCell ⟨w.heap.size, 1, none⟩ (.slice ua j uc)) ua m.segs := by
                  have o6 := owns_kept HOW2.out (fun q hq => HB66.out.block q (HOW2.out.lt q hq).2)
                  have o7 := owns_kept o6 (fun q hq => by
                    have := (o6.lt q hq).1
                    show ((w6.setCell ⟨w.heap.size, 0, none⟩ (.int .i64 (v0 : Int))).setCell ⟨w.heap.size, 1, none⟩ (.slice ua j uc)).heap[q]? = w6.heap[q]?
                    rw [Below.heap_setCell _ _ _ _ (by show q ≠ w.heap.size; omega), Below.heap_setCell _ _ _ _ (by show q ≠ w.heap.size; omega)])
                  obtain ⟨a3, cap3, e3, hs3⟩ := owns_sgs o7
                  obtain ⟨rfl, _, _⟩ : ua = a3 ∧ j = m.segs.length ∧ uc = cap3 := by simpa using e3
                  exact hs3
                generalize World.setCell (World.setCell w6 _ _) _ _ = wf at *
                have hc3 := fun t => cell_of_row wf w.heap.size t _ _ (0, 0) g2
                have z0 := hc3 0; have z1 := hc3 1
                simp at z0 z1
                refine bodyPost_ret (v := .tuple #[mfV (v0 : Int) ua j uc, .int .i64 0]) (by simp [results, Tryd.results12, go_sem, z0, z1, mfV]) rfl ⟨ua, uc, by rw [HM.out, HML.out, HMV.out]; rfl, by rw [HM.out]; exact hsgf, hfin⟩
              · have HM := Lib.hid (HEN.out hend)
                by_cases h2 : (mbs m).2 = 0
                · have h1 : (mbs m).1 ≠ b := fun e => hend (by rw [← e, ← h2])
                  rw [h2]
                  have p1 : (((0 : Nat) : Int) != 0) = false := rfl
                  have p2 : ((bs (mbs m).1).toList == (bs b).toList) = false := by rw [bs_toList, bs_toList]; simpa using h1
                  clear hend h1 h2 hb6
                  generalize bs (mbs m).1 = C at *
                  go_wp2_with fail
                  have g1 := heap_setCell_same w6 w.heap.size 0 _ _ (.int .i64 0) HR6.out
                  have g2 := heap_setCell_same _ w.heap.size 1 _ _ (.slice none 0 0) g1
                  have hfin := ((HB7.out).setCell (p := ⟨w.heap.size, 0, none⟩) (Nat.le_refl _) (.int .i64 0)).setCell (p := ⟨w.heap.size, 1, none⟩) (Nat.le_refl _) (.slice none 0 0)
                  generalize World.setCell (World.setCell w6 _ _) _ _ = wf at *
                  have hc3 := fun t => cell_of_row wf w.heap.size t _ _ (0, 0) g2
                  have z0 := hc3 0; have z1 := hc3 1
                  simp at z0 z1
                  refine bodyPost_ret (v := .tuple #[mfV 0 none 0 0, .int .i64 2]) (by simp [results, Tryd.results12, go_sem, z0, z1, mfV]) rfl ⟨none, 0, by rw [HM.out]; rfl, by rw [HM.out]; exact SgsIn.nil _ _, hfin⟩
                · have p1 : (((mbs m).2 : Int) != 0) = true := by rw [bne_iff_ne]; omega
                  clear hend h2 hb6
                  generalize bs (mbs m).1 = C at *
                  generalize (((mbs m).2 : Nat) : Int) = E2 at *
                  go_wp2_with fail
                  have g1 := heap_setCell_same w6 w.heap.size 0 _ _ (.int .i64 0) HR6.out
                  have g2 := heap_setCell_same _ w.heap.size 1 _ _ (.slice none 0 0) g1
                  have hfin := ((HB7.out).setCell (p := ⟨w.heap.size, 0, none⟩) (Nat.le_refl _) (.int .i64 0)).setCell (p := ⟨w.heap.size, 1, none⟩) (Nat.le_refl _) (.slice none 0 0)
                  generalize World.setCell (World.setCell w6 _ _) _ _ = wf at *
                  have hc3 := fun t => cell_of_row wf w.heap.size t _ _ (0, 0) g2
                  have z0 := hc3 0; have z1 := hc3 1
                  simp at z0 z1
                  refine bodyPost_ret (v := .tuple #[mfV 0 none 0 0, .int .i64 2]) (by simp [results, Tryd.results12, go_sem, z0, z1, mfV]) rfl ⟨none, 0, by rw [HM.out]; rfl, by rw [HM.out]; exact SgsIn.nil _ _, hfin⟩
      · obtain ⟨n, r, ee, ht⟩ : ∃ n r ee, tk rest = (n, r, ee) := ⟨_, _, _, rfl⟩
        have HTK := Lib.hid (reftake_any (bs rest) wr (by rw [bs_size]; omega))
        rw [bs_list, show tkV rest = .tuple #[.int .u64 (n : Nat), .string (bs r), .int .i64 (ee : Nat)] by unfold tkV; rw [ht]] at HTK
        have hne : ¬ (bs rest).toList = [] := by rw [bs_toList]; exact hr
        have hsz : 0 < (bs rest).size := by rw [bs_size]; exact List.length_pos_iff.2 hr
        have hn64 : n < 18446744073709551616 := by
          rcases tk_cases rest with ⟨h1, _⟩ | h1 | ⟨n', r', h1, h2, _⟩
          · rw [ht] at h1; cases h1; omega
          · rw [ht] at h1; cases h1; omega
          · rw [ht] at h1; cases h1; exact h2
        by_cases he0 : ee = 0
        · by_cases hbig : 4294967296 ≤ n
          · have HM := Lib.hid (bad_next HO2.out HD.out HE.out hr ht (Or.inr hbig))
            have q1 : ((ee : Int) != 0) = false := by rw [he0]; rfl
            have q2 : (4294967295 : Int) < (n : Int) := by omega
            clear ht hr he0 hdl
            go_wp2_with fail
            refine HTK.out.mono ?_
            rintro e w4 ⟨rfl, hb4⟩
            have hr4 := (hb4.block _ (by omega)).trans HRB.out
            have hcl4 := fun t => cell_of_row w4 w.heap.size t _ _ (0, 0) hr4
            have c0 := hcl4 0; have c1 := hcl4 1
            simp only [List.getElem?_toArray, List.getElem?_cons_succ, List.getElem?_cons_zero] at c0 c1
            have fz : ∀ t, w4.frozen? ⟨w.heap.size, t, none⟩ = false := fun t => by simp only [World.frozen?, hr4]; simp
            have HR4 := Lib.hid hr4; have HB4 := Lib.hid (HBW.out.trans ((HBR.out.mono (Nat.le_of_lt hwl)).trans (hb4.mono (by omega))) : Below w.heap.size w w4)
            clear hcl4 hr4 hb4
            go_wp2_with fail
            have g1 := heap_setCell_same w4 w.heap.size 0 _ _ (.int .i64 0) HR4.out
            have g2 := heap_setCell_same _ w.heap.size 1 _ _ (.slice none 0 0) g1
            have hfin := ((HB4.out).setCell (p := ⟨w.heap.size, 0, none⟩) (Nat.le_refl _) (.int .i64 0)).setCell (p := ⟨w.heap.size, 1, none⟩) (Nat.le_refl _) (.slice none 0 0)
            generalize World.setCell (World.setCell w4 _ _) _ _ = wf at *
            have hc3 := fun t => cell_of_row wf w.heap.size t _ _ (0, 0) g2
            have z0 := hc3 0; have z1 := hc3 1
            simp at z0 z1
            refine bodyPost_ret (v := .tuple #[mfV 0 none 0 0, .int .i64 2]) (by simp [results, Tryd.results12, go_sem, z0, z1, mfV]) rfl ⟨none, 0, by rw [HM.out]; rfl, by rw [HM.out]; exact SgsIn.nil _ _, hfin⟩
          · subst he0
            obtain ⟨hn64', hrest⟩ : n < M64 ∧ rest = put n ++ r := by
              rcases tk_cases rest with ⟨h1, _⟩ | h1 | ⟨n', r', h1, h2, h3⟩
              · rw [ht] at h1; cases h1
              · rw [ht] at h1; cases h1
              · rw [ht] at h1; cases h1; exact ⟨h2, h3⟩
            have hpp := put_pos n
            have hrl : rest.length = (put n).length + r.length := by rw [hrest, List.length_append]
            have HD5 : Hid (∀ x ∈ D ++ [n], x < 4294967296) := Lib.hid (fun x hx => by
              rcases List.mem_append.1 hx with h | h
              · exact HD.out x h
              · rw [List.mem_singleton.1 h]; omega)
            have HE5 : Hid ((opn b).1 = puts (D ++ [n]) ++ r) := Lib.hid (by rw [HE.out, puts_append, hrest]; simp [puts])
            have q1 : (((0 : Nat) : Int) != 0) = false := rfl
            have q2 : ¬ (4294967295 : Int) < (n : Int) := by omega
            clear ht hr hn64' hrest
            go_wp2_with fail
            refine HTK.out.mono ?_
            rintro e w4 ⟨rfl, hb4⟩
            have hbz4 := hb4.size
            have HO4 := Lib.hid (owns_kept HOW.out (fun q hq => hb4.block q (HOW.out.lt q hq).2))
            have HB4 : Hid (Below w1.heap.size w1 w4) := Lib.hid (HBR.out.trans (hb4.mono hbz))
            clear hb4 c0 c1 fz
            go_wp2_with (at_builtin; refine wpList_append_own _ rfl _ _ 67 rfl w1.heap.size 62 j0 (.int .u64 0) 1 8 Tryd.underlying67 HJ.out.1 HJ.out.2.1 HJ.out.2.2.1 HJ.out.2.2.2 rfl (by decide) _ _ _ rfl (HO4.out.alloc _) ⟨w4.heap.size, 0, none⟩ 1 1 [.int .u64 (n : Int)] rfl rfl (cell_one_new _ _ _) (by simp [Value.oneCell']) (by unfold maxLen; omega) (by omega) (by simp; omega) ?_; intro v' w5 hown' hgrow _; have HB5 := Lib.hid (Below.grown (HB4.out.alloc (by omega) _) hgrow (by simp; omega) (fun j hj => (HO4.out.lt _ hj).1)); have HO5 := Lib.hid hown'; clear hown' hgrow)
            go_roundw
            case rel => exact ⟨r, D ++ [n], rfl, HD5.out, HE5.out, by rw [List.length_append, List.length_singleton]; omega, by rw [nrow_snoc, List.length_append]; exact HO5.out, HB5.out⟩
            case measure => simp only [sLen]; rw [bs_size, bs_size]; omega
        · have HM := Lib.hid (bad_next HO2.out HD.out HE.out hr ht (Or.inl he0))
          have q1 : ((ee : Int) != 0) = true := by rw [bne_iff_ne]; omega
          clear ht hr he0 hdl
          go_wp2_with fail
          refine HTK.out.mono ?_
          rintro e w4 ⟨rfl, hb4⟩
          have hr4 := (hb4.block _ (by omega)).trans HRB.out
          have hcl4 := fun t => cell_of_row w4 w.heap.size t _ _ (0, 0) hr4
          have c0 := hcl4 0; have c1 := hcl4 1
          simp only [List.getElem?_toArray, List.getElem?_cons_succ, List.getElem?_cons_zero] at c0 c1
          have fz : ∀ t, w4.frozen? ⟨w.heap.size, t, none⟩ = false := fun t => by simp only [World.frozen?, hr4]; simp
          have HR4 := Lib.hid hr4; have HB4 := Lib.hid (HBW.out.trans ((HBR.out.mono (Nat.le_of_lt hwl)).trans (hb4.mono (by omega))) : Below w.heap.size w w4)
          clear hcl4 hr4 hb4
          go_wp2_with fail
          have g1 := heap_setCell_same w4 w.heap.size 0 _ _ (.int .i64 0) HR4.out
          have g2 := heap_setCell_same _ w.heap.size 1 _ _ (.slice none 0 0) g1
          have hfin := ((HB4.out).setCell (p := ⟨w.heap.size, 0, none⟩) (Nat.le_refl _) (.int .i64 0)).setCell (p := ⟨w.heap.size, 1, none⟩) (Nat.le_refl _) (.slice none 0 0)
          generalize World.setCell (World.setCell w4 _ _) _ _ = wf at *
          have hc3 := fun t => cell_of_row wf w.heap.size t _ _ (0, 0) g2
          have z0 := hc3 0; have z1 := hc3 1
          simp at z0 z1
          refine bodyPost_ret (v := .tuple #[mfV 0 none 0 0, .int .i64 2]) (by simp [results, Tryd.results12, go_sem, z0, z1, mfV]) rfl ⟨none, 0, by rw [HM.out]; rfl, by rw [HM.out]; exact SgsIn.nil _ _, hfin⟩
end Go.Proofs.YtbefhnpmilcffaaDoor.J
