/- Segments of a manifest in memory; which manifest may be, as the document tells it. -/
import Derived.Test.YtbefhnpmilcffaaDoorNmath
import Derived.Test.YtbefhnpmilcffaaDoorVrefs
import Derived.Deep.DeepCutAuto
import Derived.Deep.RegionHeld3
import Derived.Deep.QuietTactic
import Derived.BigQuiet
import Derived.Maps.AppendAt
namespace Go.Proofs.YtbefhnpmilcffaaDoor.J
open Go.RowKit
set_option linter.unusedVariables false

/-- The three cells of a segment. -/
def SgAt (w : World) (b off : Nat) (s : Sg) : Prop := w.cell? ⟨b, off, none⟩ = some (.int .i64 s.n) ∧ w.cell? ⟨b, off + 1, none⟩ = some (.int .i64 s.size) ∧ w.cell? ⟨b, off + 2, none⟩ = some (.int .u32 s.sum)
/-- A slice holds these segments. -/
def SgsIn (w : World) (a : Option Addr) (l : List Sg) : Prop := ∀ i (h : i < l.length), ∃ b off, a = some ⟨b, off, none⟩ ∧ b < w.heap.size ∧ SgAt w b (off + i * 3) l[i]
theorem SgsIn.at {w w' : World} {B : Nat} {a : Option Addr} {l : List Sg} (h : SgsIn w a l) (hb : Below B w w') (hB : w.heap.size ≤ B) (i : Nat) (o : Sg) (ho : l[i]? = some o) :
    ∃ b off, a = some ⟨b, off, none⟩ ∧ b < w.heap.size ∧ SgAt w' b (off + i * 3) o := by
  obtain ⟨hi, e⟩ := List.getElem?_eq_some_iff.1 ho
  subst e
  obtain ⟨b, off, h1, h2, c0, c1, c2⟩ := h i hi
  have hk : ∀ j, w'.cell? ⟨b, j, none⟩ = w.cell? ⟨b, j, none⟩ := fun j => hb.cell (p := ⟨b, j, none⟩) (Nat.lt_of_lt_of_le h2 hB)
  exact ⟨b, off, h1, h2, by rw [hk]; exact c0, by rw [hk]; exact c1, by rw [hk]; exact c2⟩
theorem SgsIn.later {w w' : World} {B : Nat} {a : Option Addr} {l : List Sg} (h : SgsIn w a l) (hb : Below B w w') (hB : w.heap.size ≤ B) : SgsIn w' a l := fun i hi => by
  obtain ⟨b, off, h1, h2, h3⟩ := h.at hb hB i l[i] (List.getElem?_eq_getElem hi)
  exact ⟨b, off, h1, Nat.lt_of_lt_of_le h2 hb.size, h3⟩
theorem SgsIn.nil (w : World) (a : Option Addr) : SgsIn w a [] := fun i h => by simp at h
/-- The cells of segments. -/
def sflat : List Sg → List Value
  | [] => []
  | s :: r => .int .i64 s.n :: .int .i64 s.size :: .int .u32 s.sum :: sflat r
theorem sflat_len : ∀ l : List Sg, (sflat l).length = l.length * 3
  | [] => rfl
  | s :: r => by simp only [sflat, List.length_cons, sflat_len r]; omega
theorem sflat_app : ∀ a b : List Sg, sflat (a ++ b) = sflat a ++ sflat b
  | [], b => rfl
  | s :: r, b => by simp [sflat, sflat_app r b]
theorem sflat_at : ∀ (l : List Sg) (i : Nat) (s : Sg), l[i]? = some s → (sflat l)[i * 3]? = some (.int .i64 s.n) ∧ (sflat l)[i * 3 + 1]? = some (.int .i64 s.size) ∧ (sflat l)[i * 3 + 2]? = some (.int .u32 s.sum)
  | [], _, _, h => by simp at h
  | x :: r, 0, s, h => by
    simp at h; subst h
    exact ⟨rfl, rfl, rfl⟩
  | x :: r, i + 1, s, h => by
    have := sflat_at r i s (by simpa using h)
    rw [show (i + 1) * 3 = i * 3 + 3 by omega]
    exact this
theorem owns_sgs {e : TypeId} {w : World} {B : Nat} {v : Value} {l : List Sg} (h : w.ownsRow B e 3 v l.length (sflat l)) : ∃ a cap, v = .slice a l.length cap ∧ SgsIn w a l := by
  rcases h.2 with ⟨rfl, h0⟩ | ⟨g, cap, cur, rfl, hB, hg, _⟩
  · have : l = [] := List.eq_nil_of_length_eq_zero h0
    subst this
    exact ⟨none, 0, rfl, SgsIn.nil _ _⟩
  · refine ⟨some ⟨g, 0, none⟩, cap, rfl, fun i hi => ⟨g, 0, rfl, (Array.getElem?_eq_some_iff.1 hg).1, ?_⟩⟩
    obtain ⟨q0, q1, q2⟩ := sflat_at l i l[i] (List.getElem?_eq_getElem hi)
    have hc : ∀ j, j < l.length * 3 → w.cell? ⟨g, j, none⟩ = (sflat l)[j]? := fun j hj => h.cellAt j hj
    refine ⟨?_, ?_, ?_⟩
    · rw [Nat.zero_add, hc _ (by omega)]; exact q0
    · rw [Nat.zero_add, hc _ (by omega)]; exact q1
    · rw [Nat.zero_add, hc _ (by omega)]; exact q2
/-- A manifest as a value. -/
def mfV (ver : Int) (a : Option Addr) (n cap : Nat) : Value := .agg #[.int .i64 ver, .slice a n cap]

theorem not_right {m : Mf} {i : Nat} (hi : i < m.segs.length) (h : ¬ okSg m.segs i) : right m = false := right_no (fun hr => h (hr.2.2 i hi))
set_option maxRecDepth 100000 in
set_option maxHeartbeats 2000000 in
theorem refright_any (m : Mf) (a : Option Addr) (cap : Nat) (w : World) (hin : SgsIn w a m.segs) (hl : m.segs.length ≤ 2000) :
    Calls Tryd.prog 15 #[mfV m.ver a m.segs.length cap] w fun e w' => e = .returned (.bool (right m)) ∧ Below w.heap.size w w' := by
  have hb0 : Below w.heap.size w (w.alloc (.cells #[.int .i64 m.ver, .slice a m.segs.length cap] 32)) := (Below.refl _ _).alloc (Nat.le_refl _) _
  have hn0 := heap_alloc_new w (.cells #[.int .i64 m.ver, .slice a m.segs.length cap] 32)
  obtain ⟨L, hL⟩ : ∃ L, L = m.segs.length := ⟨_, rfl⟩
  rw [← hL] at hb0 hn0 hl ⊢
  have HL := Lib.hid hL; have HI := Lib.hid hin; have HB := Lib.hid hb0; have HN := Lib.hid hn0
  clear hL hin hb0 hn0
  unfold mfV
  go_enter Tryd.func15, Tryd.ntmps15
  go_wp2_with fail
  generalize hW : w.alloc _ = w1 at *
  have hwl : w.heap.size < w1.heap.size := (Array.getElem?_eq_some_iff.1 HN.out).1
  clear hW
  go_loopg [3] L (fun g it wr => ∃ i : Nat, i + g = L ∧ it = .int .i64 i ∧ Sok m.segs i ∧ Below w1.heap.size w1 wr)
  case atStart => exact ⟨0, by omega, rfl, fun j hj => by omega, Below.refl _ _⟩
  case round =>
    obtain ⟨i, hi, rfl, hok, hb⟩ := hrel
    have hbz := hb.size
    have hcl := fun t => cell_of_row wr w.heap.size t _ _ (0, 0) (by rw [hb.block _ hwl]; exact HN.out)
    have c0 := hcl 0; have c1 := hcl 1
    simp only [List.getElem?_toArray, List.getElem?_cons_succ, List.getElem?_cons_zero] at c0 c1
    have HBW := Lib.hid (HB.out.trans (hb.mono HB.out.size))
    have HBB := Lib.hid hb; have HOK := Lib.hid hok
    clear hcl hb hok
    by_cases hlt : i < L
    · obtain ⟨s, hs⟩ : ∃ s, m.segs[i]? = some s := ⟨m.segs[i]'(by have := HL.out; omega), List.getElem?_eq_getElem _⟩
      obtain ⟨b, off, rfl, hbl, d0, d1, d2⟩ := HI.out.at HBW.out (Nat.le_refl _) i s hs
      have hba : Below wr.heap.size wr (wr.alloc (.cells #[.int .i64 s.n, .int .i64 s.size, .int .u32 s.sum] 48)) := (Below.refl _ _).alloc (Nat.le_refl _) _
      have HBA := Lib.hid hba
      have hna := heap_alloc_new wr (.cells #[.int .i64 s.n, .int .i64 s.size, .int .u32 s.sum] 48)
      clear hba
      go_wp2_with fail
      generalize hW2 : wr.alloc _ = w2 at *
      have hwr : wr.heap.size < w2.heap.size := (Array.getElem?_eq_some_iff.1 hna).1
      have hcl := fun t => cell_of_row w2 wr.heap.size t _ _ (0, 0) hna
      have e0 := hcl 0; have e1 := hcl 1; have e2 := hcl 2
      simp only [List.getElem?_toArray, List.getElem?_cons_succ, List.getElem?_cons_zero] at e0 e1 e2
      have c1 := (Below.cell (p := ⟨w.heap.size, 1, none⟩) HBA.out (by show w.heap.size < wr.heap.size; omega)).trans c1
      have HFIN : Hid (Below w.heap.size w w2) := Lib.hid (HBW.out.trans (HBA.out.mono HBW.out.size))
      have HF1 : Hid (Below w1.heap.size w1 w2) := Lib.hid (HBB.out.trans (HBA.out.mono HBB.out.size))
      have HS := Lib.hid hs
      clear hcl hna hW2 d0 d1 d2 hs
      by_cases hA : s.n < 0
      · have HNR := Lib.hid (not_right (m := m) (i := i) (by have := HL.out; omega) (fun h => by have := (h s HS.out).1; omega))
        go_quiet (fail)
        have hbq := HFIN.out.trans ((below_drewN (Below.refl w2.heap.size w2) nq).mono HFIN.out.size)
        generalize w2.drewN nq = w3 at *
        go_wp2_with fail
        go_ret
        exact ⟨by rw [HNR.out]; rfl, hbq⟩
      by_cases hB : 999999 < s.n
      · have HNR := Lib.hid (not_right (m := m) (i := i) (by have := HL.out; omega) (fun h => by have := (h s HS.out).1; omega))
        go_quiet (fail)
        have hbq := HFIN.out.trans ((below_drewN (Below.refl w2.heap.size w2) nq).mono HFIN.out.size)
        generalize w2.drewN nq = w3 at *
        go_wp2_with fail
        go_ret
        exact ⟨by rw [HNR.out]; rfl, hbq⟩
      by_cases hC : s.size < 0
      · have HNR := Lib.hid (not_right (m := m) (i := i) (by have := HL.out; omega) (fun h => by have := (h s HS.out).2.1; omega))
        go_quiet (fail)
        have hbq := HFIN.out.trans ((below_drewN (Below.refl w2.heap.size w2) nq).mono HFIN.out.size)
        generalize w2.drewN nq = w3 at *
        go_wp2_with fail
        go_ret
        exact ⟨by rw [HNR.out]; rfl, hbq⟩
      by_cases hD : 1048576 < s.size
      · have HNR := Lib.hid (not_right (m := m) (i := i) (by have := HL.out; omega) (fun h => by have := (h s HS.out).2.1; omega))
        go_quiet (fail)
        have hbq := HFIN.out.trans ((below_drewN (Below.refl w2.heap.size w2) nq).mono HFIN.out.size)
        generalize w2.drewN nq = w3 at *
        go_wp2_with fail
        go_ret
        exact ⟨by rw [HNR.out]; rfl, hbq⟩
      by_cases hi0 : i = 0
      · have hn1 : ¬ 0 < i := by omega
        have hn2 : ¬ (0 : Int) < (i : Int) := by omega
        have hn3 : decide ((0 : Int) < (i : Int)) = false := decide_eq_false hn2
        have HOKI : Hid (okSg m.segs i) := Lib.hid (fun s' hs' => by
          rw [HS.out] at hs'
          obtain rfl := Option.some.inj hs'
          exact ⟨by omega, by omega, fun h => by omega⟩)
        clear hi0
        have HNX := Lib.hid (Sok.succ.2 ⟨HOK.out, HOKI.out⟩ : Sok m.segs (i + 1))
        go_quiet (fail)
        have HBQ := Lib.hid (HF1.out.trans ((below_drewN (Below.refl w2.heap.size w2) nq).mono HF1.out.size))
        generalize w2.drewN nq = w3 at *
        go_wp2_with fail
        go_roundg (gk - 1)
        case measure => omega
        case rel => exact ⟨i + 1, by omega, by go_num, HNX.out, HBQ.out⟩
      · obtain ⟨p, hp⟩ : ∃ p, m.segs[i - 1]? = some p := ⟨m.segs[i - 1]'(by have := HL.out; omega), List.getElem?_eq_getElem _⟩
        obtain ⟨b', off', hb', _, p0, _, _⟩ := HI.out.at HFIN.out (Nat.le_refl _) (i - 1) p hp
        obtain ⟨rfl, rfl⟩ : b = b' ∧ off = off' := by simpa using hb'
        have hn1 : 0 < i := by omega
        have hn2 : (0 : Int) < (i : Int) := by omega
        have hn3 : decide ((0 : Int) < (i : Int)) = true := decide_eq_true hn2
        obtain ⟨j, hj⟩ : ∃ j, j = i - 1 := ⟨_, rfl⟩
        have hji : IntKind.i64.wrap ((i : Int) - 1) = (j : Int) := by rw [IntWalk.i64_in _ ⟨by omega, by omega⟩]; omega
        have hjL : j < L := by omega
        rw [← hj] at p0
        have HJ := Lib.hid hj; have HP := Lib.hid hp
        clear hi0 hj hp hb'
        by_cases hE : s.n ≤ p.n
        · have HNR := Lib.hid (not_right (m := m) (i := i) (by have := HL.out; omega) (fun h => by have := (h s HS.out).2.2 hn1 p HP.out; omega))
          go_quiet (fail)
          have hbq := HFIN.out.trans ((below_drewN (Below.refl w2.heap.size w2) nq).mono HFIN.out.size)
          generalize w2.drewN nq = w3 at *
          go_wp2_with fail
          go_ret
          exact ⟨by rw [HNR.out]; rfl, hbq⟩
        · have HOKI : Hid (okSg m.segs i) := Lib.hid (fun s' hs' => by
            rw [HS.out] at hs'
            obtain rfl := Option.some.inj hs'
            exact ⟨by omega, by omega, fun _ p' hp' => by
              rw [HP.out] at hp'
              obtain rfl := Option.some.inj hp'
              omega⟩)
          have HNX := Lib.hid (Sok.succ.2 ⟨HOK.out, HOKI.out⟩ : Sok m.segs (i + 1))
          go_quiet (fail)
          have HBQ := Lib.hid (HF1.out.trans ((below_drewN (Below.refl w2.heap.size w2) nq).mono HF1.out.size))
          generalize w2.drewN nq = w3 at *
          go_wp2_with fail
          go_roundg (gk - 1)
          case measure => omega
          case rel => exact ⟨i + 1, by omega, by go_num, HNX.out, HBQ.out⟩
    · obtain rfl : i = L := by omega
      by_cases h1 : 1 ≤ m.ver
      · by_cases h2 : m.ver ≤ 999999
        · by_cases h3 : (i : Int) ≤ 200
          · have HR := Lib.hid (right_iff.2 ⟨⟨h1, h2⟩, by have := HL.out; omega, by have := HOK.out; rw [← HL.out]; exact this⟩ : right m = true)
            go_wp2_with fail
            go_ret
            exact ⟨by rw [HR.out]; rfl, HBW.out⟩
          · have HR := Lib.hid (right_no (fun h => by have := h.2.1; have := HL.out; omega) : right m = false)
            go_wp2_with fail
            go_ret
            exact ⟨by rw [HR.out]; rfl, HBW.out⟩
        · have HR := Lib.hid (right_no (fun h => by have := h.1; omega) : right m = false)
          go_wp2_with fail
          go_ret
          exact ⟨by rw [HR.out]; rfl, HBW.out⟩
      · have HR := Lib.hid (right_no (fun h => by have := h.1; omega) : right m = false)
        go_wp2_with fail
        go_ret
        exact ⟨by rw [HR.out]; rfl, HBW.out⟩
end Go.Proofs.YtbefhnpmilcffaaDoor.J
