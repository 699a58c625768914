/- Merged out of 9 texts, in build order: Nmath, Nsegs, Nbytes, Nsame, Nto, Nread, Nnames, Nvars, Nwant. -/
import Derived.Test.YtkdidinekoaobaaGreatDoorVb
import Derived.Test.YtkdidinekoaobaaGreatDoorCb
import Derived.Test.YtkdidinekoaobaaGreatDoorBb
import Derived.Test.YtkdidinekoaobaaGreatDoorVc
import Derived.Deep.DeepCutAuto
import Derived.Deep.RegionHeld3
import Derived.Deep.QuietTactic
import Derived.BigQuiet
import Derived.Maps.AppendAt
import Derived.Deep.AppendLies
import Derived.Lib.LaidTab
import Derived.Lib.ItoaNum
import Derived.Lib.AtoiErrMem

/- Plain facts of manifests: which may be, their bytes, the manifest of bytes; names in six digits. Nothing of the program is used here. -/
namespace Go.Proofs.YtkdidinekoaobaaGreatDoor.J
set_option linter.unusedVariables false

/-- What is known of a segment. -/
structure Sg where
  n : Int
  size : Int
  sum : Nat
deriving DecidableEq
/-- A manifest. -/
structure Mf where
  ver : Int
  segs : List Sg
deriving DecidableEq
def Mf.wf (m : Mf) : Prop := ∀ s ∈ m.segs, s.sum < 4294967296
def noMf : Mf := ⟨0, []⟩

/-- One segment's numbers are in their bounds, and it stands behind the one ahead of it. -/
def okSg (l : List Sg) (j : Nat) : Prop := ∀ s, l[j]? = some s → (0 ≤ s.n ∧ s.n ≤ 999999) ∧ (0 ≤ s.size ∧ s.size ≤ 1048576) ∧ (0 < j → ∀ p, l[j - 1]? = some p → p.n < s.n)
def Sok (l : List Sg) (i : Nat) : Prop := ∀ j, j < i → okSg l j
def Right (m : Mf) : Prop := (1 ≤ m.ver ∧ m.ver ≤ 999999) ∧ m.segs.length ≤ 200 ∧ Sok m.segs m.segs.length
open Classical in
noncomputable def right (m : Mf) : Bool := decide (Right m)
theorem right_iff {m : Mf} : right m = true ↔ Right m := by unfold right; simp
theorem right_no {m : Mf} (h : ¬ Right m) : right m = false := by unfold right; simp [h]
theorem Sok.succ {l : List Sg} {i : Nat} : Sok l (i + 1) ↔ Sok l i ∧ okSg l i := by
  constructor
  · intro h
    exact ⟨fun j hj => h j (by omega), h i (by omega)⟩
  · rintro ⟨h1, h2⟩ j hj
    rcases Nat.lt_or_ge j i with g | g
    · exact h1 j g
    · obtain rfl : j = i := by omega
      exact h2

/-! ### bytes -/
def snums (s : Sg) : List Nat := [s.n.toNat, s.size.toNat, s.sum]
def mnums (m : Mf) : List Nat := m.ver.toNat :: m.segs.length :: m.segs.flatMap snums
def puts (l : List Nat) : List UInt8 := l.flatMap put
def enc (m : Mf) : List UInt8 := puts (mnums m)
theorem puts_cons (n : Nat) (l : List Nat) : puts (n :: l) = put n ++ puts l := by simp [puts]
theorem puts_append (a b : List Nat) : puts (a ++ b) = puts a ++ puts b := by simp [puts]
noncomputable def mbs (m : Mf) : List UInt8 × Nat := if right m = true then (seal4 (enc m), 0) else ([], 1)
theorem mbs_yes {m : Mf} (h : Right m) : mbs m = (seal4 (enc m), 0) := by unfold mbs; rw [if_pos (right_iff.2 h)]
theorem mbs_no {m : Mf} (h : ¬ Right m) : mbs m = ([], 1) := by unfold mbs; rw [right_no h]; rfl

/-- Numbers laid behind one another are read in one way alone. -/
theorem puts_split : ∀ (D A : List Nat) (rest : List UInt8), (∀ x ∈ A, x < M64) → (∀ x ∈ D, x < M64) → puts A = puts D ++ rest → ∃ R, A = D ++ R ∧ rest = puts R
  | [], A, rest, _, _, h => ⟨A, rfl, by simpa [puts] using h.symm⟩
  | d :: D, [], rest, _, _, h => by
    have := congrArg List.length h
    rw [puts_cons] at this
    have hp := put_pos d
    simp [puts] at this
    omega
  | d :: D, a :: A, rest, hA, hD, h => by
    rw [puts_cons, puts_cons, List.append_assoc] at h
    have h1 := tk_put (hA a (List.mem_cons_self ..)) (puts A)
    have h2 := tk_put (hD d (List.mem_cons_self ..)) (puts D ++ rest)
    rw [h] at h1
    rw [h1] at h2
    simp only [Prod.mk.injEq, and_true] at h2
    obtain ⟨rfl, h3⟩ := h2
    obtain ⟨R, rfl, hr⟩ := puts_split D A rest (fun x hx => hA x (List.mem_cons_of_mem _ hx)) (fun x hx => hD x (List.mem_cons_of_mem _ hx)) h3
    exact ⟨R, rfl, hr⟩
theorem sok_mem {l : List Sg} (h : Sok l l.length) {s : Sg} (hs : s ∈ l) : (0 ≤ s.n ∧ s.n ≤ 999999) ∧ (0 ≤ s.size ∧ s.size ≤ 1048576) := by
  obtain ⟨j, hj⟩ := List.mem_iff_getElem?.1 hs
  have := h j (List.getElem?_eq_some_iff.1 hj).1 s hj
  exact ⟨this.1, this.2.1⟩
theorem mnums_lt {m : Mf} (h : Right m) (hw : m.wf) : ∀ x ∈ mnums m, x < 4294967296 := by
  intro x hx
  unfold mnums at hx
  rw [List.mem_cons, List.mem_cons, List.mem_flatMap] at hx
  rcases hx with rfl | rfl | ⟨s, hs, hx⟩
  · have := h.1; omega
  · have := h.2.1; omega
  · have := sok_mem h.2.2 hs
    have := hw s hs
    unfold snums at hx
    simp only [List.mem_cons, List.not_mem_nil, or_false] at hx
    rcases hx with rfl | rfl | rfl <;> omega
/-- Segments of numbers, three by three. -/
def trips : List Nat → List Sg
  | a :: b :: c :: r => ⟨a, b, c⟩ :: trips r
  | _ => []
theorem trips_of {l : List Sg} (h : ∀ s ∈ l, 0 ≤ s.n ∧ 0 ≤ s.size) : trips (l.flatMap snums) = l := by
  induction l with
  | nil => rfl
  | cons s r ih =>
    rw [List.flatMap_cons]
    show trips (s.n.toNat :: s.size.toNat :: s.sum :: r.flatMap snums) = _
    rw [trips, ih (fun t ht => h t (List.mem_cons_of_mem _ ht))]
    have := h s (List.mem_cons_self ..)
    obtain ⟨n, z, c⟩ := s
    simp only [List.cons.injEq, Sg.mk.injEq, and_true]
    exact ⟨Int.toNat_of_nonneg this.1, Int.toNat_of_nonneg this.2⟩
/-- The manifest of numbers. -/
def ofNums (l : List Nat) : Mf := ⟨((l[0]?.getD 0 : Nat) : Int), trips (l.drop 2)⟩
theorem ofNums_of {m : Mf} (h : Right m) : ofNums (mnums m) = m := by
  unfold ofNums mnums
  have h1 := h.1
  have h2 := trips_of (l := m.segs) (fun s hs => by have := sok_mem h.2.2 hs; exact ⟨this.1.1, this.2.1⟩)
  simp only [List.getElem?_cons_zero, Option.getD_some, List.drop_succ_cons, List.drop_zero]
  rw [h2]
  obtain ⟨v, l⟩ := m
  simp only [Mf.mk.injEq, and_true]
  exact Int.toNat_of_nonneg (by simp only at h1; omega)

/-- b is this manifest's. -/
def isOf (b : List UInt8) (m : Mf) : Prop := Right m ∧ m.wf ∧ seal4 (enc m) = b
open Classical in
noncomputable def mrd (b : List UInt8) : Mf × Nat := if (opn b).2 = false then (noMf, 4) else if h : ∃ m, isOf b m then (h.choose, 0) else (noMf, 2)
theorem opn_of {b : List UInt8} {m : Mf} (h : isOf b m) : opn b = (enc m, true) := by rw [← h.2.2]; exact opn_seal _
theorem seal_of {b : List UInt8} (h : (opn b).2 = true) : seal4 (opn b).1 = b := by
  by_cases h4 : b.length < 4
  · rw [opn_short h4] at h; cases h
  · by_cases e : four (sum (b.drop 4)) = b.take 4
    · rw [opn_yes h4 e]
      unfold seal4
      simp only
      rw [e, List.take_append_drop]
    · rw [opn_no h4 e] at h; cases h
theorem isOf_one {b : List UInt8} {m m' : Mf} (h : isOf b m) (h' : isOf b m') : m = m' := by
  have e : enc m = enc m' := by
    have := opn_of h
    rw [opn_of h'] at this
    simpa using this.symm
  have l1 := mnums_lt h.1 h.2.1
  have l2 := mnums_lt h'.1 h'.2.1
  obtain ⟨R, hR, h0⟩ := puts_split (mnums m') (mnums m) [] (fun x hx => by have := l1 x hx; unfold M64; omega) (fun x hx => by have := l2 x hx; unfold M64; omega) (by rw [List.append_nil]; exact e)
  cases R with
  | nil =>
    rw [List.append_nil] at hR
    rw [← ofNums_of h.1, hR, ofNums_of h'.1]
  | cons x r =>
    have := congrArg List.length h0
    rw [puts_cons] at this
    have := put_pos x
    simp at *
    omega
open Classical in
theorem mrd_sum {b : List UInt8} (h : (opn b).2 = false) : mrd b = (noMf, 4) := by unfold mrd; rw [if_pos h]
open Classical in
theorem mrd_yes {b : List UInt8} {m : Mf} (h : isOf b m) : mrd b = (m, 0) := by
  have hx : ∃ m, isOf b m := ⟨m, h⟩
  unfold mrd
  rw [if_neg (by rw [opn_of h]; simp), dif_pos hx, isOf_one hx.choose_spec h]
open Classical in
theorem mrd_no {b : List UInt8} (h : (opn b).2 = true) (hn : ∀ m, ¬ isOf b m) : mrd b = (noMf, 2) := by
  unfold mrd
  rw [if_neg (by rw [h]; simp), dif_neg (fun ⟨m, hm⟩ => hn m hm)]
theorem mrd_cases (b : List UInt8) : (∃ m, isOf b m ∧ mrd b = (m, 0)) ∨ (mrd b = (noMf, 2) ∧ (opn b).2 = true ∧ ∀ m, ¬ isOf b m) ∨ (mrd b = (noMf, 4) ∧ (opn b).2 = false) := by
  cases h : (opn b).2
  · exact Or.inr (Or.inr ⟨mrd_sum h, rfl⟩)
  · by_cases hx : ∃ m, isOf b m
    · obtain ⟨m, hm⟩ := hx
      exact Or.inl ⟨m, hm, mrd_yes hm⟩
    · exact Or.inr (Or.inl ⟨mrd_no h (fun m hm => hx ⟨m, hm⟩), rfl, fun m hm => hx ⟨m, hm⟩⟩)
/-- What has been read of numbers is a beginning of the manifest's. -/
theorem read_on {b : List UInt8} {m : Mf} (h : isOf b m) {D : List Nat} {rest : List UInt8} (hD : ∀ x ∈ D, x < M64) (he : (opn b).1 = puts D ++ rest) : ∃ R, mnums m = D ++ R ∧ rest = puts R := by
  rw [opn_of h] at he
  have l1 := mnums_lt h.1 h.2.1
  exact puts_split D (mnums m) rest (fun x hx => by have := l1 x hx; unfold M64; omega) hD he
/-- A next number, or none. -/
theorem read_next {b : List UInt8} {m : Mf} (h : isOf b m) {D : List Nat} {rest : List UInt8} (hD : ∀ x ∈ D, x < M64) (he : (opn b).1 = puts D ++ rest) (hr : rest ≠ []) : ∃ n r, tk rest = (n, r, 0) ∧ n < 4294967296 := by
  obtain ⟨R, h1, rfl⟩ := read_on h hD he
  cases R with
  | nil => exact absurd rfl hr
  | cons x r =>
    have hx : x < 4294967296 := mnums_lt h.1 h.2.1 x (by rw [h1]; simp)
    rw [puts_cons]
    exact ⟨x, puts r, tk_put (by unfold M64; omega) _, hx⟩
theorem read_all {b : List UInt8} {m : Mf} (h : isOf b m) {D : List Nat} (hD : ∀ x ∈ D, x < M64) (he : (opn b).1 = puts D) : mnums m = D := by
  obtain ⟨R, h1, h2⟩ := read_on h (rest := []) hD (by rw [List.append_nil]; exact he)
  cases R with
  | nil => rw [h1, List.append_nil]
  | cons x r =>
    have := congrArg List.length h2
    rw [puts_cons] at this
    have := put_pos x
    simp at *
    omega

/-! ### names -/
def dg (n : Nat) : UInt8 := UInt8.ofNat (48 + n % 10)
def dig (n : Nat) : List UInt8 := [dg (n / 100000), dg (n / 10000), dg (n / 1000), dg (n / 100), dg (n / 10), dg n]
theorem dg_toNat (n : Nat) : (dg n).toNat = 48 + n % 10 := by unfold dg; rw [UInt8.toNat_ofNat']; omega
theorem dg_eq {a b : Nat} (h : dg a = dg b) : a % 10 = b % 10 := by
  have := congrArg UInt8.toNat h
  rw [dg_toNat, dg_toNat] at this; omega
theorem dig_inj {a b : Nat} (ha : a ≤ 999999) (hb : b ≤ 999999) (h : dig a = dig b) : a = b := by
  unfold dig at h
  simp only [List.cons.injEq, and_true] at h
  obtain ⟨h5, h4, h3, h2, h1, h0⟩ := h
  have := dg_eq h5; have := dg_eq h4; have := dg_eq h3; have := dg_eq h2; have := dg_eq h1; have := dg_eq h0
  omega
def nm (v : Int) : List UInt8 := if 1 ≤ v ∧ v ≤ 999999 then 109 :: dig v.toNat else []
def ob (n : Int) : List UInt8 := if 0 ≤ n ∧ n ≤ 999999 then 111 :: dig n.toNat else []
theorem nm_yes {v : Int} (h : 1 ≤ v ∧ v ≤ 999999) : nm v = 109 :: dig v.toNat := by unfold nm; rw [if_pos h]
theorem nm_no {v : Int} (h : ¬ (1 ≤ v ∧ v ≤ 999999)) : nm v = [] := by unfold nm; rw [if_neg h]
theorem ob_yes {v : Int} (h : 0 ≤ v ∧ v ≤ 999999) : ob v = 111 :: dig v.toNat := by unfold ob; rw [if_pos h]
theorem ob_no {v : Int} (h : ¬ (0 ≤ v ∧ v ≤ 999999)) : ob v = [] := by unfold ob; rw [if_neg h]
/-- The version of a name. -/
def isVer (s : List UInt8) (v : Int) : Prop := (1 ≤ v ∧ v ≤ 999999) ∧ nm v = s
theorem isVer_one {s : List UInt8} {v v' : Int} (h : isVer s v) (h' : isVer s v') : v = v' := by
  have e := h.2
  rw [← h'.2, nm_yes h.1, nm_yes h'.1] at e
  simp only [List.cons.injEq, true_and] at e
  have := dig_inj (by have := h.1; omega) (by have := h'.1; omega) e
  have := h.1; have := h'.1
  omega
open Classical in
noncomputable def vr (s : List UInt8) : Int × Bool := if h : ∃ v, isVer s v then (h.choose, true) else (0, false)
open Classical in
theorem vr_yes {s : List UInt8} {v : Int} (h : isVer s v) : vr s = (v, true) := by
  have hx : ∃ v, isVer s v := ⟨v, h⟩
  unfold vr
  rw [dif_pos hx, isVer_one hx.choose_spec h]
open Classical in
theorem vr_no {s : List UInt8} (h : ∀ v, ¬ isVer s v) : vr s = (0, false) := by
  unfold vr
  rw [dif_neg (fun ⟨v, hv⟩ => h v hv)]
theorem vr_nm {v : Int} (h : 1 ≤ v ∧ v ≤ 999999) : vr (nm v) = (v, true) := vr_yes ⟨h, rfl⟩
theorem vr_ob (n : Int) : vr (ob n) = (0, false) := vr_no (fun v ⟨h1, h2⟩ => by
  rw [nm_yes h1] at h2
  by_cases hn : 0 ≤ n ∧ n ≤ 999999
  · rw [ob_yes hn] at h2; simp at h2
  · rw [ob_no hn] at h2; simp at h2)
theorem dig_len (n : Nat) : (dig n).length = 6 := rfl
theorem dg_lt {a b : Nat} : dg a < dg b ↔ a % 10 < b % 10 := by
  rw [UInt8.lt_iff_toNat_lt, dg_toNat, dg_toNat]; omega
theorem dg_eq_iff {a b : Nat} : dg a = dg b ↔ a % 10 = b % 10 := ⟨dg_eq, fun h => by unfold dg; rw [h]⟩
theorem app_lt : ∀ (A C : List UInt8) (x y : UInt8), A.length = C.length → (A ++ [x] < C ++ [y] ↔ A < C ∨ A = C ∧ x < y)
  | [], [], x, y, _ => by simp [List.cons_lt_cons_iff]
  | [], c :: C, x, y, h => by simp at h
  | a :: A, [], x, y, h => by simp at h
  | a :: A, c :: C, x, y, h => by
    have ih := app_lt A C x y (by simpa using h)
    rw [List.cons_append, List.cons_append, List.cons_lt_cons_iff, List.cons_lt_cons_iff, ih, List.cons.injEq]
    constructor
    · rintro (g | ⟨g1, g2 | ⟨g2, g3⟩⟩)
      · exact Or.inl (Or.inl g)
      · exact Or.inl (Or.inr ⟨g1, g2⟩)
      · exact Or.inr ⟨⟨g1, g2⟩, g3⟩
    · rintro ((g | ⟨g1, g2⟩) | ⟨⟨g1, g2⟩, g3⟩)
      · exact Or.inl g
      · exact Or.inr ⟨g1, Or.inl g2⟩
      · exact Or.inr ⟨g1, Or.inr ⟨g2, g3⟩⟩
/-- The last k digits. -/
def digs : Nat → Nat → List UInt8
  | 0, _ => []
  | k + 1, n => digs k (n / 10) ++ [dg n]
theorem digs_len : ∀ k n, (digs k n).length = k
  | 0, _ => rfl
  | k + 1, n => by rw [digs, List.length_append, digs_len k]; rfl
theorem digs_eq : ∀ k a b, a < 10 ^ k → b < 10 ^ k → (digs k a = digs k b ↔ a = b)
  | 0, a, b, ha, hb => by simp [digs]; simp at ha hb; omega
  | k + 1, a, b, ha, hb => by
    rw [Nat.pow_succ] at ha hb
    have ih := digs_eq k (a / 10) (b / 10) (by omega) (by omega)
    constructor
    · intro h
      rw [digs, digs] at h
      obtain ⟨h1, h2⟩ := List.append_inj h (by rw [digs_len, digs_len])
      have := ih.1 h1
      simp only [List.cons.injEq, and_true] at h2
      have := dg_eq h2
      omega
    · rintro rfl; rfl
theorem digs_lt : ∀ k a b, a < 10 ^ k → b < 10 ^ k → (digs k a < digs k b ↔ a < b)
  | 0, a, b, ha, hb => by simp [digs]; simp at ha hb; omega
  | k + 1, a, b, ha, hb => by
    rw [Nat.pow_succ] at ha hb
    rw [digs, digs, app_lt _ _ _ _ (by rw [digs_len, digs_len]), digs_lt k _ _ (by omega) (by omega), digs_eq k _ _ (by omega) (by omega), dg_lt]
    omega
theorem dig_digs (n : Nat) : dig n = digs 6 n := by
  simp only [digs, dig, List.nil_append, List.cons_append, Nat.div_div_eq_div_mul, Nat.reduceMul]
theorem dig_lt {a b : Nat} (ha : a ≤ 999999) (hb : b ≤ 999999) : dig a < dig b ↔ a < b := by
  rw [dig_digs, dig_digs]
  exact digs_lt 6 a b (by omega) (by omega)
theorem nm_lt {a b : Int} (ha : 1 ≤ a ∧ a ≤ 999999) (hb : 1 ≤ b ∧ b ≤ 999999) : lt (nm a) (nm b) = decide (a < b) := by
  rw [nm_yes ha, nm_yes hb]
  have h : (109 :: dig a.toNat : List UInt8) < 109 :: dig b.toNat ↔ a < b := by
    rw [List.cons_lt_cons_iff]
    simp only [UInt8.lt_irrefl, false_or, true_and]
    rw [dig_lt (by omega) (by omega)]
    omega
  cases hx : lt (109 :: dig a.toNat) (109 :: dig b.toNat)
  · symm; rw [decide_eq_false_iff_not]
    intro hab
    rw [(lt_iff _ _).2 (h.2 hab)] at hx; cases hx
  · symm; rw [decide_eq_true_eq]
    exact h.1 ((lt_iff _ _).1 hx)
end Go.Proofs.YtkdidinekoaobaaGreatDoor.J

/- Segments of a manifest in memory; which manifest may be, as the document tells it. -/
namespace Go.Proofs.YtkdidinekoaobaaGreatDoor.J
open Go.RowKit
set_option linter.unusedVariables false

/-- The three cells of a segment. -/
def SgAt (w : World) (b off : Nat) (s : Sg) : Prop := w.cell? ⟨b, off, none⟩ = some (.int .i64 s.n) ∧ w.cell? ⟨b, off + 1, none⟩ = some (.int .i64 s.size) ∧ w.cell? ⟨b, off + 2, none⟩ = some (.int .u32 s.sum)
/-- A slice holds these segments. -/
def SgsIn (w : World) (a : Option Addr) (l : List Sg) : Prop := ∀ i (h : i < l.length), ∃ b off, a = some ⟨b, off, none⟩ ∧ b < w.heap.size ∧ SgAt w b (off + i * 3) l[i]
theorem SgsIn.at {w w' : World} {B : Nat} {a : Option Addr} {l : List Sg} (h : SgsIn w a l) (hb : Below B w w') (hB : w.heap.size ≤ B) (i : Nat) (o : Sg) (ho : l[i]? = some o) :
    ∃ b off, a = some ⟨b, off, none⟩ ∧ b < w.heap.size ∧ SgAt w' b (off + i * 3) o := by
  obtain ⟨hi, e⟩ := List.getElem?_eq_some_iff.1 ho
  subst e
  obtain ⟨b, off, h1, h2, c0, c1, c2⟩ := h i hi
  have hk : ∀ j, w'.cell? ⟨b, j, none⟩ = w.cell? ⟨b, j, none⟩ := fun j => hb.cell (p := ⟨b, j, none⟩) (Nat.lt_of_lt_of_le h2 hB)
  exact ⟨b, off, h1, h2, by rw [hk]; exact c0, by rw [hk]; exact c1, by rw [hk]; exact c2⟩
theorem SgsIn.later {w w' : World} {B : Nat} {a : Option Addr} {l : List Sg} (h : SgsIn w a l) (hb : Below B w w') (hB : w.heap.size ≤ B) : SgsIn w' a l := fun i hi => by
  obtain ⟨b, off, h1, h2, h3⟩ := h.at hb hB i l[i] (List.getElem?_eq_getElem hi)
  exact ⟨b, off, h1, Nat.lt_of_lt_of_le h2 hb.size, h3⟩
theorem SgsIn.nil (w : World) (a : Option Addr) : SgsIn w a [] := fun i h => by simp at h
/-- The cells of segments. -/
def sflat : List Sg → List Value
  | [] => []
  | s :: r => .int .i64 s.n :: .int .i64 s.size :: .int .u32 s.sum :: sflat r
theorem sflat_len : ∀ l : List Sg, (sflat l).length = l.length * 3
  | [] => rfl
  | s :: r => by simp only [sflat, List.length_cons, sflat_len r]; omega
theorem sflat_app : ∀ a b : List Sg, sflat (a ++ b) = sflat a ++ sflat b
  | [], b => rfl
  | s :: r, b => by simp [sflat, sflat_app r b]
theorem sflat_at : ∀ (l : List Sg) (i : Nat) (s : Sg), l[i]? = some s → (sflat l)[i * 3]? = some (.int .i64 s.n) ∧ (sflat l)[i * 3 + 1]? = some (.int .i64 s.size) ∧ (sflat l)[i * 3 + 2]? = some (.int .u32 s.sum)
  | [], _, _, h => by simp at h
  | x :: r, 0, s, h => by
    simp at h; subst h
    exact ⟨rfl, rfl, rfl⟩
  | x :: r, i + 1, s, h => by
    have := sflat_at r i s (by simpa using h)
    rw [show (i + 1) * 3 = i * 3 + 3 by omega]
    exact this
theorem owns_sgs {e : TypeId} {w : World} {B : Nat} {v : Value} {l : List Sg} (h : w.ownsRow B e 3 v l.length (sflat l)) : ∃ a cap, v = .slice a l.length cap ∧ SgsIn w a l := by
  rcases h.2 with ⟨rfl, h0⟩ | ⟨g, cap, cur, rfl, hB, hg, _⟩
  · have : l = [] := List.eq_nil_of_length_eq_zero h0
    subst this
    exact ⟨none, 0, rfl, SgsIn.nil _ _⟩
  · refine ⟨some ⟨g, 0, none⟩, cap, rfl, fun i hi => ⟨g, 0, rfl, (Array.getElem?_eq_some_iff.1 hg).1, ?_⟩⟩
    obtain ⟨q0, q1, q2⟩ := sflat_at l i l[i] (List.getElem?_eq_getElem hi)
    have hc : ∀ j, j < l.length * 3 → w.cell? ⟨g, j, none⟩ = (sflat l)[j]? := fun j hj => h.cellAt j hj
    refine ⟨?_, ?_, ?_⟩
    · rw [Nat.zero_add, hc _ (by omega)]; exact q0
    · rw [Nat.zero_add, hc _ (by omega)]; exact q1
    · rw [Nat.zero_add, hc _ (by omega)]; exact q2
/-- A manifest as a value. -/
def mfV (ver : Int) (a : Option Addr) (n cap : Nat) : Value := .agg #[.int .i64 ver, .slice a n cap]

theorem not_right {m : Mf} {i : Nat} (hi : i < m.segs.length) (h : ¬ okSg m.segs i) : right m = false := right_no (fun hr => h (hr.2.2 i hi))
set_option maxRecDepth 100000 in
set_option maxHeartbeats 2000000 in
theorem refright_any (m : Mf) (a : Option Addr) (cap : Nat) (w : World) (hin : SgsIn w a m.segs) (hl : m.segs.length ≤ 2000) :
    Calls Tryz.prog 78 #[mfV m.ver a m.segs.length cap] w fun e w' => e = .returned (.bool (right m)) ∧ Below w.heap.size w w' := by
  have hb0 : Below w.heap.size w (w.alloc (.cells #[.int .i64 m.ver, .slice a m.segs.length cap] 41)) := (Below.refl _ _).alloc (Nat.le_refl _) _
  have hn0 := heap_alloc_new w (.cells #[.int .i64 m.ver, .slice a m.segs.length cap] 41)
  obtain ⟨L, hL⟩ : ∃ L, L = m.segs.length := ⟨_, rfl⟩
  rw [← hL] at hb0 hn0 hl ⊢
  have HL := Lib.hid hL; have HI := Lib.hid hin; have HB := Lib.hid hb0; have HN := Lib.hid hn0
  clear hL hin hb0 hn0
  unfold mfV
  go_enter Tryz.func78, Tryz.ntmps78
  go_wp2_with fail
  generalize hW : w.alloc _ = w1 at *
  have hwl : w.heap.size < w1.heap.size := (Array.getElem?_eq_some_iff.1 HN.out).1
  clear hW
  go_loopg [3] L (fun g it wr => ∃ i : Nat, i + g = L ∧ it = .int .i64 i ∧ Sok m.segs i ∧ Below w1.heap.size w1 wr)
  case atStart => exact ⟨0, by omega, rfl, fun j hj => by omega, Below.refl _ _⟩
  case round =>
    obtain ⟨i, hi, rfl, hok, hb⟩ := hrel
    have hbz := hb.size
    have hcl := fun t => cell_of_row wr w.heap.size t _ _ (0, 0) (by rw [hb.block _ hwl]; exact HN.out)
    have c0 := hcl 0; have c1 := hcl 1
    simp only [List.getElem?_toArray, List.getElem?_cons_succ, List.getElem?_cons_zero] at c0 c1
    have HBW := Lib.hid (HB.out.trans (hb.mono HB.out.size))
    have HBB := Lib.hid hb; have HOK := Lib.hid hok
    clear hcl hb hok
    by_cases hlt : i < L
    · obtain ⟨s, hs⟩ : ∃ s, m.segs[i]? = some s := ⟨m.segs[i]'(by have := HL.out; omega), List.getElem?_eq_getElem _⟩
      obtain ⟨b, off, rfl, hbl, d0, d1, d2⟩ := HI.out.at HBW.out (Nat.le_refl _) i s hs
      have hba : Below wr.heap.size wr (wr.alloc (.cells #[.int .i64 s.n, .int .i64 s.size, .int .u32 s.sum] 54)) := (Below.refl _ _).alloc (Nat.le_refl _) _
      have HBA := Lib.hid hba
      have hna := heap_alloc_new wr (.cells #[.int .i64 s.n, .int .i64 s.size, .int .u32 s.sum] 54)
      clear hba
      go_wp2_with fail
      generalize hW2 : wr.alloc _ = w2 at *
      have hwr : wr.heap.size < w2.heap.size := (Array.getElem?_eq_some_iff.1 hna).1
      have hcl := fun t => cell_of_row w2 wr.heap.size t _ _ (0, 0) hna
      have e0 := hcl 0; have e1 := hcl 1; have e2 := hcl 2
      simp only [List.getElem?_toArray, List.getElem?_cons_succ, List.getElem?_cons_zero] at e0 e1 e2
      have c1 := (Below.cell (p := ⟨w.heap.size, 1, none⟩) HBA.out (by show w.heap.size < wr.heap.size; omega)).trans c1
      have HFIN : Hid (Below w.heap.size w w2) := Lib.hid (HBW.out.trans (HBA.out.mono HBW.out.size))
      have HF1 : Hid (Below w1.heap.size w1 w2) := Lib.hid (HBB.out.trans (HBA.out.mono HBB.out.size))
      have HS := Lib.hid hs
      clear hcl hna hW2 d0 d1 d2 hs
      by_cases hA : s.n < 0
      · have HNR := Lib.hid (not_right (m := m) (i := i) (by have := HL.out; omega) (fun h => by have := (h s HS.out).1; omega))
        go_quiet (fail)
        have hbq := HFIN.out.trans ((below_drewN (Below.refl w2.heap.size w2) nq).mono HFIN.out.size)
        generalize w2.drewN nq = w3 at *
        go_wp2_with fail
        go_ret
        exact ⟨by rw [HNR.out]; rfl, hbq⟩
      by_cases hB : 999999 < s.n
      · have HNR := Lib.hid (not_right (m := m) (i := i) (by have := HL.out; omega) (fun h => by have := (h s HS.out).1; omega))
        go_quiet (fail)
        have hbq := HFIN.out.trans ((below_drewN (Below.refl w2.heap.size w2) nq).mono HFIN.out.size)
        generalize w2.drewN nq = w3 at *
        go_wp2_with fail
        go_ret
        exact ⟨by rw [HNR.out]; rfl, hbq⟩
      by_cases hC : s.size < 0
      · have HNR := Lib.hid (not_right (m := m) (i := i) (by have := HL.out; omega) (fun h => by have := (h s HS.out).2.1; omega))
        go_quiet (fail)
        have hbq := HFIN.out.trans ((below_drewN (Below.refl w2.heap.size w2) nq).mono HFIN.out.size)
        generalize w2.drewN nq = w3 at *
        go_wp2_with fail
        go_ret
        exact ⟨by rw [HNR.out]; rfl, hbq⟩
      by_cases hD : 1048576 < s.size
      · have HNR := Lib.hid (not_right (m := m) (i := i) (by have := HL.out; omega) (fun h => by have := (h s HS.out).2.1; omega))
        go_quiet (fail)
        have hbq := HFIN.out.trans ((below_drewN (Below.refl w2.heap.size w2) nq).mono HFIN.out.size)
        generalize w2.drewN nq = w3 at *
        go_wp2_with fail
        go_ret
        exact ⟨by rw [HNR.out]; rfl, hbq⟩
      by_cases hi0 : i = 0
      · have hn1 : ¬ 0 < i := by omega
        have hn2 : ¬ (0 : Int) < (i : Int) := by omega
        have hn3 : decide ((0 : Int) < (i : Int)) = false := decide_eq_false hn2
        have HOKI : Hid (okSg m.segs i) := Lib.hid (fun s' hs' => by
          rw [HS.out] at hs'
          obtain rfl := Option.some.inj hs'
          exact ⟨by omega, by omega, fun h => by omega⟩)
        clear hi0
        have HNX := Lib.hid (Sok.succ.2 ⟨HOK.out, HOKI.out⟩ : Sok m.segs (i + 1))
        go_quiet (fail)
        have HBQ := Lib.hid (HF1.out.trans ((below_drewN (Below.refl w2.heap.size w2) nq).mono HF1.out.size))
        generalize w2.drewN nq = w3 at *
        go_wp2_with fail
        go_roundg (gk - 1)
        case measure => omega
        case rel => exact ⟨i + 1, by omega, by go_num, HNX.out, HBQ.out⟩
      · obtain ⟨p, hp⟩ : ∃ p, m.segs[i - 1]? = some p := ⟨m.segs[i - 1]'(by have := HL.out; omega), List.getElem?_eq_getElem _⟩
        obtain ⟨b', off', hb', _, p0, _, _⟩ := HI.out.at HFIN.out (Nat.le_refl _) (i - 1) p hp
        obtain ⟨rfl, rfl⟩ : b = b' ∧ off = off' := by simpa using hb'
        have hn1 : 0 < i := by omega
        have hn2 : (0 : Int) < (i : Int) := by omega
        have hn3 : decide ((0 : Int) < (i : Int)) = true := decide_eq_true hn2
        obtain ⟨j, hj⟩ : ∃ j, j = i - 1 := ⟨_, rfl⟩
        have hji : IntKind.i64.wrap ((i : Int) - 1) = (j : Int) := by rw [IntWalk.i64_in _ ⟨by omega, by omega⟩]; omega
        have hjL : j < L := by omega
        rw [← hj] at p0
        have HJ := Lib.hid hj; have HP := Lib.hid hp
        clear hi0 hj hp hb'
        by_cases hE : s.n ≤ p.n
        · have HNR := Lib.hid (not_right (m := m) (i := i) (by have := HL.out; omega) (fun h => by have := (h s HS.out).2.2 hn1 p HP.out; omega))
          go_quiet (fail)
          have hbq := HFIN.out.trans ((below_drewN (Below.refl w2.heap.size w2) nq).mono HFIN.out.size)
          generalize w2.drewN nq = w3 at *
          go_wp2_with fail
          go_ret
          exact ⟨by rw [HNR.out]; rfl, hbq⟩
        · have HOKI : Hid (okSg m.segs i) := Lib.hid (fun s' hs' => by
            rw [HS.out] at hs'
            obtain rfl := Option.some.inj hs'
            exact ⟨by omega, by omega, fun _ p' hp' => by
              rw [HP.out] at hp'
              obtain rfl := Option.some.inj hp'
              omega⟩)
          have HNX := Lib.hid (Sok.succ.2 ⟨HOK.out, HOKI.out⟩ : Sok m.segs (i + 1))
          go_quiet (fail)
          have HBQ := Lib.hid (HF1.out.trans ((below_drewN (Below.refl w2.heap.size w2) nq).mono HF1.out.size))
          generalize w2.drewN nq = w3 at *
          go_wp2_with fail
          go_roundg (gk - 1)
          case measure => omega
          case rel => exact ⟨i + 1, by omega, by go_num, HNX.out, HBQ.out⟩
    · obtain rfl : i = L := by omega
      by_cases h1 : 1 ≤ m.ver
      · by_cases h2 : m.ver ≤ 999999
        · by_cases h3 : (i : Int) ≤ 200
          · have HR := Lib.hid (right_iff.2 ⟨⟨h1, h2⟩, by have := HL.out; omega, by have := HOK.out; rw [← HL.out]; exact this⟩ : right m = true)
            go_wp2_with fail
            go_ret
            exact ⟨by rw [HR.out]; rfl, HBW.out⟩
          · have HR := Lib.hid (right_no (fun h => by have := h.2.1; have := HL.out; omega) : right m = false)
            go_wp2_with fail
            go_ret
            exact ⟨by rw [HR.out]; rfl, HBW.out⟩
        · have HR := Lib.hid (right_no (fun h => by have := h.1; omega) : right m = false)
          go_wp2_with fail
          go_ret
          exact ⟨by rw [HR.out]; rfl, HBW.out⟩
      · have HR := Lib.hid (right_no (fun h => by have := h.1; omega) : right m = false)
        go_wp2_with fail
        go_ret
        exact ⟨by rw [HR.out]; rfl, HBW.out⟩
end Go.Proofs.YtkdidinekoaobaaGreatDoor.J

/- The bytes of a manifest, as the document tells them. -/
namespace Go.Proofs.YtkdidinekoaobaaGreatDoor.J
open Go.RowKit
set_option linter.unusedVariables false

/-- What was there is as it was. -/
def Old (w1 W : World) : Prop := Below w1.heap.size w1 W
theorem Old.refl (w1 : World) : Old w1 w1 := Below.refl _ _
theorem Old.alloc {w1 W : World} (h : Old w1 W) (o : Obj) : Old w1 (W.alloc o) := Below.alloc h h.size o
theorem Old.drew {w1 W : World} (h : Old w1 W) : Old w1 W.drew := Below.drew h
theorem Old.drewN {w1 W : World} (h : Old w1 W) (q : Nat) : Old w1 (W.drewN q) := ⟨h.os, h.tape, h.output, h.size, h.block⟩
theorem Old.below {w1 W W' : World} (h : Old w1 W) (k : Below W.heap.size W W') : Old w1 W' := Below.trans h (k.mono h.size)
theorem refput_nat (n : Nat) (w : World) (h : n < 18446744073709551616) :
    Calls Tryz.prog 79 #[.int .u64 (n : Int)] w fun e w' => e = .returned (.string (bs (put n))) ∧ Below w.heap.size w w' :=
  refput_any n w (by unfold M64; omega)

/-- The bytes of the first i segments, with what stands ahead of them. -/
def pre (m : Mf) (i : Nat) : List UInt8 := puts (m.ver.toNat :: m.segs.length :: (m.segs.take i).flatMap snums)
theorem pre_zero (m : Mf) : pre m 0 = put m.ver.toNat ++ put m.segs.length := by simp [pre, puts]
theorem pre_succ {m : Mf} {i : Nat} {s : Sg} (h : m.segs[i]? = some s) : pre m (i + 1) = pre m i ++ put s.n.toNat ++ put s.size.toNat ++ put s.sum := by
  unfold pre
  rw [List.take_add_one, h]
  simp [puts, snums, List.flatMap_append]
theorem pre_all (m : Mf) : pre m m.segs.length = enc m := by unfold pre enc mnums; rw [List.take_length]
theorem put_small {n : Nat} (h : n < 4294967296) : (put n).length ≤ 5 := put_len 4 n (by omega)
theorem pre_len {m : Mf} (h : Right m) (hw : m.wf) : ∀ i, i ≤ m.segs.length → (pre m i).length ≤ 20 + 15 * i
  | 0, _ => by
    rw [pre_zero, List.length_append]
    have := put_small (n := m.ver.toNat) (by have := h.1; omega)
    have := put_small (n := m.segs.length) (by have := h.2.1; omega)
    omega
  | i + 1, hi => by
    have hs := List.getElem?_eq_getElem (l := m.segs) (i := i) (by omega)
    rw [pre_succ hs]
    have ih := pre_len h hw i (by omega)
    have hm : m.segs[i] ∈ m.segs := List.getElem_mem _
    have := sok_mem h.2.2 hm
    have := hw _ hm
    have := put_small (n := m.segs[i].n.toNat) (by omega)
    have := put_small (n := m.segs[i].size.toNat) (by omega)
    have := put_small (n := m.segs[i].sum) (by omega)
    simp only [List.length_append]
    omega

set_option maxRecDepth 100000 in
set_option maxHeartbeats 1000000 in
theorem refbytes_no (m : Mf) (a : Option Addr) (cap : Nat) (w : World) (hin : SgsIn w a m.segs) (hl : m.segs.length ≤ 2000) (hr : ¬ Right m) :
    Calls Tryz.prog 41 #[mfV m.ver a m.segs.length cap] w fun e w' => e = .returned (.tuple #[.string (bs []), .int .i64 1]) ∧ Below w.heap.size w w' := by
  have hb0 : Below w.heap.size w (w.alloc (.cells #[.int .i64 m.ver, .slice a m.segs.length cap] 41)) := (Below.refl _ _).alloc (Nat.le_refl _) _
  have HR := Lib.hid (refright_any m a cap _ (hin.later hb0 (Nat.le_refl _)) hl)
  rw [right_no hr] at HR
  have HB := Lib.hid hb0
  clear hb0 hr hin
  generalize m.segs.length = L at *
  unfold mfV at HR ⊢
  go_enter Tryz.func41, Tryz.ntmps41
  go_wp2_with (go_at_call 78; refine HR.out.mono ?_; rintro e w' ⟨rfl, hb⟩)
  go_ret2
  exact ⟨rfl, HB.out.trans (hb.mono HB.out.size)⟩

set_option maxRecDepth 100000 in
set_option maxHeartbeats 2000000 in
theorem refbytes_yes (m : Mf) (a : Option Addr) (cap : Nat) (w : World) (hin : SgsIn w a m.segs) (hr : Right m) (hw : m.wf) :
    Calls Tryz.prog 41 #[mfV m.ver a m.segs.length cap] w fun e w' => e = .returned (.tuple #[.string (bs (seal4 (enc m))), .int .i64 0]) ∧ Below w.heap.size w w' := by
  have hb0 : Below w.heap.size w (w.alloc (.cells #[.int .i64 m.ver, .slice a m.segs.length cap] 41)) := (Below.refl _ _).alloc (Nat.le_refl _) _
  have HR := Lib.hid (refright_any m a cap _ (hin.later hb0 (Nat.le_refl _)) (by have := hr.2.1; omega))
  rw [right_iff.2 hr] at HR
  have hn0 := heap_alloc_new w (.cells #[.int .i64 m.ver, .slice a m.segs.length cap] 41)
  have h200 := hr.2.1
  obtain ⟨V, hV⟩ : ∃ V : Nat, m.ver = (V : Int) := ⟨m.ver.toNat, by have := hr.1; omega⟩
  have hV9 : V ≤ 999999 := by have := hr.1; omega
  have HP0 := Lib.hid (pre_zero m)
  have HPA := Lib.hid (pre_all m)
  have HPL := Lib.hid (pre_len hr hw)
  have HRT := Lib.hid hr; have HWF := Lib.hid hw
  obtain ⟨L, hL⟩ : ∃ L, L = m.segs.length := ⟨_, rfl⟩
  rw [← hL] at hb0 hn0 h200 HR HPA HPL HP0 ⊢
  rw [hV] at hb0 hn0 HR HP0 ⊢
  rw [Int.toNat_natCast] at HP0
  have HL := Lib.hid hL; have HI := Lib.hid hin; have HB := Lib.hid hb0; have HN := Lib.hid hn0
  clear hL hin hb0 hn0 hr hw hV
  unfold mfV at HR ⊢
  have z1 : (bs (put V)).size ≤ 5 := by rw [bs_size]; exact put_small (by omega)
  have z2 : (bs (put L)).size ≤ 5 := by rw [bs_size]; exact put_small (by omega)
  have HAD : Hid (bs (pre m 0) = bs (put V) ++ bs (put L)) := Lib.hid (by rw [HP0.out, bs_join])
  have HP1 := Lib.hid (fun W => refput_nat V W (by omega)); have HP2 := Lib.hid (fun W => refput_nat L W (by omega))
  go_enter Tryz.func41, Tryz.ntmps41
  go_wp2_with fail
  refine HR.out.mono ?_
  rintro e w2 ⟨rfl, b2⟩
  generalize hW : w.alloc _ = w1 at *
  have hwl : w.heap.size < w1.heap.size := (Array.getElem?_eq_some_iff.1 HN.out).1
  have hn2 : w2.heap[w.heap.size]? = _ := (b2.block _ hwl).trans HN.out
  have hm : ∀ W, Old w2 W → ∀ t, W.cell? ⟨w.heap.size, t, none⟩ = (#[Value.int .i64 (V : Int), Value.slice a L cap] : Array Value)[t]? := fun W hW t => by
    rw [Below.cell (p := ⟨w.heap.size, t, none⟩) hW (by show w.heap.size < w2.heap.size; have := b2.size; omega)]
    exact cell_of_row w2 w.heap.size t _ _ (0, 0) hn2
  have m0 := fun W hW => hm W hW 0
  have m1 := fun W hW => hm W hW 1
  simp only [List.getElem?_toArray, List.getElem?_cons_succ, List.getElem?_cons_zero] at m0 m1
  have HBW := Lib.hid (HB.out.trans (b2.mono HB.out.size) : Below w.heap.size w w2)
  have HN2 := Lib.hid hn2
  clear hm hW hn2 b2 HR HN
  go_wp2_with fail
  have K0 := Old.refl w2
  have q1 : IntKind.u64.wrap (V : Int) = (V : Int) := IntWalk.u64_in _ ⟨by omega, by omega⟩
  have q2 : IntKind.u64.wrap (L : Int) = (L : Int) := IntWalk.u64_in _ ⟨by omega, by omega⟩
  have hsum : ¬ 9223372036854775807 < (bs (put V)).size + (bs (put L)).size := by omega
  generalize bs (put V) = X1 at *
  generalize bs (put L) = X2 at *
  go_region_held3 (fun W => Old w2 W) (first | assumption | exact K0 | exact K0.drew | exact Old.drew ‹_›)
    (first
      | (go_at_call 79
         (with_reducible refine (HP1.out _).mono ?_)
         rintro e8 w8 ⟨rfl, hb8⟩
         have hO8 : Old w2 w8 := Old.below (by first | assumption | exact K0 | exact K0.drew | exact Old.drew ‹_›) hb8)
      | (go_at_call 79
         (with_reducible refine (HP2.out _).mono ?_)
         rintro e9 w9 ⟨rfl, hb9⟩
         have hO9 : Old w2 w9 := Old.below (by first | assumption | exact K0 | exact K0.drew | exact Old.drew ‹_›) hb9))
  rw [← HAD.out]
  clear z1 z2 hsum q1 q2 m0 m1 K0
  have HM : Hid (∀ W, Old w2 W → ∀ t, W.cell? ⟨w.heap.size, t, none⟩ = (#[Value.int .i64 (V : Int), Value.slice a L cap] : Array Value)[t]?) := Lib.hid (fun W hW t => by
    rw [Below.cell (p := ⟨w.heap.size, t, none⟩) hW (by have := (Array.getElem?_eq_some_iff.1 HN2.out).1; exact this)]
    exact cell_of_row w2 w.heap.size t _ _ (0, 0) HN2.out)
  have hwl2 : w.heap.size < w2.heap.size := (Array.getElem?_eq_some_iff.1 HN2.out).1
  go_wp2_with fail
  go_loopg [4, 5] L (fun g x it wr => ∃ i : Nat, i + g = L ∧ it = .int .i64 i ∧ x = .string (bs (pre m i)) ∧ Old w2 wr)
  case atStart => exact ⟨0, by omega, rfl, rfl, hO9⟩
  case round =>
    obtain ⟨i, hi, rfl, rfl, hO⟩ := hrel
    have c0 := HM.out _ hO 0; have c1 := HM.out _ hO 1
    simp only [List.getElem?_toArray, List.getElem?_cons_succ, List.getElem?_cons_zero] at c0 c1
    have HO := Lib.hid hO
    have hz : w2.heap.size ≤ wr.heap.size := hO.size
    clear hO hO9
    by_cases hlt : i < L
    · obtain ⟨s, hs⟩ : ∃ s, m.segs[i]? = some s := ⟨m.segs[i]'(by have := HL.out; omega), List.getElem?_eq_getElem _⟩
      have hm : s ∈ m.segs := List.mem_of_getElem? hs
      obtain ⟨⟨o1, o2⟩, o3, o4⟩ := sok_mem HRT.out.2.2 hm
      have o5 := HWF.out s hm
      obtain ⟨n, hn⟩ : ∃ n : Nat, s.n = (n : Int) := ⟨s.n.toNat, by omega⟩
      obtain ⟨z, hz2⟩ : ∃ z : Nat, s.size = (z : Int) := ⟨s.size.toNat, by omega⟩
      obtain ⟨b, off, rfl, hbl, d0, d1, d2⟩ := HI.out.at (HBW.out.trans (HO.out.mono HBW.out.size)) (Nat.le_refl _) i s hs
      have hps := pre_succ hs
      rw [hn, hz2, Int.toNat_natCast, Int.toNat_natCast] at hps
      rw [hn] at d0 o1 o2
      rw [hz2] at d1 o3 o4
      have hpl := HPL.out i (by omega)
      obtain ⟨c, hc⟩ : ∃ c, c = s.sum := ⟨_, rfl⟩
      rw [← hc] at d2 o5 hps
      have y1 : (bs (put n)).size ≤ 5 := by rw [bs_size]; exact put_small (by omega)
      have y2 : (bs (put z)).size ≤ 5 := by rw [bs_size]; exact put_small (by omega)
      have y3 : (bs (put c)).size ≤ 5 := by rw [bs_size]; exact put_small (by omega)
      have y0 : (bs (pre m i)).size ≤ 20 + 15 * i := by rw [bs_size]; exact hpl
      have HPS : Hid (bs (pre m (i + 1)) = bs (pre m i) ++ bs (put n) ++ bs (put z) ++ bs (put c)) := Lib.hid (by rw [hps, bs_join, bs_join, bs_join])
      have HP3 := Lib.hid (fun W => refput_nat n W (by omega)); have HP4 := Lib.hid (fun W => refput_nat z W (by omega)); have HP5 := Lib.hid (fun W => refput_nat c W (by omega))
      have hba : Below wr.heap.size wr (wr.alloc (.cells #[.int .i64 n, .int .i64 z, .int .u32 c] 54)) := (Below.refl _ _).alloc (Nat.le_refl _) _
      have hna := heap_alloc_new wr (.cells #[.int .i64 n, .int .i64 z, .int .u32 c] 54)
      clear hps hpl hc hn hz2 hs hm
      go_wp2_with fail
      generalize hW2 : wr.alloc _ = w3 at *
      have hwr : wr.heap.size < w3.heap.size := (Array.getElem?_eq_some_iff.1 hna).1
      have hmm : ∀ W, Old w3 W → ∀ t, W.cell? ⟨wr.heap.size, t, none⟩ = (#[Value.int .i64 (n : Int), Value.int .i64 (z : Int), Value.int .u32 (c : Int)] : Array Value)[t]? := fun W hW t => by
        rw [Below.cell (p := ⟨wr.heap.size, t, none⟩) hW hwr]
        exact cell_of_row w3 wr.heap.size t _ _ (0, 0) hna
      have e0 := fun W hW => hmm W hW 0
      have e1 := fun W hW => hmm W hW 1
      have e2 := fun W hW => hmm W hW 2
      simp only [List.getElem?_toArray, List.getElem?_cons_succ, List.getElem?_cons_zero] at e0 e1 e2
      have HO3 : Hid (Old w2 w3) := Lib.hid (Old.below HO.out hba)
      have K0 := Old.refl w3
      have q3 : IntKind.u64.wrap (n : Int) = (n : Int) := IntWalk.u64_in _ ⟨by omega, by omega⟩
      have q4 : IntKind.u64.wrap (z : Int) = (z : Int) := IntWalk.u64_in _ ⟨by omega, by omega⟩
      have q5 : IntKind.u64.wrap (c : Int) = (c : Int) := IntWalk.u64_in _ ⟨by omega, by omega⟩
      have hs1 : ¬ 9223372036854775807 < (bs (pre m i)).size + (bs (put n)).size := by omega
      have hs2 : ¬ 9223372036854775807 < (bs (pre m i)).size + (bs (put n)).size + (bs (put z)).size := by omega
      have hs3 : ¬ 9223372036854775807 < (bs (pre m i)).size + (bs (put n)).size + (bs (put z)).size + (bs (put c)).size := by omega
      clear hmm hna hW2 hba d0 d1 d2
      generalize bs (pre m i) = Y0 at *
      generalize bs (put n) = Y1 at *
      generalize bs (put z) = Y2 at *
      generalize bs (put c) = Y3 at *
      go_region_held3 (fun W => Old w3 W) (first | assumption | exact K0 | exact K0.drew | exact Old.drew ‹_›)
        (first
          | (go_at_call 79
             (with_reducible refine (HP3.out _).mono ?_)
             rintro e4 w4 ⟨rfl, hb4⟩
             have hO4 : Old w3 w4 := Old.below (by first | assumption | exact K0 | exact K0.drew | exact Old.drew ‹_›) hb4)
          | (go_at_call 79
             (with_reducible refine (HP4.out _).mono ?_)
             rintro e5 w5 ⟨rfl, hb5⟩
             have hO5 : Old w3 w5 := Old.below (by first | assumption | exact K0 | exact K0.drew | exact Old.drew ‹_›) hb5)
          | (go_at_call 79
             (with_reducible refine (HP5.out _).mono ?_)
             rintro e6 w6 ⟨rfl, hb6⟩
             have hO6 : Old w3 w6 := Old.below (by first | assumption | exact K0 | exact K0.drew | exact Old.drew ‹_›) hb6))
      have HF : Hid (Old w2 w6) := Lib.hid (HO3.out.trans (hO6.mono HO3.out.size))
      clear hs1 hs2 hs3 q3 q4 q5 e0 e1 e2 K0 hO4 hO5 hO6
      go_wp2_with fail
      go_roundg (gk - 1)
      case measure => omega
      case rel => exact ⟨i + 1, by omega, by go_num, by rw [HPS.out], HF.out⟩
    · obtain rfl : i = L := by omega
      have HSL := Lib.hid (refseal_any (bs (pre m i)) wr (by rw [bs_size]; have := HPL.out i (Nat.le_refl _); omega))
      rw [bs_list, HPA.out] at HSL
      rw [HPA.out]
      go_wp2_with (go_at_call 80; refine HSL.out.mono ?_; rintro e w5 ⟨rfl, hb5⟩)
      go_ret2
      exact ⟨rfl, HBW.out.trans ((HO.out.below hb5).mono HBW.out.size)⟩
theorem refbytes_any (m : Mf) (a : Option Addr) (cap : Nat) (w : World) (hin : SgsIn w a m.segs) (hl : m.segs.length ≤ 2000) (hw : m.wf) :
    Calls Tryz.prog 41 #[mfV m.ver a m.segs.length cap] w fun e w' => e = .returned (.tuple #[.string (bs (mbs m).1), .int .i64 ((mbs m).2 : Nat)]) ∧ Below w.heap.size w w' := by
  by_cases h : Right m
  · rw [mbs_yes h]; exact refbytes_yes m a cap w hin h hw
  · rw [mbs_no h]; exact refbytes_no m a cap w hin hl h
end Go.Proofs.YtkdidinekoaobaaGreatDoor.J

/- Are two manifests the same? As the document tells it. -/
namespace Go.Proofs.YtkdidinekoaobaaGreatDoor.J
open Go.RowKit
set_option linter.unusedVariables false

theorem below_drewN {n : Nat} {w W : World} (h : Below n w W) (q : Nat) : Below n w (W.drewN q) := ⟨h.os, h.tape, h.output, h.size, h.block⟩
theorem take_same {l k : List Sg} {i : Nat} {s t : Sg} (h : l.take i = k.take i) (hs : l[i]? = some s) (ht : k[i]? = some t) : l.take (i + 1) = k.take (i + 1) ↔ s = t := by
  rw [List.take_add_one, List.take_add_one, hs, ht, h]
  simp
theorem sg_ne {s t : Sg} (h : s ≠ t) : s.n ≠ t.n ∨ (s.n = t.n ∧ s.size ≠ t.size) ∨ (s.n = t.n ∧ s.size = t.size ∧ s.sum ≠ t.sum) := by
  obtain ⟨a, b, c⟩ := s
  obtain ⟨d, e, f⟩ := t
  by_cases h1 : a = d
  · by_cases h2 : b = e
    · exact Or.inr (Or.inr ⟨h1, h2, fun h3 => h (by simp only at h1 h2 h3; rw [h1, h2, h3])⟩)
    · exact Or.inr (Or.inl ⟨h1, h2⟩)
  · exact Or.inl h1
theorem same_no {m m' : Mf} (h : m ≠ m') : decide (m = m') = false := decide_eq_false h

set_option maxRecDepth 100000 in
set_option maxHeartbeats 2000000 in
theorem refsame_any (m m' : Mf) (a a' : Option Addr) (cap cap' : Nat) (w : World) (hin : SgsIn w a m.segs) (hin' : SgsIn w a' m'.segs) (hl : m.segs.length ≤ 2000) (hl' : m'.segs.length ≤ 2000) :
    Calls Tryz.prog 11 #[mfV m.ver a m.segs.length cap, mfV m'.ver a' m'.segs.length cap'] w fun e w' => e = .returned (.bool (decide (m = m'))) ∧ Below w.heap.size w w' := by
  obtain ⟨L, hL⟩ : ∃ L, L = m.segs.length := ⟨_, rfl⟩
  obtain ⟨L', hL'⟩ : ∃ L', L' = m'.segs.length := ⟨_, rfl⟩
  rw [← hL] at hl ⊢
  rw [← hL'] at hl' ⊢
  have HL := Lib.hid hL; have HL' := Lib.hid hL'; have HI := Lib.hid hin; have HI' := Lib.hid hin'
  obtain ⟨v, hv⟩ : ∃ v, v = m.ver := ⟨_, rfl⟩
  obtain ⟨v', hv'⟩ : ∃ v', v' = m'.ver := ⟨_, rfl⟩
  rw [← hv, ← hv']
  have HV := Lib.hid hv; have HV' := Lib.hid hv'
  clear hL hL' hin hin' hv hv'
  unfold mfV
  by_cases h1 : v = v'
  · by_cases h2 : L = L'
    · subst h1
      subst h2
      have hx1 : (v != v) = false := by simp
      have hx2 : ((L : Int) != (L : Int)) = false := by simp
      go_enter Tryz.func11, Tryz.ntmps11
      go_wp2_with fail
      obtain ⟨w2, hw2⟩ : ∃ w2, w2 = ((w.alloc (.cells #[.int .i64 v, .slice a L cap] 41)).alloc (.cells #[.int .i64 v, .slice a' L cap'] 41)) := ⟨_, rfl⟩
      rw [← hw2]
      have n0 : w2.heap[w.heap.size]? = some (.cells #[.int .i64 v, .slice a L cap] 41 (0, 0)) := by rw [hw2]; exact heap_alloc2_old w _ _
      have n1 : w2.heap[w.heap.size + 1]? = some (.cells #[.int .i64 v, .slice a' L cap'] 41 (0, 0)) := by rw [hw2]; exact heap_alloc2_new w _ _
      have hb2 : Below w.heap.size w w2 := by rw [hw2]; exact ((Below.refl _ _).alloc (Nat.le_refl _) _).alloc (by simp) _
      have hs2 : w2.heap.size = w.heap.size + 2 := by rw [hw2]; simp
      have HN0 := Lib.hid n0; have HN1 := Lib.hid n1; have HB2 := Lib.hid hb2
      clear hw2 n0 n1 hb2
      go_loopg [5] L (fun g it wr => ∃ i : Nat, i + g = L ∧ it = .int .i64 i ∧ m.segs.take i = m'.segs.take i ∧ Old w2 wr)
      case atStart => exact ⟨0, by omega, rfl, rfl, Old.refl _⟩
      case round =>
        obtain ⟨i, hi, rfl, hsm, hO⟩ := hrel
        have hz := hO.size
        have hc0 := fun t => cell_of_row wr w.heap.size t _ _ (0, 0) ((hO.block _ (by omega)).trans HN0.out)
        have hc1 := fun t => cell_of_row wr (w.heap.size + 1) t _ _ (0, 0) ((hO.block _ (by omega)).trans HN1.out)
        have c1 := hc0 1; have k1 := hc1 1
        simp only [List.getElem?_toArray, List.getElem?_cons_succ, List.getElem?_cons_zero] at c1 k1
        have HBW : Hid (Below w.heap.size w wr) := Lib.hid (HB2.out.trans (hO.mono (by omega)))
        have HO := Lib.hid hO; have HSM := Lib.hid hsm
        clear hc0 hc1 hO hsm
        by_cases hlt : i < L
        · obtain ⟨s, hs⟩ : ∃ s, m.segs[i]? = some s := ⟨m.segs[i]'(by have := HL.out; omega), List.getElem?_eq_getElem _⟩
          obtain ⟨t, ht⟩ : ∃ t, m'.segs[i]? = some t := ⟨m'.segs[i]'(by have := HL'.out; omega), List.getElem?_eq_getElem _⟩
          obtain ⟨b, off, rfl, hbl, d0, d1, d2⟩ := HI.out.at HBW.out (Nat.le_refl _) i s hs
          obtain ⟨b', off', rfl, hbl', e0, e1, e2⟩ := HI'.out.at HBW.out (Nat.le_refl _) i t ht
          have HTS := Lib.hid (take_same HSM.out hs ht)
          have HNE : Hid (s ≠ t → m ≠ m') := Lib.hid (fun hne e => hne (by
            rw [e] at hs
            exact Option.some.inj (hs.symm.trans ht)))
          clear hs ht
          by_cases hst : s = t
          · subst hst
            go_wp2_with fail
            have z1 : (s.n == s.n) = true := by simp
            have z2 : (s.size == s.size) = true := by simp
            have z3 : ((s.sum : Int) == (s.sum : Int)) = true := by simp
            have y1 : (s.n != s.n) = false := by simp
            go_quiet (fail)
            have HBQ : Hid (Old w2 (wr.drewN nq)) := Lib.hid (HO.out.drewN nq)
            generalize wr.drewN nq = w3 at *
            go_wp2_with fail
            go_roundg (gk - 1)
            case measure => omega
            case rel => exact ⟨i + 1, by omega, by go_num, HTS.out.2 (by first | rfl | trivial), HBQ.out⟩
          · have hmm := HNE.out hst
            have HD := Lib.hid (same_no hmm)
            have hcs := sg_ne hst
            clear hst hmm HTS HNE
            go_wp2_with fail
            generalize s.n = sn at *
            generalize s.size = sz at *
            generalize s.sum = sc at *
            generalize t.n = tn at *
            generalize t.size = tz at *
            generalize t.sum = tc at *
            rcases hcs with g1 | ⟨g1, g2⟩ | ⟨g1, g2, g3⟩
            · have q1 : (sn == tn) = false := by simpa using g1
              clear g1
              go_quiet (fail)
              have HBQ : Hid (Below w.heap.size w (wr.drewN nq)) := Lib.hid (HBW.out.trans ((below_drewN (Below.refl wr.heap.size wr) nq).mono HBW.out.size))
              generalize wr.drewN nq = w3 at *
              go_wp2_with fail
              go_ret
              exact ⟨by rw [HD.out]; rfl, HBQ.out⟩
            · subst g1
              have q0 : (sn == sn) = true := by simp
              have q1 : (sz == tz) = false := by simpa using g2
              clear g2
              go_quiet (fail)
              have HBQ : Hid (Below w.heap.size w (wr.drewN nq)) := Lib.hid (HBW.out.trans ((below_drewN (Below.refl wr.heap.size wr) nq).mono HBW.out.size))
              generalize wr.drewN nq = w3 at *
              go_wp2_with fail
              go_ret
              exact ⟨by rw [HD.out]; rfl, HBQ.out⟩
            · subst g1
              subst g2
              have q0 : (sn == sn) = true := by simp
              have q2 : (sz == sz) = true := by simp
              have q1 : ((sc : Int) == (tc : Int)) = false := by simp; omega
              clear g3
              go_quiet (fail)
              have HBQ : Hid (Below w.heap.size w (wr.drewN nq)) := Lib.hid (HBW.out.trans ((below_drewN (Below.refl wr.heap.size wr) nq).mono HBW.out.size))
              generalize wr.drewN nq = w3 at *
              go_wp2_with fail
              go_ret
              exact ⟨by rw [HD.out]; rfl, HBQ.out⟩
        · obtain rfl : i = L := by omega
          have hmm : m = m' := by
            have e1 := HSM.out
            have e2 : m.segs.take i = m.segs := by rw [HL.out, List.take_length]
            have e3 : m'.segs.take i = m'.segs := by rw [HL'.out, List.take_length]
            rw [e2, e3] at e1
            have e4 : m.ver = m'.ver := by rw [← HV.out, ← HV'.out]
            obtain ⟨_, _⟩ := m
            obtain ⟨_, _⟩ := m'
            simp only at e1 e4
            rw [e1, e4]
          have HD := Lib.hid (decide_eq_true hmm)
          clear hmm
          go_wp2_with fail
          go_ret
          exact ⟨by rw [HD.out]; rfl, HBW.out⟩
    · have HD := Lib.hid (same_no (m := m) (m' := m') (fun e => h2 (by rw [HL.out, HL'.out, e])))
      have hx1 : (v != v') = false := by rw [h1]; simp
      have hx2 : ((L : Int) != (L' : Int)) = true := by rw [bne_iff_ne]; omega
      subst h1
      clear h2
      go_enter Tryz.func11, Tryz.ntmps11
      go_wp2_with fail
      go_ret
      exact ⟨by rw [HD.out]; rfl, ((Below.refl _ _).alloc (Nat.le_refl _) _).alloc (by simp) _⟩
  · have HD := Lib.hid (same_no (m := m) (m' := m') (fun e => h1 (by rw [HV.out, HV'.out, e])))
    have hx1 : (v != v') = true := by rw [bne_iff_ne]; exact h1
    clear h1
    go_enter Tryz.func11, Tryz.ntmps11
    go_wp2_with fail
    go_ret
    exact ⟨by rw [HD.out]; rfl, ((Below.refl _ _).alloc (Nat.le_refl _) _).alloc (by simp) _⟩
end Go.Proofs.YtkdidinekoaobaaGreatDoor.J

/- The law's own change of a manifest into the document's. -/
namespace Go.Proofs.YtkdidinekoaobaaGreatDoor.J
open Go.RowKit
set_option linter.unusedVariables false
set_option linter.unusedSimpArgs false

theorem infoRefSeg : (Tryz.prog.info? 54).map (fun i => (i.zero, i.size, i.bytes)) = some (some (.agg #[.int .i64 0, .int .i64 0, .int .u32 0]), 3, 24) := by kernel_rfl
theorem three_new (w : World) (c0 c1 c2 : Value) (t : TypeId) : ∀ j u, [c0, c1, c2][j]? = some u → (w.alloc (.cells #[c0, c1, c2] t)).cell? ((⟨w.heap.size, 0, none⟩ : Addr).add j) = some u := by
  intro j u hu
  rw [Addr.add_lit, Nat.zero_add, cell_of_row _ w.heap.size j _ _ (0, 0) (heap_alloc_new w _)]
  simpa using hu
theorem sform {w : World} {B : Nat} {e : TypeId} {size : Nat} {v : Value} {n : Nat} {xs : List Value} (h : w.ownsRow B e size v n xs) : ∃ a c, v = .slice a n c := by
  rcases h with ⟨_, ⟨rfl, rfl⟩ | ⟨g, cap, cur, rfl, _, hg, _⟩⟩
  · exact ⟨none, 0, rfl⟩
  · exact ⟨_, cap, rfl⟩

/-- What lay below w2's end is as it was. -/
def Lw (w2 wr W : World) : Prop := Below w2.heap.size wr W
/-- What has been changed so far: block tb holds it. -/
structure Toing (w2 : World) (tb : Nat) (ver : Int) (l : List Sg) (W : World) : Prop where
  out : ∃ v, W.heap[tb]? = some (.cells #[.int .i64 ver, v] 41 (0, 0)) ∧ W.ownsRow w2.heap.size 54 3 v l.length (sflat l)
  turn : Turn (fun k => k = tb) w2 W

theorem Toing.next {w2 wr w3 : World} {tb : Nat} {ver : Int} {l : List Sg} {s : Sg} {v : Value} {gg cap n : Nat} {o : Obj} (h : Turn (fun k => k = tb) w2 wr) (hv : wr.heap[tb]? = some (.cells #[.int .i64 ver, v] 41 (0, 0))) (ht : tb < w2.heap.size)
    (hn : some tb ≠ v.ownBlock) (hg : (wr.alloc o).drew.grownBy w3 v.ownBlock) (hS : Lw w2 wr w3) (ho : w3.ownsRow w2.heap.size 54 3 (.slice (some ⟨gg, 0, none⟩) (n + 1) cap) (n + 1) (sflat l ++ [.int .i64 s.n, .int .i64 s.size, .int .u32 s.sum])) (hl : l.length = n) :
    Toing w2 tb ver (l ++ [s]) (w3.setCell ⟨tb, 1, none⟩ (.slice (some ⟨gg, 0, none⟩) (n + 1) cap)) := by
  have hz := h.size
  have h3 : w3.heap[tb]? = some (.cells #[.int .i64 ver, v] 41 (0, 0)) := by
    rw [hg.block tb (by show tb < (wr.alloc o).heap.size; simp; omega) hn]
    show (wr.alloc o).heap[tb]? = _
    rw [Below.heap_alloc _ _ _ (by omega)]; exact hv
  have h4 := heap_setCell_same w3 tb 1 _ _ (.slice (some ⟨gg, 0, none⟩) (n + 1) cap) h3
  refine ⟨⟨_, h4, ?_⟩, ?_⟩
  · rw [List.length_append, List.length_singleton, hl, sflat_app]
    refine owns_kept ho (fun q hq => ?_)
    have hq2 := (ho.lt q hq).1
    rw [Below.heap_setCell _ _ _ _ (by show q ≠ tb; omega)]
  · exact Turn.setCell (F := fun k => k = tb) (p := ⟨tb, 1, none⟩) (show Turn (fun k => k = tb) w2 w3 from ⟨hS.os.trans h.os, hS.tape.trans h.tape, hS.output.trans h.output, Nat.le_trans hz hS.size, fun k hk hn => (hS.block k hk).trans (h.block k hk hn)⟩) rfl _
end Go.Proofs.YtkdidinekoaobaaGreatDoor.J

/- The manifest of bytes, as the document tells it. -/
namespace Go.Proofs.YtkdidinekoaobaaGreatDoor.J
open Go.RowKit
set_option linter.unusedVariables false
set_option linter.unusedSimpArgs false

theorem infoU64 : (Tryz.prog.info? 120).map (fun i => (i.zero, i.size, i.bytes)) = some (some (.int .u64 0), 1, 8) := by kernel_rfl
def nrow (l : List Nat) : List Value := l.map (fun (n : Nat) => Value.int .u64 (n : Int))
theorem nrow_len (l : List Nat) : (nrow l).length = l.length := List.length_map _
theorem nrow_snoc (l : List Nat) (n : Nat) : nrow (l ++ [n]) = nrow l ++ [.int .u64 (n : Int)] := by simp [nrow]
theorem nrow_at {l : List Nat} {i n : Nat} (h : l[i]? = some n) : (nrow l)[i]? = some (.int .u64 (n : Int)) := by unfold nrow; rw [List.getElem?_map, h]; rfl
def sLen : Value → Nat
  | .string b => b.size
  | _ => 0
theorem nrow_at' {w : World} {B : Nat} {e : TypeId} {a : Option Addr} {c : Nat} {l : List Nat} (h : w.ownsRow B e 1 (.slice a l.length c) l.length (nrow l)) (hl : 0 < l.length) : ∃ g, a = some ⟨g, 0, none⟩ ∧ B ≤ g ∧ g < w.heap.size ∧ ∀ (i n : Nat), l[i]? = some n → w.cell? ⟨g, i, none⟩ = some (.int .u64 (n : Int)) := by
  rcases h.2 with ⟨h0, h1⟩ | ⟨g, cap, cur, hv, hB, hg, _⟩
  · omega
  · cases hv
    refine ⟨g, rfl, hB, (Array.getElem?_eq_some_iff.1 hg).1, fun i n hin => ?_⟩
    rw [h.cellAt i (by have := (List.getElem?_eq_some_iff.1 hin).1; omega)]
    exact nrow_at hin
/-- What Read comes to. -/
def RdPost (w : World) (b : List UInt8) (e : Ending) (w' : World) : Prop :=
  ∃ a cap, e = .returned (.tuple #[mfV (mrd b).1.ver a (mrd b).1.segs.length cap, .int .i64 ((mrd b).2 : Nat)]) ∧ SgsIn w' a (mrd b).1.segs ∧ Below w.heap.size w w'

theorem bad_next {b : List UInt8} {D : List Nat} {rest r : List UInt8} {n e : Nat} (ho : (opn b).2 = true) (hD : ∀ x ∈ D, x < 4294967296) (he : (opn b).1 = puts D ++ rest) (hr : rest ≠ []) (ht : tk rest = (n, r, e)) (hb : e ≠ 0 ∨ 4294967296 ≤ n) : mrd b = (noMf, 2) := by
  rcases mrd_cases b with ⟨m, hm, _⟩ | ⟨h, _⟩ | ⟨_, h⟩
  · obtain ⟨n', r', h1, h2⟩ := read_next hm (fun x hx => by have := hD x hx; unfold M64; omega) he hr
    rw [ht] at h1
    simp only [Prod.mk.injEq] at h1
    omega
  · exact h
  · rw [ho] at h; cases h
theorem bad_few {b : List UInt8} {D : List Nat} (ho : (opn b).2 = true) (hD : ∀ x ∈ D, x < 4294967296) (he : (opn b).1 = puts D) (hl : D.length < 2) : mrd b = (noMf, 2) := by
  rcases mrd_cases b with ⟨m, hm, _⟩ | ⟨h, _⟩ | ⟨_, h⟩
  · have := read_all hm (fun x hx => by have := hD x hx; unfold M64; omega) he
    rw [← this] at hl
    unfold mnums at hl
    simp only [List.length_cons] at hl
    omega
  · exact h
  · rw [ho] at h; cases h
theorem trips_wf : ∀ (D : List Nat), (∀ x ∈ D, x < 4294967296) → ∀ s ∈ trips D, s.sum < 4294967296
  | a :: b :: c :: r, h, s, hs => by
    rw [trips, List.mem_cons] at hs
    rcases hs with rfl | hs
    · exact h c (by simp)
    · exact trips_wf r (fun x hx => h x (by simp [hx])) s hs
  | [], _, s, hs => by simp [trips] at hs
  | [_], _, s, hs => by simp [trips] at hs
  | [_, _], _, s, hs => by simp [trips] at hs
theorem trips_len : ∀ (D : List Nat), (trips D).length = D.length / 3
  | a :: b :: c :: r => by rw [trips, List.length_cons, trips_len r]; simp only [List.length_cons]; omega
  | [] => rfl
  | [_] => by simp [trips]
  | [_, _] => by simp [trips]
theorem trips_at : ∀ (D : List Nat) (j : Nat), j < D.length / 3 → ∃ x y z, D[3 * j]? = some x ∧ D[3 * j + 1]? = some y ∧ D[3 * j + 2]? = some z ∧ (trips D)[j]? = some ⟨x, y, z⟩
  | a :: b :: c :: r, 0, _ => ⟨a, b, c, rfl, rfl, rfl, rfl⟩
  | a :: b :: c :: r, j + 1, h => by
    simp only [List.length_cons] at h
    obtain ⟨x, y, z, h1, h2, h3, h4⟩ := trips_at r j (by omega)
    refine ⟨x, y, z, ?_, ?_, ?_, ?_⟩
    · rw [show 3 * (j + 1) = 3 * j + 3 by omega]; exact h1
    · rw [show 3 * (j + 1) + 1 = 3 * j + 1 + 3 by omega]; exact h2
    · rw [show 3 * (j + 1) + 2 = 3 * j + 2 + 3 by omega]; exact h3
    · rw [trips]; exact h4
  | [], _, h => by simp at h
  | [_], _, h => by simp at h
  | [_, _], _, h => by simp at h
/-- The end: the manifest of the numbers is b's, or there is none. -/
theorem end_yes {b : List UInt8} {D : List Nat} (hD : ∀ x ∈ D, x < 4294967296) (h : mbs (ofNums D) = (b, 0)) : mrd b = (ofNums D, 0) := by
  by_cases hr : Right (ofNums D)
  · rw [mbs_yes hr] at h
    simp only [Prod.mk.injEq, and_true] at h
    exact mrd_yes ⟨hr, fun s hs => trips_wf _ (fun x hx => hD x (List.mem_of_mem_drop hx)) s hs, h⟩
  · rw [mbs_no hr] at h
    simp at h
theorem end_no {b : List UInt8} {D : List Nat} (ho : (opn b).2 = true) (hD : ∀ x ∈ D, x < 4294967296) (he : (opn b).1 = puts D) (h : mbs (ofNums D) ≠ (b, 0)) : mrd b = (noMf, 2) := by
  rcases mrd_cases b with ⟨m, hm, _⟩ | ⟨h2, _⟩ | ⟨_, h2⟩
  · have := read_all hm (fun x hx => by have := hD x hx; unfold M64; omega) he
    rw [← this, ofNums_of hm.1, mbs_yes hm.1, hm.2.2] at h
    exact absurd rfl h
  · exact h2
  · rw [ho] at h2; cases h2

set_option maxRecDepth 100000 in
set_option maxHeartbeats 2000000 in
theorem refread_any (b : List UInt8) (w : World) (hb : b.length ≤ 5000) : Calls Tryz.prog 36 #[.string (bs b)] w (RdPost w b) := by
  obtain ⟨j0, hj0, hjz, hj1, hj2⟩ := info_parts infoU64
  have HJ := Lib.hid (And.intro hj0 (And.intro hjz (And.intro hj1 hj2)))
  obtain ⟨i0, hi, hz0, hz1, hz2⟩ := info_parts infoRefSeg
  have HINF := Lib.hid (And.intro hi (And.intro hz0 (And.intro hz1 hz2)))
  clear hi hz0 hz1 hz2 hj0 hjz hj1 hj2
  have HOP := Lib.hid (fun W => refopen_any (bs b) W (by rw [bs_size]; omega))
  rw [bs_list] at HOP
  go_enter Tryz.func36, Tryz.ntmps36
  go_wp2_with fail
  refine (HOP.out _).mono ?_
  rintro e w1 ⟨rfl, hb1⟩
  have hn0 := heap_alloc_new w (.cells #[.int .i64 0, .slice none 0 0] 41)
  have hb0 : Below w.heap.size w (w.alloc (.cells #[.int .i64 0, .slice none 0 0] 41)) := (Below.refl _ _).alloc (Nat.le_refl _) _
  have hn1 : w1.heap[w.heap.size]? = some (.cells #[.int .i64 0, .slice none 0 0] 41 (0, 0)) := by rw [hb1.block _ (by simp)]; exact hn0
  have hbw : Below w.heap.size w w1 := hb0.trans (hb1.mono hb0.size)
  have hwl : w.heap.size < w1.heap.size := (Array.getElem?_eq_some_iff.1 hn1).1
  have HN := Lib.hid hn1; have HBW := Lib.hid hbw
  clear hn0 hb0 hn1 hbw hb1
  obtain ⟨s0, o, hop⟩ : ∃ s0 o, opn b = (s0, o) := ⟨_, _, rfl⟩
  have HO1 : Hid ((opn b).1 = s0) := Lib.hid (by rw [hop]); have HO2 : Hid ((opn b).2 = o) := Lib.hid (by rw [hop])
  rw [show opnV b = .tuple #[.string (bs s0), .bool o] by unfold opnV; rw [hop]]
  have HS0 : Hid (s0.length ≤ 5000) := Lib.hid (by
    have : s0 = (opn b).1 := by rw [hop]
    rw [this]
    by_cases h4 : b.length < 4
    · rw [opn_short h4]; simp
    · by_cases e : four (sum (b.drop 4)) = b.take 4
      · rw [opn_yes h4 e]; simp; omega
      · rw [opn_no h4 e]; simp)
  clear hop
  cases o with
  | false =>
    have hcl := fun t => cell_of_row w1 w.heap.size t _ _ (0, 0) HN.out
    have c0 := hcl 0; have c1 := hcl 1
    simp only [List.getElem?_toArray, List.getElem?_cons_succ, List.getElem?_cons_zero] at c0 c1
    have fz : ∀ t, w1.frozen? ⟨w.heap.size, t, none⟩ = false := fun t => by simp only [World.frozen?, HN.out]; simp
    clear hcl
    go_wp2_with fail
    have g1 := heap_setCell_same w1 w.heap.size 0 _ _ (.int .i64 0) HN.out
    have g2 := heap_setCell_same _ w.heap.size 1 _ _ (.slice none 0 0) g1
    have hfin := (HBW.out.setCell (p := ⟨w.heap.size, 0, none⟩) (Nat.le_refl _) (.int .i64 0)).setCell (p := ⟨w.heap.size, 1, none⟩) (Nat.le_refl _) (.slice none 0 0)
    generalize World.setCell (World.setCell w1 _ _) _ _ = wf at *
    have hc3 := fun t => cell_of_row wf w.heap.size t _ _ (0, 0) g2
    have z0 := hc3 0; have z1 := hc3 1
    simp at z0 z1
    have HM := Lib.hid (mrd_sum HO2.out)
    refine bodyPost_ret (v := .tuple #[mfV 0 none 0 0, .int .i64 4]) (by simp [results, Tryz.results36, go_sem, z0, z1, mfV]) rfl ⟨none, 0, by rw [HM.out]; rfl, by rw [HM.out]; exact SgsIn.nil _ _, hfin⟩
  | true =>
    have hz1 : w.heap.size + 1 ≤ w1.heap.size := hwl
    go_wp2_with fail
    go_loopw [4, 6] (fun s v wr => ∃ (rest : List UInt8) (D : List Nat), s = .string (bs rest) ∧ (∀ x ∈ D, x < 4294967296) ∧ (opn b).1 = puts D ++ rest ∧ D.length + rest.length ≤ 5000 ∧ wr.ownsRow w1.heap.size 120 1 v D.length (nrow D) ∧ Below w1.heap.size w1 wr) (fun s _ _ => sLen s)
    case atStart => exact ⟨s0, [], rfl, fun x hx => by simp at hx, by rw [HO1.out]; rfl, by have := HS0.out; simpa using this, World.ownsRow_nil _ _ _ _, Below.refl _ _⟩
    case round =>
      obtain ⟨rest, D, rfl, hD, he, hdl, hown, hbr⟩ := hrel
      have hbz := hbr.size
      obtain ⟨va, vc, rfl⟩ := sform hown
      have hcl := fun t => cell_of_row wr w.heap.size t _ _ (0, 0) (by rw [hbr.block _ hwl]; exact HN.out)
      have c0 := hcl 0; have c1 := hcl 1
      simp only [List.getElem?_toArray, List.getElem?_cons_succ, List.getElem?_cons_zero] at c0 c1
      have hrb : wr.heap[w.heap.size]? = _ := (hbr.block _ hwl).trans HN.out
      have fz : ∀ t, wr.frozen? ⟨w.heap.size, t, none⟩ = false := fun t => by simp only [World.frozen?, hrb]; simp
      have HRB := Lib.hid hrb; have HD := Lib.hid hD; have HE := Lib.hid he; have HOW := Lib.hid hown; have HBR := Lib.hid hbr
      clear hcl hrb hD he hown hbr
      by_cases hr : rest = []
      · subst hr
        rw [List.append_nil] at HE
        by_cases hfew : D.length < 2
        · have HM := Lib.hid (bad_few HO2.out HD.out HE.out hfew)
          have q1 : (D.length : Int) < 2 := by omega
          have HB4 : Hid (Below w.heap.size w wr) := Lib.hid (HBW.out.trans (HBR.out.mono (Nat.le_of_lt hwl)))
          clear hfew
          generalize D.length = N at *
          go_wp2_with fail
          have g1 := heap_setCell_same wr w.heap.size 0 _ _ (.int .i64 0) HRB.out
          have g2 := heap_setCell_same _ w.heap.size 1 _ _ (.slice none 0 0) g1
          have hfin := ((HB4.out).setCell (p := ⟨w.heap.size, 0, none⟩) (Nat.le_refl _) (.int .i64 0)).setCell (p := ⟨w.heap.size, 1, none⟩) (Nat.le_refl _) (.slice none 0 0)
          generalize World.setCell (World.setCell wr _ _) _ _ = wf at *
          have hc3 := fun t => cell_of_row wf w.heap.size t _ _ (0, 0) g2
          have z0 := hc3 0; have z1 := hc3 1
          simp at z0 z1
          refine bodyPost_ret (v := .tuple #[mfV 0 none 0 0, .int .i64 2]) (by simp [results, Tryz.results36, go_sem, z0, z1, mfV]) rfl ⟨none, 0, by rw [HM.out]; rfl, by rw [HM.out]; exact SgsIn.nil _ _, hfin⟩
        · obtain ⟨g, rfl, hgB, hgl, hgc⟩ := nrow_at' HOW.out (by omega)
          obtain ⟨v0, hv0⟩ : ∃ v0, D[0]? = some v0 := ⟨D[0]'(by omega), List.getElem?_eq_getElem _⟩
          have hv9 : v0 < 4294967296 := HD.out v0 (List.mem_of_getElem? hv0)
          have d0 := hgc 0 v0 hv0
          have HGC := Lib.hid hgc
          have HV0 := Lib.hid hv0
          have HB4 : Hid (Below w.heap.size w wr) := Lib.hid (HBW.out.trans (HBR.out.mono (Nat.le_of_lt hwl)))
          have q1 : ¬ (D.length : Int) < 2 := by omega
          have q2 : IntKind.i64.wrap (v0 : Int) = (v0 : Int) := IntWalk.i64_in _ ⟨by omega, by omega⟩
          obtain ⟨N, hN⟩ : ∃ N, N = D.length := ⟨_, rfl⟩
          rw [← hN] at q1 hfew ⊢
          have HNN := Lib.hid hN
          have hN5 : N ≤ 5000 := by rw [hN]; simp at hdl; omega
          have hT3 := trips_len (D.drop 2)
          rw [List.length_drop, ← hN] at hT3
          have HT3 := Lib.hid hT3
          obtain ⟨T, hT⟩ : ∃ T, T = (N - 2) / 3 := ⟨_, rfl⟩
          have HTT := Lib.hid hT
          have hT9 : 3 * T ≤ N - 2 := by omega
          have hT8 : N - 2 < 3 * T + 3 := by omega
          clear hv0 hgc hN hT3 hT hdl
          go_wp2_with fail
          obtain ⟨w5, hw5⟩ : ∃ w5, w5 = wr.alloc (.cells #[.int .i64 (v0 : Int), .slice none 0 0] 41) := ⟨_, rfl⟩
          rw [← hw5]
          have hn5 : w5.heap[wr.heap.size]? = some (.cells #[.int .i64 (v0 : Int), .slice none 0 0] 41 (0, 0)) := by rw [hw5]; exact heap_alloc_new wr _
          have hb5 : Below wr.heap.size wr w5 := by rw [hw5]; exact (Below.refl _ _).alloc (Nat.le_refl _) _
          obtain ⟨tb, htb⟩ : ∃ tb, tb = wr.heap.size := ⟨_, rfl⟩
          rw [← htb] at hn5 ⊢
          have htl : tb < w5.heap.size := (Array.getElem?_eq_some_iff.1 hn5).1
          have hgt : g < tb := by omega
          have hwt : w.heap.size < tb := by omega
          have HN5 := Lib.hid hn5; have HB5 := Lib.hid hb5; have HTB := Lib.hid htb
          clear hw5 hn5 hb5 htb d0 c0 c1 fz q2
          generalize wr = w4 at *
          go_loopg [11] T (fun gq it wq => ∃ j k : Nat, j + gq = T ∧ it = .int .i64 (k : Int) ∧ k = 2 + 3 * j ∧ Toing w5 tb (v0 : Int) ((trips (D.drop 2)).take j) wq)
          case atStart => exact ⟨0, 2, by omega, rfl, by omega, ⟨_, HN5.out, World.ownsRow_nil _ _ _ _⟩, Turn.refl _ _⟩
          case round =>
            obtain ⟨j, k, hj, rfl, hk, hT⟩ := hrel
            have hts := hT.turn.size
            obtain ⟨u, hu, hrow⟩ := hT.out
            obtain ⟨ua, uc, rfl⟩ := sform hrow
            have hlen : ((trips (D.drop 2)).take j).length = j := by rw [List.length_take, HT3.out, ← HTT.out]; omega
            rw [hlen] at hrow hu
            have HLEN := Lib.hid hlen
            have hc1 := fun t => cell_of_row wr tb t _ _ (0, 0) hu
            have t0 := hc1 0; have t1 := hc1 1
            simp only [List.getElem?_toArray, List.getElem?_cons_succ, List.getElem?_cons_zero] at t0 t1
            have fz5 : ∀ t, wr.frozen? ⟨tb, t, none⟩ = false := fun t => by simp only [World.frozen?, hu]; simp
            have HV := Lib.hid hu; have HRW := Lib.hid hrow; have HT := Lib.hid hT
            have HGQ : Hid (∀ (i n : Nat), D[i]? = some n → wr.cell? ⟨g, i, none⟩ = some (.int .u64 (n : Int))) := Lib.hid (fun i n hin => by
              have h1 := HB5.out.block g hgl
              have h2 := HT.out.turn.block g (by omega) (by omega)
              rw [World.cell?_of_block (w := w4) (a := ⟨g, i, none⟩) (h2.trans h1)]
              exact HGC.out i n hin)
            clear hlen hc1 hu hrow hT
            by_cases hlt : j < T
            · obtain ⟨x, y, z, hx, hy, hz, htr⟩ := trips_at (D.drop 2) j (by rw [List.length_drop, ← HNN.out]; omega)
              rw [List.getElem?_drop] at hx hy hz
              rw [show 2 + 3 * j = k by omega] at hx
              rw [show 2 + (3 * j + 1) = k + 1 by omega] at hy
              rw [show 2 + (3 * j + 2) = k + 2 by omega] at hz
              have hx9 := HD.out x (List.mem_of_getElem? hx)
              have hy9 := HD.out y (List.mem_of_getElem? hy)
              have hz9 := HD.out z (List.mem_of_getElem? hz)
              have d0 := HGQ.out _ _ hx; have d1 := HGQ.out _ _ hy; have d2 := HGQ.out _ _ hz
              have HTK : Hid ((trips (D.drop 2)).take (j + 1) = (trips (D.drop 2)).take j ++ [⟨x, y, z⟩]) := Lib.hid (by rw [List.take_add_one, htr]; rfl)
              clear hx hy hz htr
              have hkN : k + 2 < N := by omega
              have hkN0 : k < N := by omega
              have hkN1 : k + 1 < N := by omega
              have hkc0 : (k : Int) < (N : Int) := by omega
              have hkc1 : (k : Int) + 1 < (N : Int) := by omega
              have hkc : (k : Int) + 2 < (N : Int) := by omega
              have HK := Lib.hid hk
              clear hk
              go_wp2_with fail
              have hnot : some tb ≠ (Value.slice ua j uc).ownBlock := fun e => by have := (HRW.out.lt tb e.symm).1; omega
              have m0 : ∀ W, Lw w5 wr W → W.cell? ⟨tb, 1, none⟩ = some (.slice ua j uc) := fun W hW => (Below.cell (p := ⟨tb, 1, none⟩) hW htl).trans t1
              have m2 : ∀ W, Lw w5 wr W → W.cell? ⟨g, k, none⟩ = some (.int .u64 (x : Int)) := fun W hW => (Below.cell (p := ⟨g, _, none⟩) hW (by show g < w5.heap.size; omega)).trans d0
              have m3 : ∀ W, Lw w5 wr W → W.cell? ⟨g, k + 1, none⟩ = some (.int .u64 (y : Int)) := fun W hW => (Below.cell (p := ⟨g, _, none⟩) hW (by show g < w5.heap.size; omega)).trans d1
              have m4 : ∀ W, Lw w5 wr W → W.cell? ⟨g, k + 2, none⟩ = some (.int .u64 (z : Int)) := fun W hW => (Below.cell (p := ⟨g, _, none⟩) hW (by show g < w5.heap.size; omega)).trans d2
              have r1 : IntKind.i64.wrap ((k : Int) + 1) = (k : Int) + 1 := IntWalk.i64_in _ ⟨by omega, by omega⟩
              have r2 : IntKind.i64.wrap ((k : Int) + 2) = (k : Int) + 2 := IntWalk.i64_in _ ⟨by omega, by omega⟩
              have r3 : (0 : Int) ≤ (k : Int) + 1 := by omega
              have r4 : (0 : Int) ≤ (k : Int) + 2 := by omega
              have r5 : ((k : Int) + 1).toNat = k + 1 := by omega
              have r6 : ((k : Int) + 2).toNat = k + 2 := by omega
              have r7 : IntKind.i64.wrap (x : Int) = (x : Int) := IntWalk.i64_in _ ⟨by omega, by omega⟩
              have r8 : IntKind.i64.wrap (y : Int) = (y : Int) := IntWalk.i64_in _ ⟨by omega, by omega⟩
              have r9 : IntKind.u32.wrap (z : Int) = (z : Int) := IntWalk.u32_in _ ⟨by omega, by omega⟩
              clear t0 d0 d1 d2
              refine wp_region_last (S := Lw w5 wr) (k := 23) (by kernel_rfl) rfl (by kernel_rfl) (by kernel_rfl) (by kernel_rfl) ?_
              have hHeld := (Below.refl w5.heap.size wr).drew
              refine wpAnyH_take (i := 0) (v := ?_) rfl (by kernel_rfl) (by kernel_rfl) (by kernel_rfl) (fun _ _ _ h => h) (Or.inl ⟨by rfl, ?_⟩) hHeld ?_
              rotate_left
              · intro W hSw
                go_simp
                try with_reducible rfl
              try simp only [Act.put, List.setIfInBounds_toArray, List.set_cons_zero, List.set_cons_succ]
              refine wpAnyH_take (i := 1) (v := ?_) rfl (by kernel_rfl) (by kernel_rfl) (by kernel_rfl) (fun _ _ _ h => h) (Or.inl ⟨by rfl, ?_⟩) hHeld ?_
              rotate_left
              · intro W hSw
                go_simp
                try with_reducible rfl
              try simp only [Act.put, List.setIfInBounds_toArray, List.set_cons_zero, List.set_cons_succ]
              refine wpAnyH_take (i := 2) (v := ?_) rfl (by kernel_rfl) (by kernel_rfl) (by kernel_rfl) (fun _ _ _ h => h) (Or.inl ⟨by rfl, ?_⟩) hHeld ?_
              rotate_left
              · intro W hSw
                go_simp
                try with_reducible rfl
              try simp only [Act.put, List.setIfInBounds_toArray, List.set_cons_zero, List.set_cons_succ]
              refine wpAnyH_take (i := 3) (v := ?_) rfl (by kernel_rfl) (by kernel_rfl) (by kernel_rfl) (fun _ _ _ h => h) (Or.inl ⟨by rfl, ?_⟩) hHeld ?_
              rotate_left
              · intro W hSw
                go_simp
                try with_reducible rfl
              try simp only [Act.put, List.setIfInBounds_toArray, List.set_cons_zero, List.set_cons_succ]
              refine wpAnyH_take (i := 4) (v := ?_) rfl (by kernel_rfl) (by kernel_rfl) (by kernel_rfl) (fun _ _ _ h => h) (Or.inl ⟨by rfl, ?_⟩) hHeld ?_
              rotate_left
              · intro W hSw
                go_simp
                try with_reducible rfl
              try simp only [Act.put, List.setIfInBounds_toArray, List.set_cons_zero, List.set_cons_succ]
              refine wpAnyH_take (i := 5) (v := ?_) rfl (by kernel_rfl) (by kernel_rfl) (by kernel_rfl) (fun _ _ _ h => h) (Or.inl ⟨by rfl, ?_⟩) hHeld ?_
              rotate_left
              · intro W hSw
                go_simp
                try with_reducible rfl
              try simp only [Act.put, List.setIfInBounds_toArray, List.set_cons_zero, List.set_cons_succ]
              refine wpAnyH_take (i := 6) (v := ?_) rfl (by kernel_rfl) (by kernel_rfl) (by kernel_rfl) (fun _ _ _ h => h) (Or.inl ⟨by rfl, ?_⟩) hHeld ?_
              rotate_left
              · intro W hSw
                go_simp
                try with_reducible rfl
              try simp only [Act.put, List.setIfInBounds_toArray, List.set_cons_zero, List.set_cons_succ]
              refine wpAnyH_take (i := 7) (v := ?_) rfl (by kernel_rfl) (by kernel_rfl) (by kernel_rfl) (fun _ _ _ h => h) (Or.inl ⟨by rfl, ?_⟩) hHeld ?_
              rotate_left
              · intro W hSw
                go_simp
                try with_reducible rfl
              try simp only [Act.put, List.setIfInBounds_toArray, List.set_cons_zero, List.set_cons_succ]
              refine wpAnyH_take (i := 8) (v := ?_) rfl (by kernel_rfl) (by kernel_rfl) (by kernel_rfl) (fun _ _ _ h => h) (Or.inl ⟨by rfl, ?_⟩) hHeld ?_
              rotate_left
              · intro W hSw
                go_simp
                try with_reducible rfl
              try simp only [Act.put, List.setIfInBounds_toArray, List.set_cons_zero, List.set_cons_succ]
              refine wpAnyH_take (i := 9) (v := ?_) rfl (by kernel_rfl) (by kernel_rfl) (by kernel_rfl) (fun _ _ _ h => h) (Or.inl ⟨by rfl, ?_⟩) hHeld ?_
              rotate_left
              · intro W hSw
                go_simp
                try with_reducible rfl
              try simp only [Act.put, List.setIfInBounds_toArray, List.set_cons_zero, List.set_cons_succ]
              refine wpAnyH_take (i := 10) (v := ?_) rfl (by kernel_rfl) (by kernel_rfl) (by kernel_rfl) (fun _ _ _ h => h) (Or.inl ⟨by rfl, ?_⟩) hHeld ?_
              rotate_left
              · intro W hSw
                go_simp
                try with_reducible rfl
              try simp only [Act.put, List.setIfInBounds_toArray, List.set_cons_zero, List.set_cons_succ]
              refine wpAnyH_take (i := 11) (v := ?_) rfl (by kernel_rfl) (by kernel_rfl) (by kernel_rfl) (fun _ _ _ h => h) (Or.inl ⟨by rfl, ?_⟩) hHeld ?_
              rotate_left
              · intro W hSw
                go_simp
                try with_reducible rfl
              try simp only [Act.put, List.setIfInBounds_toArray, List.set_cons_zero, List.set_cons_succ]
              refine wpAnyH_take (i := 12) (v := ?_) rfl (by kernel_rfl) (by kernel_rfl) (by kernel_rfl) (fun _ _ _ h => h) (Or.inl ⟨by rfl, ?_⟩) hHeld ?_
              rotate_left
              · intro W hSw
                go_simp
                try with_reducible rfl
              try simp only [Act.put, List.setIfInBounds_toArray, List.set_cons_zero, List.set_cons_succ]
              refine wpAnyH_take (i := 13) (v := ?_) rfl (by kernel_rfl) (by kernel_rfl) (by kernel_rfl) (fun _ _ _ h => h) (Or.inl ⟨by rfl, ?_⟩) hHeld ?_
              rotate_left
              · intro W hSw
                go_simp
                try with_reducible rfl
              try simp only [Act.put, List.setIfInBounds_toArray, List.set_cons_zero, List.set_cons_succ]
              refine wpAnyH_take (i := 14) (v := ?_) rfl (by kernel_rfl) (by kernel_rfl) (by kernel_rfl) (fun _ _ _ h => h) (Or.inl ⟨by rfl, ?_⟩) hHeld ?_
              rotate_left
              · intro W hSw
                go_simp
                try with_reducible rfl
              try simp only [Act.put, List.setIfInBounds_toArray, List.set_cons_zero, List.set_cons_succ]
              refine wpAnyH_take (i := 15) (v := ?_) rfl (by kernel_rfl) (by kernel_rfl) (by kernel_rfl) (fun _ _ _ h => h) (Or.inl ⟨by rfl, ?_⟩) hHeld ?_
              rotate_left
              · intro W hSw
                go_simp
                try with_reducible rfl
              try simp only [Act.put, List.setIfInBounds_toArray, List.set_cons_zero, List.set_cons_succ]
              refine wpAnyH_take (i := 16) (v := ?_) rfl (by kernel_rfl) (by kernel_rfl) (by kernel_rfl) (fun _ _ _ h => h) (Or.inl ⟨by rfl, ?_⟩) hHeld ?_
              rotate_left
              · intro W hSw
                go_simp
                try with_reducible rfl
              try simp only [Act.put, List.setIfInBounds_toArray, List.set_cons_zero, List.set_cons_succ]
              refine wpAnyH_take (i := 17) (v := ?_) rfl (by kernel_rfl) (by kernel_rfl) (by kernel_rfl) (fun _ _ _ h => h) (Or.inl ⟨by rfl, ?_⟩) hHeld ?_
              rotate_left
              · intro W hSw
                go_simp
                try with_reducible rfl
              try simp only [Act.put, List.setIfInBounds_toArray, List.set_cons_zero, List.set_cons_succ]
              refine wpAnyH_take (i := 18) (v := ?_) rfl (by kernel_rfl) (by kernel_rfl) (by kernel_rfl) (fun _ _ _ h => h) (Or.inl ⟨by rfl, ?_⟩) hHeld ?_
              rotate_left
              · intro W hSw
                go_simp
                try with_reducible rfl
              try simp only [Act.put, List.setIfInBounds_toArray, List.set_cons_zero, List.set_cons_succ]
              refine wpAnyH_take (i := 19) (v := ?_) rfl (by kernel_rfl) (by kernel_rfl) (by kernel_rfl) (fun _ _ _ h => h) (Or.inl ⟨by rfl, ?_⟩) hHeld ?_
              rotate_left
              · intro W hSw
                go_simp
                try with_reducible rfl
              try simp only [Act.put, List.setIfInBounds_toArray, List.set_cons_zero, List.set_cons_succ]
              refine wpAnyH_ready (rs := [20]) (by kernel_rfl) (by simp) ?_
              refine AllReadyH.cons rfl (fun K hK => ?_) ?_
              · go_simp
                refine hK.out _ _ (by first | assumption | exact hHeld.alloc (by simp; omega) _) (fun hHeld => ?_)
                clear hK K
                try simp only [Act.put, List.setIfInBounds_toArray, List.set_cons_zero, List.set_cons_succ]
                refine wpAnyH_ready (rs := [21]) (by kernel_rfl) (by simp) ?_
                refine AllReadyH.cons rfl (fun K hK => ?_) ?_
                · refine step_append_lies _ rfl (.tmp 60) (.tmp 79) 39 (by rfl) w5.heap.size 54 i0 _ 3 24 Tryz.underlying39 HINF.out.1 HINF.out.2.1 HINF.out.2.2.1 HINF.out.2.2.2 rfl (by omega) (.slice ua j uc) j (sflat ((trips (D.drop 2)).take j)) (by rfl) (by first | exact (HRW.out.alloc _).drew | exact HRW.out.drew.alloc _ | exact HRW.out.alloc _) ⟨wr.heap.size, 0, none⟩ 1 1 [.int .i64 (x : Int), .int .i64 (y : Int), .int .u32 (z : Int)] (by rfl) (by rfl) (World.news_of_block (cs := #[.int .i64 (x : Int), .int .i64 (y : Int), .int .u32 (z : Int)]) (t := 54) (fr := (0, 0)) (heap_alloc_new wr _)) (by simp [Value.oneCell']) (by omega) (by unfold maxLen; omega) (by omega) (by simp; omega) _ rfl ?_
                  intro gg cap2 w6 hown6 hgrow hat hlt6
                  have hS6 : Lw w5 wr w6 := hHeld.grown hgrow (by simp; omega) (fun j hj => (HRW.out.lt j hj).1)
                  refine hK.out _ _ (by first | assumption | exact hHeld.alloc (by simp; omega) _) (fun hHeld => ?_)
                  clear hK K
                  try simp only [Act.put, List.setIfInBounds_toArray, List.set_cons_zero, List.set_cons_succ]
                  refine wpAnyH_take (i := 22) (v := ?_) rfl (by kernel_rfl) (by kernel_rfl) (by kernel_rfl) (fun _ _ _ h => h) (Or.inl ⟨by rfl, ?_⟩) hHeld ?_
                  rotate_left
                  · intro W hSw
                    go_simp
                    try with_reducible rfl
                  try simp only [Act.put, List.setIfInBounds_toArray, List.set_cons_zero, List.set_cons_succ]
                  refine wpAnyH_done (by kernel_rfl) ?_ _
                  have x1 := (hS6.cell (p := ⟨tb, 1, none⟩) htl).trans t1
                  have f1 := (hS6.frozen (p := ⟨tb, 1, none⟩) htl).trans (fz5 1)
                  unfold AtLast
                  refine wpOp_step rfl (fun K hK => ?_)
                  have HK := Lib.hid hK
                  clear hK
                  go_simp
                  refine HK.out _ _ ?_
                  clear HK K
                  have hnx := Toing.next (s := ⟨x, y, z⟩) HT.out.turn HV.out htl hnot hgrow hS6 hown6 HLEN.out
                  rw [← HTK.out] at hnx
                  have HNX := Lib.hid hnx
                  clear hnx x1 f1 hown6 hgrow hat hS6 hHeld m0 m2 m3 m4 r1 r2 r3 r4 r5 r6 r7 r8 r9
                  go_wp2_with fail
                  go_roundg (gk - 1)
                  case measure => omega
                  case rel => exact ⟨j + 1, k + 3, by omega, by go_num, by have := HK.out; omega, HNX.out⟩
                exact AllReadyH.nil
              exact AllReadyH.nil
            · obtain rfl : j = T := by omega
              have hall : (trips (D.drop 2)).take j = trips (D.drop 2) := List.take_of_length_le (by rw [HT3.out, ← HTT.out]; exact Nat.le_refl _)
              have hrow := HRW.out
              rw [hall] at hrow
              have hlen3 : (trips (D.drop 2)).length = j := by rw [HT3.out, ← HTT.out]
              obtain ⟨m, hm⟩ : ∃ m, m = ofNums D := ⟨_, rfl⟩
              have hmv : m.ver = (v0 : Int) := by rw [hm]; unfold ofNums; rw [HV0.out]; rfl
              have hms : m.segs = trips (D.drop 2) := by rw [hm]; rfl
              have hml : m.segs.length = j := by rw [hms, hlen3]
              rw [← hms] at hrow
              have hrow2 : wr.ownsRow w5.heap.size 54 3 (.slice ua j uc) m.segs.length (sflat m.segs) := by rw [hml]; exact hrow
              have HOW2 := Lib.hid hrow2
              obtain ⟨a2, cap2, e2, hsg⟩ := owns_sgs hrow2
              rw [hml] at e2
              obtain ⟨rfl, rfl⟩ : ua = a2 ∧ uc = cap2 := by simpa using e2
              have hwf : m.wf := fun s hs => by rw [hms] at hs; exact trips_wf _ (fun x hx => HD.out x (List.mem_of_mem_drop hx)) s hs
              have HBY := Lib.hid (refbytes_any m ua uc wr hsg (by rw [hml]; omega) hwf)
              rw [hml, hmv] at HBY
              unfold mfV at HBY
              have HSG := Lib.hid hsg
              have hrb5 : wr.heap[w.heap.size]? = some (.cells #[.int .i64 0, .slice none 0 0] 41 (0, 0)) := (HT.out.turn.block _ (by omega) (by omega)).trans ((HB5.out.block _ (by omega)).trans HRB.out)
              have HRB5 := Lib.hid hrb5
              have HB6 : Hid (Below w.heap.size w wr) := Lib.hid (HB4.out.trans ((HB5.out.mono (by omega)).trans (HT.out.turn.below (fun q hq => by have hq : q = tb := hq; omega) (by have := HB5.out.size; omega))))
              have hkc : ¬ ((k : Int) + 2 < (N : Int)) := by omega
              have hk9 : k ≤ 6000 := by omega
              have HEY : Hid (mbs m = (b, 0) → mrd b = (m, 0)) := Lib.hid (by rw [hm]; exact end_yes HD.out)
              have HEN : Hid (mbs m ≠ (b, 0) → mrd b = (noMf, 2)) := Lib.hid (by rw [hm]; exact end_no HO2.out HD.out HE.out)
              have HML := Lib.hid hml; have HMV := Lib.hid hmv
              clear hall hrow hlen3 hm hms hml hmv hrow2 e2 hsg hwf hrb5 hk
              go_wp2_with fail
              refine HBY.out.mono ?_
              rintro e w6 ⟨rfl, hb6⟩
              have HB66 := Lib.hid hb6
              have hr6 := (hb6.block _ (by have := HB6.out.size; omega)).trans HRB5.out
              have ht6 := (hb6.block _ (by omega)).trans HV.out
              have hcl := fun t => cell_of_row w6 w.heap.size t _ _ (0, 0) hr6
              have c0 := hcl 0; have c1 := hcl 1
              have hcl2 := fun t => cell_of_row w6 tb t _ _ (0, 0) ht6
              have k0 := hcl2 0; have k1 := hcl2 1
              simp only [List.getElem?_toArray, List.getElem?_cons_succ, List.getElem?_cons_zero] at c0 c1 k0 k1
              have fz : ∀ t, w6.frozen? ⟨w.heap.size, t, none⟩ = false := fun t => by simp only [World.frozen?, hr6]; simp
              have HR6 := Lib.hid hr6
              have HB7 : Hid (Below w.heap.size w w6) := Lib.hid (HB6.out.trans (hb6.mono HB6.out.size))
              have HSG6 : Hid (SgsIn w6 ua m.segs) := Lib.hid (HSG.out.later hb6 (Nat.le_refl _))
              clear hcl hcl2 hr6 ht6 t0 t1 fz5
              by_cases hend : mbs m = (b, 0)
              · have HM := Lib.hid (HEY.out hend)
                have h1 : (mbs m).1 = b := by rw [hend]
                have h2 : (mbs m).2 = 0 := by rw [hend]
                rw [h1, h2]
                have p1 : (((0 : Nat) : Int) != 0) = false := rfl
                have p2 : ((bs b).toList == (bs b).toList) = true := by simp
                clear hend h1 h2 hb6
                go_wp2_with fail
                have g1 := heap_setCell_same w6 w.heap.size 0 _ _ (.int .i64 (v0 : Int)) HR6.out
                have g2 := heap_setCell_same _ w.heap.size 1 _ _ (.slice ua j uc) g1
                have hfin := (HB7.out.setCell (p := ⟨w.heap.size, 0, none⟩) (Nat.le_refl _) (.int .i64 (v0 : Int))).setCell (p := ⟨w.heap.size, 1, none⟩) (Nat.le_refl _) (.slice ua j uc)
                have hsgf : SgsIn ((w6.setCell ⟨w.heap.size, 0, none⟩ (.int .i64 (v0 : Int))).setCell ⟨w.heap.size, 1, none⟩ (.slice ua j uc)) ua m.segs := by
                  have o6 := owns_kept HOW2.out (fun q hq => HB66.out.block q (HOW2.out.lt q hq).2)
                  have o7 := owns_kept o6 (fun q hq => by
                    have := (o6.lt q hq).1
                    show ((w6.setCell ⟨w.heap.size, 0, none⟩ (.int .i64 (v0 : Int))).setCell ⟨w.heap.size, 1, none⟩ (.slice ua j uc)).heap[q]? = w6.heap[q]?
                    rw [Below.heap_setCell _ _ _ _ (by show q ≠ w.heap.size; omega), Below.heap_setCell _ _ _ _ (by show q ≠ w.heap.size; omega)])
                  obtain ⟨a3, cap3, e3, hs3⟩ := owns_sgs o7
                  obtain ⟨rfl, _, _⟩ : ua = a3 ∧ j = m.segs.length ∧ uc = cap3 := by simpa using e3
                  exact hs3
                generalize World.setCell (World.setCell w6 _ _) _ _ = wf at *
                have hc3 := fun t => cell_of_row wf w.heap.size t _ _ (0, 0) g2
                have z0 := hc3 0; have z1 := hc3 1
                simp at z0 z1
                refine bodyPost_ret (v := .tuple #[mfV (v0 : Int) ua j uc, .int .i64 0]) (by simp [results, Tryz.results36, go_sem, z0, z1, mfV]) rfl ⟨ua, uc, by rw [HM.out, HML.out, HMV.out]; rfl, by rw [HM.out]; exact hsgf, hfin⟩
              · have HM := Lib.hid (HEN.out hend)
                by_cases h2 : (mbs m).2 = 0
                · have h1 : (mbs m).1 ≠ b := fun e => hend (by rw [← e, ← h2])
                  rw [h2]
                  have p1 : (((0 : Nat) : Int) != 0) = false := rfl
                  have p2 : ((bs (mbs m).1).toList == (bs b).toList) = false := by rw [bs_toList, bs_toList]; simpa using h1
                  clear hend h1 h2 hb6
                  generalize bs (mbs m).1 = C at *
                  go_wp2_with fail
                  have g1 := heap_setCell_same w6 w.heap.size 0 _ _ (.int .i64 0) HR6.out
                  have g2 := heap_setCell_same _ w.heap.size 1 _ _ (.slice none 0 0) g1
                  have hfin := ((HB7.out).setCell (p := ⟨w.heap.size, 0, none⟩) (Nat.le_refl _) (.int .i64 0)).setCell (p := ⟨w.heap.size, 1, none⟩) (Nat.le_refl _) (.slice none 0 0)
                  generalize World.setCell (World.setCell w6 _ _) _ _ = wf at *
                  have hc3 := fun t => cell_of_row wf w.heap.size t _ _ (0, 0) g2
                  have z0 := hc3 0; have z1 := hc3 1
                  simp at z0 z1
                  refine bodyPost_ret (v := .tuple #[mfV 0 none 0 0, .int .i64 2]) (by simp [results, Tryz.results36, go_sem, z0, z1, mfV]) rfl ⟨none, 0, by rw [HM.out]; rfl, by rw [HM.out]; exact SgsIn.nil _ _, hfin⟩
                · have p1 : (((mbs m).2 : Int) != 0) = true := by rw [bne_iff_ne]; omega
                  clear hend h2 hb6
                  generalize bs (mbs m).1 = C at *
                  generalize (((mbs m).2 : Nat) : Int) = E2 at *
                  go_wp2_with fail
                  have g1 := heap_setCell_same w6 w.heap.size 0 _ _ (.int .i64 0) HR6.out
                  have g2 := heap_setCell_same _ w.heap.size 1 _ _ (.slice none 0 0) g1
                  have hfin := ((HB7.out).setCell (p := ⟨w.heap.size, 0, none⟩) (Nat.le_refl _) (.int .i64 0)).setCell (p := ⟨w.heap.size, 1, none⟩) (Nat.le_refl _) (.slice none 0 0)
                  generalize World.setCell (World.setCell w6 _ _) _ _ = wf at *
                  have hc3 := fun t => cell_of_row wf w.heap.size t _ _ (0, 0) g2
                  have z0 := hc3 0; have z1 := hc3 1
                  simp at z0 z1
                  refine bodyPost_ret (v := .tuple #[mfV 0 none 0 0, .int .i64 2]) (by simp [results, Tryz.results36, go_sem, z0, z1, mfV]) rfl ⟨none, 0, by rw [HM.out]; rfl, by rw [HM.out]; exact SgsIn.nil _ _, hfin⟩
      · obtain ⟨n, r, ee, ht⟩ : ∃ n r ee, tk rest = (n, r, ee) := ⟨_, _, _, rfl⟩
        have HTK := Lib.hid (reftake_any (bs rest) wr (by rw [bs_size]; omega))
        rw [bs_list, show tkV rest = .tuple #[.int .u64 (n : Nat), .string (bs r), .int .i64 (ee : Nat)] by unfold tkV; rw [ht]] at HTK
        have hne : ¬ (bs rest).toList = [] := by rw [bs_toList]; exact hr
        have hsz : 0 < (bs rest).size := by rw [bs_size]; exact List.length_pos_iff.2 hr
        have hn64 : n < 18446744073709551616 := by
          rcases tk_cases rest with ⟨h1, _⟩ | h1 | ⟨n', r', h1, h2, _⟩
          · rw [ht] at h1; cases h1; omega
          · rw [ht] at h1; cases h1; omega
          · rw [ht] at h1; cases h1; exact h2
        by_cases he0 : ee = 0
        · by_cases hbig : 4294967296 ≤ n
          · have HM := Lib.hid (bad_next HO2.out HD.out HE.out hr ht (Or.inr hbig))
            have q1 : ((ee : Int) != 0) = false := by rw [he0]; rfl
            have q2 : (4294967295 : Int) < (n : Int) := by omega
            clear ht hr he0 hdl
            go_wp2_with fail
            refine HTK.out.mono ?_
            rintro e w4 ⟨rfl, hb4⟩
            have hr4 := (hb4.block _ (by omega)).trans HRB.out
            have hcl4 := fun t => cell_of_row w4 w.heap.size t _ _ (0, 0) hr4
            have c0 := hcl4 0; have c1 := hcl4 1
            simp only [List.getElem?_toArray, List.getElem?_cons_succ, List.getElem?_cons_zero] at c0 c1
            have fz : ∀ t, w4.frozen? ⟨w.heap.size, t, none⟩ = false := fun t => by simp only [World.frozen?, hr4]; simp
            have HR4 := Lib.hid hr4; have HB4 := Lib.hid (HBW.out.trans ((HBR.out.mono (Nat.le_of_lt hwl)).trans (hb4.mono (by omega))) : Below w.heap.size w w4)
            clear hcl4 hr4 hb4
            go_wp2_with fail
            have g1 := heap_setCell_same w4 w.heap.size 0 _ _ (.int .i64 0) HR4.out
            have g2 := heap_setCell_same _ w.heap.size 1 _ _ (.slice none 0 0) g1
            have hfin := ((HB4.out).setCell (p := ⟨w.heap.size, 0, none⟩) (Nat.le_refl _) (.int .i64 0)).setCell (p := ⟨w.heap.size, 1, none⟩) (Nat.le_refl _) (.slice none 0 0)
            generalize World.setCell (World.setCell w4 _ _) _ _ = wf at *
            have hc3 := fun t => cell_of_row wf w.heap.size t _ _ (0, 0) g2
            have z0 := hc3 0; have z1 := hc3 1
            simp at z0 z1
            refine bodyPost_ret (v := .tuple #[mfV 0 none 0 0, .int .i64 2]) (by simp [results, Tryz.results36, go_sem, z0, z1, mfV]) rfl ⟨none, 0, by rw [HM.out]; rfl, by rw [HM.out]; exact SgsIn.nil _ _, hfin⟩
          · subst he0
            obtain ⟨hn64', hrest⟩ : n < M64 ∧ rest = put n ++ r := by
              rcases tk_cases rest with ⟨h1, _⟩ | h1 | ⟨n', r', h1, h2, h3⟩
              · rw [ht] at h1; cases h1
              · rw [ht] at h1; cases h1
              · rw [ht] at h1; cases h1; exact ⟨h2, h3⟩
            have hpp := put_pos n
            have hrl : rest.length = (put n).length + r.length := by rw [hrest, List.length_append]
            have HD5 : Hid (∀ x ∈ D ++ [n], x < 4294967296) := Lib.hid (fun x hx => by
              rcases List.mem_append.1 hx with h | h
              · exact HD.out x h
              · rw [List.mem_singleton.1 h]; omega)
            have HE5 : Hid ((opn b).1 = puts (D ++ [n]) ++ r) := Lib.hid (by rw [HE.out, puts_append, hrest]; simp [puts])
            have q1 : (((0 : Nat) : Int) != 0) = false := rfl
            have q2 : ¬ (4294967295 : Int) < (n : Int) := by omega
            clear ht hr hn64' hrest
            go_wp2_with fail
            refine HTK.out.mono ?_
            rintro e w4 ⟨rfl, hb4⟩
            have hbz4 := hb4.size
            have HO4 := Lib.hid (owns_kept HOW.out (fun q hq => hb4.block q (HOW.out.lt q hq).2))
            have HB4 : Hid (Below w1.heap.size w1 w4) := Lib.hid (HBR.out.trans (hb4.mono hbz))
            clear hb4 c0 c1 fz
            go_wp2_with (at_builtin; refine wpList_append_own _ rfl _ _ 119 rfl w1.heap.size 120 j0 (.int .u64 0) 1 8 Tryz.underlying119 HJ.out.1 HJ.out.2.1 HJ.out.2.2.1 HJ.out.2.2.2 rfl (by decide) _ _ _ rfl (HO4.out.alloc _) ⟨w4.heap.size, 0, none⟩ 1 1 [.int .u64 (n : Int)] rfl rfl (cell_one_new _ _ _) (by simp [Value.oneCell']) (by unfold maxLen; omega) (by omega) (by simp; omega) ?_; intro v' w5 hown' hgrow _; have HB5 := Lib.hid (Below.grown (HB4.out.alloc (by omega) _) hgrow (by simp; omega) (fun j hj => (HO4.out.lt _ hj).1)); have HO5 := Lib.hid hown'; clear hown' hgrow)
            go_roundw
            case rel => exact ⟨r, D ++ [n], rfl, HD5.out, HE5.out, by rw [List.length_append, List.length_singleton]; omega, by rw [nrow_snoc, List.length_append]; exact HO5.out, HB5.out⟩
            case measure => simp only [sLen]; rw [bs_size, bs_size]; omega
        · have HM := Lib.hid (bad_next HO2.out HD.out HE.out hr ht (Or.inl he0))
          have q1 : ((ee : Int) != 0) = true := by rw [bne_iff_ne]; omega
          clear ht hr he0 hdl
          go_wp2_with fail
          refine HTK.out.mono ?_
          rintro e w4 ⟨rfl, hb4⟩
          have hr4 := (hb4.block _ (by omega)).trans HRB.out
          have hcl4 := fun t => cell_of_row w4 w.heap.size t _ _ (0, 0) hr4
          have c0 := hcl4 0; have c1 := hcl4 1
          simp only [List.getElem?_toArray, List.getElem?_cons_succ, List.getElem?_cons_zero] at c0 c1
          have fz : ∀ t, w4.frozen? ⟨w.heap.size, t, none⟩ = false := fun t => by simp only [World.frozen?, hr4]; simp
          have HR4 := Lib.hid hr4; have HB4 := Lib.hid (HBW.out.trans ((HBR.out.mono (Nat.le_of_lt hwl)).trans (hb4.mono (by omega))) : Below w.heap.size w w4)
          clear hcl4 hr4 hb4
          go_wp2_with fail
          have g1 := heap_setCell_same w4 w.heap.size 0 _ _ (.int .i64 0) HR4.out
          have g2 := heap_setCell_same _ w.heap.size 1 _ _ (.slice none 0 0) g1
          have hfin := ((HB4.out).setCell (p := ⟨w.heap.size, 0, none⟩) (Nat.le_refl _) (.int .i64 0)).setCell (p := ⟨w.heap.size, 1, none⟩) (Nat.le_refl _) (.slice none 0 0)
          generalize World.setCell (World.setCell w4 _ _) _ _ = wf at *
          have hc3 := fun t => cell_of_row wf w.heap.size t _ _ (0, 0) g2
          have z0 := hc3 0; have z1 := hc3 1
          simp at z0 z1
          refine bodyPost_ret (v := .tuple #[mfV 0 none 0 0, .int .i64 2]) (by simp [results, Tryz.results36, go_sem, z0, z1, mfV]) rfl ⟨none, 0, by rw [HM.out]; rfl, by rw [HM.out]; exact SgsIn.nil _ _, hfin⟩
end Go.Proofs.YtkdidinekoaobaaGreatDoor.J

/- The document's own names: digits, Name, Object, Version, Of. -/
namespace Go.Proofs.YtkdidinekoaobaaGreatDoor.J
open Go.RowKit
set_option linter.unusedVariables false

theorem digs_head : ∀ k n, digs (k + 1) n = dg (n / 10 ^ k) :: digs k n
  | 0, n => by simp [digs]
  | k + 1, n => by
    rw [digs, digs_head k (n / 10), digs, List.cons_append, Nat.div_div_eq_div_mul, Nat.pow_succ, Nat.mul_comm 10]

set_option maxRecDepth 100000 in
set_option maxHeartbeats 1000000 in
theorem refdigits_any (n : Nat) (w : World) (hn : n ≤ 999999) : Calls Tryz.prog 81 #[.int .i64 n] w fun e w' => e = .returned (.string (bs (dig n))) ∧ Below w.heap.size w w' := by
  rw [dig_digs]
  go_enter Tryz.func81, Tryz.ntmps81
  go_wp2
  go_loopg [0, 3, 4] 6 (fun g x s it wr => ∃ (i q : Nat), i + g = 6 ∧ it = .int .i64 i ∧ x = .int .i64 q ∧ q = n / 10 ^ i ∧ q ≤ 999999 ∧ s = .string (bs (digs i n)) ∧ Below w.heap.size w wr)
  case atStart => exact ⟨0, n, by omega, rfl, rfl, by simp, hn, rfl, Below.refl _ _⟩
  case round =>
    obtain ⟨i, q, hi, rfl, rfl, hq, hq9, rfl, hb⟩ := hrel
    have hbz := hb.size
    by_cases hlt : i < 6
    · have hc : ∀ (W : World) (b cap : Nat), W.cell? ⟨b, 0, none⟩ = some (.int .u8 (48 + (q : Int) % 10)) → (convert 125 9 (.slice (some ⟨b, 0, none⟩) 1 cap)).run Tryz.prog W = .ok (.string (bs [dg q])) W :=
        fun W b cap hW => conv_one W b cap _ _ (by rw [dg_toNat]; omega) hW
      have z1 : (bs [dg q]).size = 1 := bs_size _
      have z2 : (bs (digs i n)).size ≤ 10 := by rw [bs_size, digs_len]; omega
      have hsum : ¬ 9223372036854775807 < (bs [dg q]).size + (bs (digs i n)).size := by omega
      have hadd : bs (digs (i + 1) n) = bs [dg q] ++ bs (digs i n) := by rw [digs_head, hq, ← bs_join]; rfl
      have HADD := Lib.hid hadd
      have q5 : q / 10 = n / 10 ^ (i + 1) := by rw [hq, Nat.div_div_eq_div_mul, Nat.pow_succ]
      have HQ5 := Lib.hid q5
      have HD := Lib.hid (show (q : Int) / 10 = ((q / 10 : Nat) : Int) by omega)
      have q4 : (q : Int).tdiv 10 = (q : Int) / 10 := Int.tdiv_eq_ediv_of_nonneg (by omega)
      have q6 : IntKind.i64.wrap ((q : Int) / 10) = (q : Int) / 10 := IntWalk.i64_in _ ⟨by omega, by omega⟩
      have hd9 : q / 10 ≤ 999999 := by omega
      clear hadd q5 z1 z2 hq
      generalize bs [dg q] = X at *
      generalize bs (digs i n) = Y at *
      go_wp2
      go_roundg (gk - 1)
      case measure => omega
      case rel => exact ⟨i + 1, q / 10, by omega, by go_num, by rw [← HD.out], HQ5.out, hd9, by rw [HADD.out], hb.alloc hbz _⟩
    · obtain rfl : i = 6 := by omega
      go_wp2
      go_ret
      exact ⟨rfl, hb⟩

set_option maxHeartbeats 400000 in
theorem refname_any (v : Int) (w : World) (h0 : -9223372036854775808 ≤ v) (h1 : v ≤ 9223372036854775807) : Calls Tryz.prog 43 #[.int .i64 v] w fun e w' => e = .returned (.string (bs (nm v))) ∧ Below w.heap.size w w' := by
  by_cases h : 1 ≤ v ∧ v ≤ 999999
  · obtain ⟨n, rfl⟩ : ∃ n : Nat, v = n := ⟨v.toNat, by omega⟩
    rw [nm_yes h, Int.toNat_natCast]
    have HD := Lib.hid (refdigits_any n w (by omega))
    have z2 : (bs (dig n)).size = 6 := by rw [bs_size]; rfl
    have hadd : bs (109 :: dig n) = bs [109] ++ bs (dig n) := by rw [← bs_join]; rfl
    have h109 : (⟨#[109]⟩ : ByteArray) = bs [109] := rfl
    have z1 : (bs [109]).size = 1 := rfl
    have g1 : (1 : Int) ≤ n := h.1
    have g2 : (n : Int) ≤ 999999 := h.2
    rw [hadd]
    clear hadd h
    go_enter Tryz.func43, Tryz.ntmps43
    rw [h109]
    clear h109
    generalize bs [109] = X at *
    generalize bs (dig n) = Y at *
    go_wp2_with (go_at_call 81; refine HD.out.mono ?_; rintro e w' ⟨rfl, hb⟩)
    go_ret
    exact ⟨rfl, hb⟩
  · rw [nm_no h]
    rcases (show v < 1 ∨ 999999 < v by omega) with g | g
    · go_enter Tryz.func43, Tryz.ntmps43
      go_wp2
      go_ret
      exact ⟨rfl, Below.refl _ _⟩
    · have g1 : ¬ v < 1 := by omega
      go_enter Tryz.func43, Tryz.ntmps43
      go_wp2
      go_ret
      exact ⟨rfl, Below.refl _ _⟩

set_option maxHeartbeats 400000 in
theorem refobject_any (v : Int) (w : World) (h0 : -9223372036854775808 ≤ v) (h1 : v ≤ 9223372036854775807) : Calls Tryz.prog 47 #[.int .i64 v] w fun e w' => e = .returned (.string (bs (ob v))) ∧ Below w.heap.size w w' := by
  by_cases h : 0 ≤ v ∧ v ≤ 999999
  · obtain ⟨n, rfl⟩ : ∃ n : Nat, v = n := ⟨v.toNat, by omega⟩
    rw [ob_yes h, Int.toNat_natCast]
    have HD := Lib.hid (refdigits_any n w (by omega))
    have z2 : (bs (dig n)).size = 6 := by rw [bs_size]; rfl
    have hadd : bs (111 :: dig n) = bs [111] ++ bs (dig n) := by rw [← bs_join]; rfl
    have h111 : (⟨#[111]⟩ : ByteArray) = bs [111] := rfl
    have z1 : (bs [111]).size = 1 := rfl
    have g1 : (0 : Int) ≤ n := h.1
    have g2 : (n : Int) ≤ 999999 := h.2
    rw [hadd]
    clear hadd h
    go_enter Tryz.func47, Tryz.ntmps47
    rw [h111]
    clear h111
    generalize bs [111] = X at *
    generalize bs (dig n) = Y at *
    go_wp2_with (go_at_call 81; refine HD.out.mono ?_; rintro e w' ⟨rfl, hb⟩)
    go_ret
    exact ⟨rfl, hb⟩
  · rw [ob_no h]
    rcases (show v < 0 ∨ 999999 < v by omega) with g | g
    · go_enter Tryz.func47, Tryz.ntmps47
      go_wp2
      go_ret
      exact ⟨rfl, Below.refl _ _⟩
    · have g1 : ¬ v < 0 := by omega
      go_enter Tryz.func47, Tryz.ntmps47
      go_wp2
      go_ret
      exact ⟨rfl, Below.refl _ _⟩

/-- The number that digits come to, whatever they are. -/
def ac (l : List UInt8) : Int := l.foldl (fun n c => 10 * n + (c.toNat : Int) - 48) 0
theorem ac_snoc (l : List UInt8) (c : UInt8) : ac (l ++ [c]) = 10 * ac l + (c.toNat : Int) - 48 := by simp [ac]
theorem snocInd {α : Type} {p : List α → Prop} (h0 : p []) (hs : ∀ l x, p l → p (l ++ [x])) (l : List α) : p l := by
  have h : ∀ r : List α, p r.reverse := fun r => by
    induction r with
    | nil => exact h0
    | cons x r ih => rw [List.reverse_cons]; exact hs _ _ ih
  have := h l.reverse
  rwa [List.reverse_reverse] at this
theorem ac_bd (l : List UInt8) : -(6 * (10 ^ l.length : Nat) - 6 : Int) ≤ ac l ∧ ac l ≤ 23 * (10 ^ l.length : Nat) - 23 := by
  refine snocInd (p := fun l => -(6 * (10 ^ l.length : Nat) - 6 : Int) ≤ ac l ∧ ac l ≤ 23 * (10 ^ l.length : Nat) - 23) (by simp [ac]) (fun l c ih => ?_) l
  rw [ac_snoc, List.length_append, List.length_singleton, Nat.pow_succ]
  have := UInt8.toNat_lt c
  omega
theorem ac_dig (n : Nat) (h : n ≤ 999999) : ac (dig n) = n := by
  unfold ac dig
  simp only [List.foldl_cons, List.foldl_nil, dg_toNat]
  omega
/-- What the loop comes to. -/
def lead (l : List UInt8) : List UInt8 := (l.drop 1).take 6
theorem lead_next (b : ByteArray) (k : Nat) (h : k + 1 < b.size) (h6 : k < 6) : (b.data.toList.drop 1).take (k + 1) = (b.data.toList.drop 1).take k ++ [b[k + 1]] := by
  rw [List.take_add_one, List.getElem?_drop, Nat.add_comm 1 k, List.getElem?_eq_getElem (by rw [len_size]; exact h)]
  rfl

theorem vr_not {l : List UInt8} {k : Nat} {q : Int} (hk : k ≤ 6) (hs : k = 6 ∨ (k < 6 ∧ l.length ≤ k + 1)) (hq : q = ac ((l.drop 1).take k)) (hn : nm q ≠ l) : vr l = (0, false) := vr_no (fun v ⟨h1, h2⟩ => by
  rw [nm_yes h1] at h2
  have hl : l.length = 7 := by rw [← h2]; rfl
  obtain rfl : k = 6 := by omega
  rw [← h2] at hq
  have : (List.drop 1 (109 :: dig v.toNat)).take 6 = dig v.toNat := rfl
  rw [this, ac_dig _ (by omega)] at hq
  have e : q = v := by omega
  rw [e, nm_yes h1] at hn
  exact hn h2)
theorem vr_is {l : List UInt8} {q : Int} (hl : l ≠ []) (hn : nm q = l) : vr l = (q, true) := by
  by_cases h : 1 ≤ q ∧ q ≤ 999999
  · exact vr_yes ⟨h, hn⟩
  · rw [nm_no h] at hn; exact absurd hn.symm hl
theorem vr_nil : vr [] = (0, false) := vr_no (fun v ⟨h1, h2⟩ => by rw [nm_yes h1] at h2; cases h2)
theorem toList_eq (b : ByteArray) : b.toList = b.data.toList := by rw [Lib.toList_data]

set_option maxHeartbeats 1000000 in
theorem refversion_any (b : ByteArray) (w : World) (hb : b.size ≤ 9223372036854775807) : Calls Tryz.prog 34 #[.string b] w fun e w' => e = .returned (.tuple #[.int .i64 (vr b.data.toList).1, .bool (vr b.data.toList).2]) ∧ Below w.heap.size w w' := by
  go_enter Tryz.func34, Tryz.ntmps34
  go_wp2
  go_loopg [4, 5] 6 (fun g x it wr => ∃ (k : Nat) (q : Int), k + g = 6 ∧ it = .int .i64 ((k : Int) + 1) ∧ x = .int .i64 q ∧ q = ac ((b.data.toList.drop 1).take k) ∧ -6000000 ≤ q ∧ q ≤ 23000000 ∧ (k = 0 ∨ k < b.size) ∧ w = wr)
  case atStart => exact ⟨0, 0, by omega, rfl, rfl, by simp [ac], by omega, by omega, Or.inl rfl, rfl⟩
  case round =>
    obtain ⟨k, q, hk, rfl, rfl, hq, hq1, hq2, hkb, rfl⟩ := hrel
    by_cases hlt : k < 6 ∧ k + 1 < b.size
    · obtain ⟨h6, hs⟩ := hlt
      have hnx := lead_next b k hs h6
      have hac : ac ((b.data.toList.drop 1).take (k + 1)) = 10 * q + ((b[k + 1].toNat : Nat) : Int) - 48 := by rw [hnx, ac_snoc, ← hq]
      have hbd := ac_bd ((b.data.toList.drop 1).take (k + 1))
      have hl6 : 10 ^ ((b.data.toList.drop 1).take (k + 1)).length ≤ 10 ^ 6 := Nat.pow_le_pow_right (by omega) (by rw [List.length_take]; omega)
      have hc := UInt8.toNat_lt b[k + 1]
      have h1 : -6000000 ≤ 10 * q + ((b[k + 1].toNat : Nat) : Int) - 48 := by rw [← hac]; omega
      have h2 : 10 * q + ((b[k + 1].toNat : Nat) : Int) - 48 ≤ 23000000 := by rw [← hac]; omega
      have HAC := Lib.hid hac
      clear hnx hac hbd hl6 hq
      go_wp2
      go_roundg (gk - 1)
      case measure => omega
      case rel => exact ⟨k + 1, _, by omega, by go_num, rfl, HAC.out.symm, h1, h2, Or.inr hs, rfl⟩
    · have hstop : k = 6 ∨ (k < 6 ∧ b.size ≤ k + 1) := by omega
      have HN := Lib.hid (refname_any q w (by omega) (by omega))
      have HSTOP := Lib.hid hstop
      have HQ := Lib.hid hq
      have hk10 : k ≤ 6 := by omega
      clear hstop hq hlt hk
      have HN2 : Hid ((b.data.toList = [] ∧ vr b.data.toList = (0, false)) ∨ (b.data.toList ≠ [] ∧ nm q = b.data.toList ∧ vr b.data.toList = (q, true)) ∨ (b.data.toList ≠ [] ∧ nm q ≠ b.data.toList ∧ vr b.data.toList = (0, false))) := Lib.hid (by
        by_cases h1 : b.data.toList = []
        · exact Or.inl ⟨h1, by rw [h1]; exact vr_nil⟩
        · by_cases h2 : nm q = b.data.toList
          · exact Or.inr (Or.inl ⟨h1, h2, vr_is h1 h2⟩)
          · exact Or.inr (Or.inr ⟨h1, h2, vr_not hk10 (by rw [len_size]; exact HSTOP.out) HQ.out h2⟩))
      have hc2 : (∃ _ : (k : Int) + 1 < b.size, ¬ ((k : Int) + 1 < 7)) ∨ ¬ ((k : Int) + 1 < b.size) := by
        have := HSTOP.out
        by_cases hc : (k : Int) + 1 < b.size
        · exact Or.inl ⟨hc, by omega⟩
        · exact Or.inr hc
      clear HQ HSTOP
      rcases hc2 with ⟨hc1, h7⟩ | hc1
      all_goals
        rcases HN2.out with ⟨g1, g2⟩ | ⟨g1, g2, g3⟩ | ⟨g1, g2, g3⟩
        · have hE : b.toList.isEmpty = true := by rw [toList_eq, g1]; rfl
          have G := Lib.hid g2
          clear g1 g2 HN2
          go_wp2_with fail
          go_ret2
          exact ⟨by rw [G.out]; rfl, Below.refl _ _⟩
        · have hE : b.toList.isEmpty = false := by rw [toList_eq]; exact List.isEmpty_eq_false_iff.2 g1
          have hX : ((bs (nm q)).toList == b.toList) = true := by rw [toList_eq, toList_eq, bs_list, g2]; simp
          have G := Lib.hid g3
          clear g1 g2 g3 HN2
          generalize bs (nm q) = X at *
          go_wp2_with (go_at_call 43; refine HN.out.mono ?_; rintro e w' ⟨rfl, hb2⟩)
          go_ret2
          exact ⟨by rw [G.out]; rfl, hb2⟩
        · have hE : b.toList.isEmpty = false := by rw [toList_eq]; exact List.isEmpty_eq_false_iff.2 g1
          have hX : ((bs (nm q)).toList == b.toList) = false := by rw [toList_eq, toList_eq, bs_list]; simpa using g2
          have G := Lib.hid g3
          clear g1 g2 g3 HN2
          generalize bs (nm q) = X at *
          go_wp2_with (go_at_call 43; refine HN.out.mono ?_; rintro e w' ⟨rfl, hb2⟩)
          go_ret2
          exact ⟨by rw [G.out]; rfl, hb2⟩

set_option maxHeartbeats 400000 in
theorem refof_any (n : Int) (b : ByteArray) (w : World) (hb : b.size ≤ 9223372036854775807) : Calls Tryz.prog 48 #[.int .i64 n, .string b] w fun e w' => e = .returned (.agg #[.int .i64 n, .int .i64 b.size, .int .u32 (sum b.data.toList)]) ∧ Below w.heap.size w w' := by
  have HS := Lib.hid (fun W => refsum_any b W hb)
  generalize sum b.data.toList = sm at *
  go_enter Tryz.func48, Tryz.ntmps48
  go_wp2_with fail
  refine (HS.out _).mono ?_
  rintro e w1 ⟨rfl, rfl⟩
  have hn := heap_alloc_new w (.cells #[.int .i64 0, .int .i64 0, .int .u32 0] 54)
  have hc := fun t => cell_of_row _ w.heap.size t _ _ (0, 0) hn
  have e0 := hc 0; have e1 := hc 1; have e2 := hc 2
  simp only [List.getElem?_toArray, List.getElem?_cons_succ, List.getElem?_cons_zero] at e0 e1 e2
  have hb0 : Below w.heap.size w (w.alloc (.cells #[.int .i64 0, .int .i64 0, .int .u32 0] 54)) := (Below.refl _ _).alloc (Nat.le_refl _) _
  have fz : ∀ t, (w.alloc (.cells #[.int .i64 0, .int .i64 0, .int .u32 0] 54)).frozen? ⟨w.heap.size, t, none⟩ = false := fun t => by simp only [World.frozen?, hn]; simp
  generalize w.alloc _ = w1 at *
  have HN := Lib.hid hn; have HB := Lib.hid hb0
  clear hc hn hb0
  go_wp2_with fail
  have h1 := heap_setCell_same w1 w.heap.size 0 _ _ (.int .i64 n) HN.out
  have h2 := heap_setCell_same _ w.heap.size 1 _ _ (.int .i64 b.size) h1
  have h3 := heap_setCell_same _ w.heap.size 2 _ _ (.int .u32 sm) h2
  have b4 := ((HB.out.setCell (p := ⟨w.heap.size, 0, none⟩) (Nat.le_refl _) (.int .i64 n)).setCell (p := ⟨w.heap.size, 1, none⟩) (Nat.le_refl _) (.int .i64 b.size)).setCell (p := ⟨w.heap.size, 2, none⟩) (Nat.le_refl _) (.int .u32 sm)
  generalize World.setCell (World.setCell (World.setCell w1 _ _) _ _) _ _ = w3 at *
  have hc := fun t => cell_of_row w3 w.heap.size t _ _ (0, 0) h3
  have z0 := hc 0; have z1 := hc 1; have z2 := hc 2
  simp at z0 z1 z2
  exact bodyPost_ret (v := .agg #[.int .i64 n, .int .i64 b.size, .int .u32 sm]) (by simp [results, Tryz.results48, go_sem, z0, z1, z2]) rfl ⟨rfl, b4⟩
end Go.Proofs.YtkdidinekoaobaaGreatDoor.J

/- The library's variables that names are made and read with: the table of powers of ten, and the two errors of strconv. They lie ahead of all that a call makes. -/
namespace Go.Proofs.YtkdidinekoaobaaGreatDoor.J
open Go.RowKit
set_option linter.unusedVariables false

def tabRow : Array Value := (Lib.pow10Tab.map fun z => Value.int .u64 z).toArray
/-- An error is held. -/
def Er (w : World) (g : Nat) : Prop := ∃ te pe, w.cell? ⟨g, 0, none⟩ = some (.iface te pe)
structure Vt (w : World) : Prop where
  tab : ∃ t fz, w.heap[2]? = some (.cells tabRow t fz)
  syn : Er w 0
  rng : Er w 1
theorem Er.later {w w' : World} {g : Nat} (h : Er w g) (hb : Below w.heap.size w w') : Er w' g := by
  obtain ⟨te, pe, hc⟩ := h
  exact ⟨te, pe, (hb.cell (p := ⟨g, 0, none⟩) (Lib.lt_of_cell hc)).trans hc⟩
theorem Vt.later {w w' : World} (h : Vt w) (hb : Below w.heap.size w w') : Vt w' :=
  ⟨by obtain ⟨t, fz, hc⟩ := h.tab; exact ⟨t, fz, (hb.block _ (Array.getElem?_eq_some_iff.1 hc).1).trans hc⟩, h.syn.later hb, h.rng.later hb⟩
/-- .. so the contracts of the library find it. -/
theorem Vt.tabIs {w : World} {name : String} (h : Vt w) (hn : Tryz.prog.globalNamed name = some 2) : Lib.TabIs Tryz.prog w name .u64 Lib.pow10Tab := by
  obtain ⟨t, fz, h⟩ := h.tab
  unfold Lib.TabIs World.var?
  rw [hn]
  show (match w.heap[2]? with | some (.cells cs _ _) => some cs | _ => none) = _
  rw [h]
  rfl
end Go.Proofs.YtkdidinekoaobaaGreatDoor.J

/- What is asked of the program's manifests; the first, small test of every law of layer 12. -/
namespace Go.Proofs.YtkdidinekoaobaaGreatDoor.J
open Go.RowKit
set_option linter.unusedVariables false
set_option linter.unusedSimpArgs false

def i64 (n : Int) : Prop := -9223372036854775808 ≤ n ∧ n ≤ 9223372036854775807
def Sg.fit (s : Sg) : Prop := i64 s.n ∧ i64 s.size ∧ s.sum < 4294967296
def Mf.fit (m : Mf) : Prop := i64 m.ver ∧ ∀ s ∈ m.segs, s.fit
theorem Mf.fit.wf {m : Mf} (h : m.fit) : m.wf := fun s hs => (h.2 s hs).2.2
/-- What is asked. -/
structure ManC : Prop where
  right : ∀ {m a cap w}, SgsIn w a m.segs → m.segs.length ≤ 1000 → m.fit → Calls Tryz.prog 70 #[mfV m.ver a m.segs.length cap] w fun e w' => e = .returned (.bool (right m)) ∧ Below w.heap.size w w'
  bytes : ∀ {m a cap w}, SgsIn w a m.segs → m.segs.length ≤ 1000 → m.fit → Calls Tryz.prog 38 #[mfV m.ver a m.segs.length cap] w fun e w' => e = .returned (.tuple #[.string (bs (mbs m).1), .int .i64 ((mbs m).2 : Nat)]) ∧ Below w.heap.size w w'
  read : ∀ {b : List UInt8} {w}, b.length ≤ 5000 → Calls Tryz.prog 66 #[.string (bs b)] w (RdPost w b)
  name : ∀ {v w}, Vt w → i64 v → Calls Tryz.prog 40 #[.int .i64 v] w fun e w' => e = .returned (.string (bs (nm v))) ∧ Below w.heap.size w w'
  ver : ∀ {s : List UInt8} {w}, Vt w → s.length ≤ 1000 → Calls Tryz.prog 31 #[.string (bs s)] w fun e w' => e = .returned (.tuple #[.int .i64 (vr s).1, .bool (vr s).2]) ∧ Below w.heap.size w w'
  object : ∀ {v w}, Vt w → i64 v → Calls Tryz.prog 44 #[.int .i64 v] w fun e w' => e = .returned (.string (bs (ob v))) ∧ Below w.heap.size w w'
  of : ∀ {n : Int} {b : List UInt8} {w}, i64 n → b.length ≤ 5000 → Calls Tryz.prog 46 #[.int .i64 n, .string (bs b)] w fun e w' => e = .returned (.agg #[.int .i64 n, .int .i64 (b.length : Nat), .int .u32 (sum b : Nat)]) ∧ Below w.heap.size w w'

theorem mrd_fit (b : List UInt8) : (mrd b).1.fit := by
  have h0 : noMf.fit := ⟨by unfold i64 noMf; simp, fun s hs => by simp [noMf] at hs⟩
  rcases mrd_cases b with ⟨m, hm, e⟩ | ⟨e, _⟩ | ⟨e, _⟩
  · rw [e]
    refine ⟨by have := hm.1.1; show i64 m.ver; unfold i64; omega, fun s hs => ?_⟩
    have := sok_mem hm.1.2.2 hs
    exact ⟨by unfold i64; omega, by unfold i64; omega, hm.2.1 s hs⟩
  · rw [e]; exact h0
  · rw [e]; exact h0
theorem mrd_len (b : List UInt8) : (mrd b).1.segs.length ≤ 200 := by
  rcases mrd_cases b with ⟨m, hm, e⟩ | ⟨e, _⟩ | ⟨e, _⟩
  · rw [e]; exact hm.1.2.1
  · rw [e]; simp [noMf]
  · rw [e]; simp [noMf]
theorem mrd_err (b : List UInt8) : (mrd b).2 ≤ 4 := by
  rcases mrd_cases b with ⟨m, hm, e⟩ | ⟨e, _⟩ | ⟨e, _⟩ <;> rw [e] <;> simp

/-! ### the small test -/
def m1 (c : Nat) : Mf := ⟨7, [⟨3, 3, c⟩]⟩
theorem right1 (c : Nat) : Right (m1 c) := by
  refine ⟨by simp [m1], by simp [m1], fun j hj s hs => ?_⟩
  simp only [m1, List.length_cons, List.length_nil] at hj
  obtain rfl : j = 0 := by omega
  simp only [m1, List.getElem?_cons_zero, Option.some.injEq] at hs
  subst hs
  exact ⟨by simp, by simp, fun h => by omega⟩
theorem fit1 {c : Nat} (hc : c < 4294967296) : (m1 c).fit := ⟨by unfold i64 m1; simp, fun s hs => by
  simp only [m1, List.mem_singleton] at hs
  subst hs
  exact ⟨by unfold i64; simp, by unfold i64; simp, hc⟩⟩
theorem read1 {c : Nat} (hc : c < 4294967296) : mrd (mbs (m1 c)).1 = (m1 c, 0) := by
  rw [mbs_yes (right1 c)]
  exact mrd_yes ⟨right1 c, (fit1 hc).wf, rfl⟩
theorem len1 {c : Nat} (hc : c < 4294967296) : (mbs (m1 c)).1.length ≤ 100 := by
  rw [mbs_yes (right1 c)]
  have := pre_len (right1 c) (fit1 hc).wf (m1 c).segs.length (Nat.le_refl _)
  rw [pre_all] at this
  simp only [m1, List.length_cons, List.length_nil] at this
  simp only [seal4, List.length_append, four_length]
  simp only [m1]
  omega
end Go.Proofs.YtkdidinekoaobaaGreatDoor.J
