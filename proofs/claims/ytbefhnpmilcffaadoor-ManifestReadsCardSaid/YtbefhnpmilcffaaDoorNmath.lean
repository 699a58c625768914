/- Plain facts of manifests: which may be, their bytes, the manifest of bytes; names in six digits. Nothing of the program is used here. -/
import Derived.Test.YtbefhnpmilcffaaDoorVmath
import Derived.Test.YtbefhnpmilcffaaDoorCmath
import Derived.Test.YtbefhnpmilcffaaDoorBord
namespace Go.Proofs.YtbefhnpmilcffaaDoor.J
set_option linter.unusedVariables false

/-- What is known of a segment. -/
structure Sg where
  n : Int
  size : Int
  sum : Nat
deriving DecidableEq
/-- A manifest. -/
structure Mf where
  ver : Int
  segs : List Sg
deriving DecidableEq
def Mf.wf (m : Mf) : Prop := ∀ s ∈ m.segs, s.sum < 4294967296
def noMf : Mf := ⟨0, []⟩

/-- One segment's numbers are in their bounds, and it stands behind the one ahead of it. -/
def okSg (l : List Sg) (j : Nat) : Prop := ∀ s, l[j]? = some s → (0 ≤ s.n ∧ s.n ≤ 999999) ∧ (0 ≤ s.size ∧ s.size ≤ 1048576) ∧ (0 < j → ∀ p, l[j - 1]? = some p → p.n < s.n)
def Sok (l : List Sg) (i : Nat) : Prop := ∀ j, j < i → okSg l j
def Right (m : Mf) : Prop := (1 ≤ m.ver ∧ m.ver ≤ 999999) ∧ m.segs.length ≤ 200 ∧ Sok m.segs m.segs.length
open Classical in
noncomputable def right (m : Mf) : Bool := decide (Right m)
theorem right_iff {m : Mf} : right m = true ↔ Right m := by unfold right; simp
theorem right_no {m : Mf} (h : ¬ Right m) : right m = false := by unfold right; simp [h]
theorem Sok.succ {l : List Sg} {i : Nat} : Sok l (i + 1) ↔ Sok l i ∧ okSg l i := by
  constructor
  · intro h
    exact ⟨fun j hj => h j (by omega), h i (by omega)⟩
  · rintro ⟨h1, h2⟩ j hj
    rcases Nat.lt_or_ge j i with g | g
    · exact h1 j g
    · obtain rfl : j = i := by omega
      exact h2

/-! ### bytes -/
def snums (s : Sg) : List Nat := [s.n.toNat, s.size.toNat, s.sum]
def mnums (m : Mf) : List Nat := m.ver.toNat :: m.segs.length :: m.segs.flatMap snums
def puts (l : List Nat) : List UInt8 := l.flatMap put
def enc (m : Mf) : List UInt8 := puts (mnums m)
theorem puts_cons (n : Nat) (l : List Nat) : puts (n :: l) = put n ++ puts l := by simp [puts]
theorem puts_append (a b : List Nat) : puts (a ++ b) = puts a ++ puts b := by simp [puts]
noncomputable def mbs (m : Mf) : List UInt8 × Nat := if right m = true then (seal4 (enc m), 0) else ([], 1)
theorem mbs_yes {m : Mf} (h : Right m) : mbs m = (seal4 (enc m), 0) := by unfold mbs; rw [if_pos (right_iff.2 h)]
theorem mbs_no {m : Mf} (h : ¬ Right m) : mbs m = ([], 1) := by unfold mbs; rw [right_no h]; rfl

/-- Numbers laid behind one another are read in one way alone. -/
theorem puts_split : ∀ (D A : List Nat) (rest : List UInt8), (∀ x ∈ A, x < M64) → (∀ x ∈ D, x < M64) → puts A = puts D ++ rest → ∃ R, A = D ++ R ∧ rest = puts R
  | [], A, rest, _, _, h => ⟨A, rfl, by simpa [puts] using h.symm⟩
  | d :: D, [], rest, _, _, h => by
    have := congrArg List.length h
    rw [puts_cons] at this
    have hp := put_pos d
    simp [puts] at this
    omega
  | d :: D, a :: A, rest, hA, hD, h => by
    rw [puts_cons, puts_cons, List.append_assoc] at h
    have h1 := tk_put (hA a (List.mem_cons_self ..)) (puts A)
    have h2 := tk_put (hD d (List.mem_cons_self ..)) (puts D ++ rest)
    rw [h] at h1
    rw [h1] at h2
    simp only [Prod.mk.injEq, and_true] at h2
    obtain ⟨rfl, h3⟩ := h2
    obtain ⟨R, rfl, hr⟩ := puts_split D A rest (fun x hx => hA x (List.mem_cons_of_mem _ hx)) (fun x hx => hD x (List.mem_cons_of_mem _ hx)) h3
    exact ⟨R, rfl, hr⟩
theorem sok_mem {l : List Sg} (h : Sok l l.length) {s : Sg} (hs : s ∈ l) : (0 ≤ s.n ∧ s.n ≤ 999999) ∧ (0 ≤ s.size ∧ s.size ≤ 1048576) := by
  obtain ⟨j, hj⟩ := List.mem_iff_getElem?.1 hs
  have := h j (List.getElem?_eq_some_iff.1 hj).1 s hj
  exact ⟨this.1, this.2.1⟩
theorem mnums_lt {m : Mf} (h : Right m) (hw : m.wf) : ∀ x ∈ mnums m, x < 4294967296 := by
  intro x hx
  unfold mnums at hx
  rw [List.mem_cons, List.mem_cons, List.mem_flatMap] at hx
  rcases hx with rfl | rfl | ⟨s, hs, hx⟩
  · have := h.1; omega
  · have := h.2.1; omega
  · have := sok_mem h.2.2 hs
    have := hw s hs
    unfold snums at hx
    simp only [List.mem_cons, List.not_mem_nil, or_false] at hx
    rcases hx with rfl | rfl | rfl <;> omega
/-- Segments of numbers, three by three. -/
def trips : List Nat → List Sg
  | a :: b :: c :: r => ⟨a, b, c⟩ :: trips r
  | _ => []
theorem trips_of {l : List Sg} (h : ∀ s ∈ l, 0 ≤ s.n ∧ 0 ≤ s.size) : trips (l.flatMap snums) = l := by
  induction l with
  | nil => rfl
  | cons s r ih =>
    rw [List.flatMap_cons]
    show trips (s.n.toNat :: s.size.toNat :: s.sum :: r.flatMap snums) = _
    rw [trips, ih (fun t ht => h t (List.mem_cons_of_mem _ ht))]
    have := h s (List.mem_cons_self ..)
    obtain ⟨n, z, c⟩ := s
    simp only [List.cons.injEq, Sg.mk.injEq, and_true]
    exact ⟨Int.toNat_of_nonneg this.1, Int.toNat_of_nonneg this.2⟩
/-- The manifest of numbers. -/
def ofNums (l : List Nat) : Mf := ⟨((l[0]?.getD 0 : Nat) : Int), trips (l.drop 2)⟩
theorem ofNums_of {m : Mf} (h : Right m) : ofNums (mnums m) = m := by
  unfold ofNums mnums
  have h1 := h.1
  have h2 := trips_of (l := m.segs) (fun s hs => by have := sok_mem h.2.2 hs; exact ⟨this.1.1, this.2.1⟩)
  simp only [List.getElem?_cons_zero, Option.getD_some, List.drop_succ_cons, List.drop_zero]
  rw [h2]
  obtain ⟨v, l⟩ := m
  simp only [Mf.mk.injEq, and_true]
  exact Int.toNat_of_nonneg (by simp only at h1; omega)

/-- b is this manifest's. -/
def isOf (b : List UInt8) (m : Mf) : Prop := Right m ∧ m.wf ∧ seal4 (enc m) = b
open Classical in
noncomputable def mrd (b : List UInt8) : Mf × Nat := if (opn b).2 = false then (noMf, 4) else if h : ∃ m, isOf b m then (h.choose, 0) else (noMf, 2)
theorem opn_of {b : List UInt8} {m : Mf} (h : isOf b m) : opn b = (enc m, true) := by rw [← h.2.2]; exact opn_seal _
theorem seal_of {b : List UInt8} (h : (opn b).2 = true) : seal4 (opn b).1 = b := by
  by_cases h4 : b.length < 4
  · rw [opn_short h4] at h; cases h
  · by_cases e : four (sum (b.drop 4)) = b.take 4
    · rw [opn_yes h4 e]
      unfold seal4
      simp only
      rw [e, List.take_append_drop]
    · rw [opn_no h4 e] at h; cases h
theorem isOf_one {b : List UInt8} {m m' : Mf} (h : isOf b m) (h' : isOf b m') : m = m' := by
  have e : enc m = enc m' := by
    have := opn_of h
    rw [opn_of h'] at this
    simpa using this.symm
  have l1 := mnums_lt h.1 h.2.1
  have l2 := mnums_lt h'.1 h'.2.1
  obtain ⟨R, hR, h0⟩ := puts_split (mnums m') (mnums m) [] (fun x hx => by have := l1 x hx; unfold M64; omega) (fun x hx => by have := l2 x hx; unfold M64; omega) (by rw [List.append_nil]; exact e)
  cases R with
  | nil =>
    rw [List.append_nil] at hR
    rw [← ofNums_of h.1, hR, ofNums_of h'.1]
  | cons x r =>
    have := congrArg List.length h0
    rw [puts_cons] at this
    have := put_pos x
    simp at *
    omega
open Classical in
theorem mrd_sum {b : List UInt8} (h : (opn b).2 = false) : mrd b = (noMf, 4) := by unfold mrd; rw [if_pos h]
open Classical in
theorem mrd_yes {b : List UInt8} {m : Mf} (h : isOf b m) : mrd b = (m, 0) := by
  have hx : ∃ m, isOf b m := ⟨m, h⟩
  unfold mrd
  rw [if_neg (by rw [opn_of h]; simp), dif_pos hx, isOf_one hx.choose_spec h]
open Classical in
theorem mrd_no {b : List UInt8} (h : (opn b).2 = true) (hn : ∀ m, ¬ isOf b m) : mrd b = (noMf, 2) := by
  unfold mrd
  rw [if_neg (by rw [h]; simp), dif_neg (fun ⟨m, hm⟩ => hn m hm)]
theorem mrd_cases (b : List UInt8) : (∃ m, isOf b m ∧ mrd b = (m, 0)) ∨ (mrd b = (noMf, 2) ∧ (opn b).2 = true ∧ ∀ m, ¬ isOf b m) ∨ (mrd b = (noMf, 4) ∧ (opn b).2 = false) := by
  cases h : (opn b).2
  · exact Or.inr (Or.inr ⟨mrd_sum h, rfl⟩)
  · by_cases hx : ∃ m, isOf b m
    · obtain ⟨m, hm⟩ := hx
      exact Or.inl ⟨m, hm, mrd_yes hm⟩
    · exact Or.inr (Or.inl ⟨mrd_no h (fun m hm => hx ⟨m, hm⟩), rfl, fun m hm => hx ⟨m, hm⟩⟩)
/-- What has been read of numbers is a beginning of the manifest's. -/
theorem read_on {b : List UInt8} {m : Mf} (h : isOf b m) {D : List Nat} {rest : List UInt8} (hD : ∀ x ∈ D, x < M64) (he : (opn b).1 = puts D ++ rest) : ∃ R, mnums m = D ++ R ∧ rest = puts R := by
  rw [opn_of h] at he
  have l1 := mnums_lt h.1 h.2.1
  exact puts_split D (mnums m) rest (fun x hx => by have := l1 x hx; unfold M64; omega) hD he
/-- A next number, or none. -/
theorem read_next {b : List UInt8} {m : Mf} (h : isOf b m) {D : List Nat} {rest : List UInt8} (hD : ∀ x ∈ D, x < M64) (he : (opn b).1 = puts D ++ rest) (hr : rest ≠ []) : ∃ n r, tk rest = (n, r, 0) ∧ n < 4294967296 := by
  obtain ⟨R, h1, rfl⟩ := read_on h hD he
  cases R with
  | nil => exact absurd rfl hr
  | cons x r =>
    have hx : x < 4294967296 := mnums_lt h.1 h.2.1 x (by rw [h1]; simp)
    rw [puts_cons]
    exact ⟨x, puts r, tk_put (by unfold M64; omega) _, hx⟩
theorem read_all {b : List UInt8} {m : Mf} (h : isOf b m) {D : List Nat} (hD : ∀ x ∈ D, x < M64) (he : (opn b).1 = puts D) : mnums m = D := by
  obtain ⟨R, h1, h2⟩ := read_on h (rest := []) hD (by rw [List.append_nil]; exact he)
  cases R with
  | nil => rw [h1, List.append_nil]
  | cons x r =>
    have := congrArg List.length h2
    rw [puts_cons] at this
    have := put_pos x
    simp at *
    omega

/-! ### names -/
def dg (n : Nat) : UInt8 := UInt8.ofNat (48 + n % 10)
def dig (n : Nat) : List UInt8 := [dg (n / 100000), dg (n / 10000), dg (n / 1000), dg (n / 100), dg (n / 10), dg n]
theorem dg_toNat (n : Nat) : (dg n).toNat = 48 + n % 10 := by unfold dg; rw [UInt8.toNat_ofNat']; omega
theorem dg_eq {a b : Nat} (h : dg a = dg b) : a % 10 = b % 10 := by
  have := congrArg UInt8.toNat h
  rw [dg_toNat, dg_toNat] at this; omega
theorem dig_inj {a b : Nat} (ha : a ≤ 999999) (hb : b ≤ 999999) (h : dig a = dig b) : a = b := by
  unfold dig at h
  simp only [List.cons.injEq, and_true] at h
  obtain ⟨h5, h4, h3, h2, h1, h0⟩ := h
  have := dg_eq h5; have := dg_eq h4; have := dg_eq h3; have := dg_eq h2; have := dg_eq h1; have := dg_eq h0
  omega
def nm (v : Int) : List UInt8 := if 1 ≤ v ∧ v ≤ 999999 then 109 :: dig v.toNat else []
def ob (n : Int) : List UInt8 := if 0 ≤ n ∧ n ≤ 999999 then 111 :: dig n.toNat else []
theorem nm_yes {v : Int} (h : 1 ≤ v ∧ v ≤ 999999) : nm v = 109 :: dig v.toNat := by unfold nm; rw [if_pos h]
theorem nm_no {v : Int} (h : ¬ (1 ≤ v ∧ v ≤ 999999)) : nm v = [] := by unfold nm; rw [if_neg h]
theorem ob_yes {v : Int} (h : 0 ≤ v ∧ v ≤ 999999) : ob v = 111 :: dig v.toNat := by unfold ob; rw [if_pos h]
theorem ob_no {v : Int} (h : ¬ (0 ≤ v ∧ v ≤ 999999)) : ob v = [] := by unfold ob; rw [if_neg h]
/-- The version of a name. -/
def isVer (s : List UInt8) (v : Int) : Prop := (1 ≤ v ∧ v ≤ 999999) ∧ nm v = s
theorem isVer_one {s : List UInt8} {v v' : Int} (h : isVer s v) (h' : isVer s v') : v = v' := by
  have e := h.2
  rw [← h'.2, nm_yes h.1, nm_yes h'.1] at e
  simp only [List.cons.injEq, true_and] at e
  have := dig_inj (by have := h.1; omega) (by have := h'.1; omega) e
  have := h.1; have := h'.1
  omega
open Classical in
noncomputable def vr (s : List UInt8) : Int × Bool := if h : ∃ v, isVer s v then (h.choose, true) else (0, false)
open Classical in
theorem vr_yes {s : List UInt8} {v : Int} (h : isVer s v) : vr s = (v, true) := by
  have hx : ∃ v, isVer s v := ⟨v, h⟩
  unfold vr
  rw [dif_pos hx, isVer_one hx.choose_spec h]
open Classical in
theorem vr_no {s : List UInt8} (h : ∀ v, ¬ isVer s v) : vr s = (0, false) := by
  unfold vr
  rw [dif_neg (fun ⟨v, hv⟩ => h v hv)]
theorem vr_nm {v : Int} (h : 1 ≤ v ∧ v ≤ 999999) : vr (nm v) = (v, true) := vr_yes ⟨h, rfl⟩
theorem vr_ob (n : Int) : vr (ob n) = (0, false) := vr_no (fun v ⟨h1, h2⟩ => by
  rw [nm_yes h1] at h2
  by_cases hn : 0 ≤ n ∧ n ≤ 999999
  · rw [ob_yes hn] at h2; simp at h2
  · rw [ob_no hn] at h2; simp at h2)
theorem dig_len (n : Nat) : (dig n).length = 6 := rfl
theorem dg_lt {a b : Nat} : dg a < dg b ↔ a % 10 < b % 10 := by
  rw [UInt8.lt_iff_toNat_lt, dg_toNat, dg_toNat]; omega
theorem dg_eq_iff {a b : Nat} : dg a = dg b ↔ a % 10 = b % 10 := ⟨dg_eq, fun h => by unfold dg; rw [h]⟩
theorem app_lt : ∀ (A C : List UInt8) (x y : UInt8), A.length = C.length → (A ++ [x] < C ++ [y] ↔ A < C ∨ A = C ∧ x < y)
  | [], [], x, y, _ => by simp [List.cons_lt_cons_iff]
  | [], c :: C, x, y, h => by simp at h
  | a :: A, [], x, y, h => by simp at h
  | a :: A, c :: C, x, y, h => by
    have ih := app_lt A C x y (by simpa using h)
    rw [List.cons_append, List.cons_append, List.cons_lt_cons_iff, List.cons_lt_cons_iff, ih, List.cons.injEq]
    constructor
    · rintro (g | ⟨g1, g2 | ⟨g2, g3⟩⟩)
      · exact Or.inl (Or.inl g)
      · exact Or.inl (Or.inr ⟨g1, g2⟩)
      · exact Or.inr ⟨⟨g1, g2⟩, g3⟩
    · rintro ((g | ⟨g1, g2⟩) | ⟨⟨g1, g2⟩, g3⟩)
      · exact Or.inl g
      · exact Or.inr ⟨g1, Or.inl g2⟩
      · exact Or.inr ⟨g1, Or.inr ⟨g2, g3⟩⟩
/-- The last k digits. -/
def digs : Nat → Nat → List UInt8
  | 0, _ => []
  | k + 1, n => digs k (n / 10) ++ [dg n]
theorem digs_len : ∀ k n, (digs k n).length = k
  | 0, _ => rfl
  | k + 1, n => by rw [digs, List.length_append, digs_len k]; rfl
theorem digs_eq : ∀ k a b, a < 10 ^ k → b < 10 ^ k → (digs k a = digs k b ↔ a = b)
  | 0, a, b, ha, hb => by simp [digs]; simp at ha hb; omega
  | k + 1, a, b, ha, hb => by
    rw [Nat.pow_succ] at ha hb
    have ih := digs_eq k (a / 10) (b / 10) (by omega) (by omega)
    constructor
    · intro h
      rw [digs, digs] at h
      obtain ⟨h1, h2⟩ := List.append_inj h (by rw [digs_len, digs_len])
      have := ih.1 h1
      simp only [List.cons.injEq, and_true] at h2
      have := dg_eq h2
      omega
    · rintro rfl; rfl
theorem digs_lt : ∀ k a b, a < 10 ^ k → b < 10 ^ k → (digs k a < digs k b ↔ a < b)
  | 0, a, b, ha, hb => by simp [digs]; simp at ha hb; omega
  | k + 1, a, b, ha, hb => by
    rw [Nat.pow_succ] at ha hb
    rw [digs, digs, app_lt _ _ _ _ (by rw [digs_len, digs_len]), digs_lt k _ _ (by omega) (by omega), digs_eq k _ _ (by omega) (by omega), dg_lt]
    omega
theorem dig_digs (n : Nat) : dig n = digs 6 n := by
  simp only [digs, dig, List.nil_append, List.cons_append, Nat.div_div_eq_div_mul, Nat.reduceMul]
theorem dig_lt {a b : Nat} (ha : a ≤ 999999) (hb : b ≤ 999999) : dig a < dig b ↔ a < b := by
  rw [dig_digs, dig_digs]
  exact digs_lt 6 a b (by omega) (by omega)
theorem nm_lt {a b : Int} (ha : 1 ≤ a ∧ a ≤ 999999) (hb : 1 ≤ b ∧ b ≤ 999999) : lt (nm a) (nm b) = decide (a < b) := by
  rw [nm_yes ha, nm_yes hb]
  have h : (109 :: dig a.toNat : List UInt8) < 109 :: dig b.toNat ↔ a < b := by
    rw [List.cons_lt_cons_iff]
    simp only [UInt8.lt_irrefl, false_or, true_and]
    rw [dig_lt (by omega) (by omega)]
    omega
  cases hx : lt (109 :: dig a.toNat) (109 :: dig b.toNat)
  · symm; rw [decide_eq_false_iff_not]
    intro hab
    rw [(lt_iff _ _).2 (h.2 hab)] at hx; cases hx
  · symm; rw [decide_eq_true_eq]
    exact h.1 ((lt_iff _ _).1 hx)
end Go.Proofs.YtbefhnpmilcffaaDoor.J
