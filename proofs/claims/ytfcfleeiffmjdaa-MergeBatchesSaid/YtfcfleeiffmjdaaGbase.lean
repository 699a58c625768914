/- Records and lists of records in memory, and as arguments; the document's small tests on them. -/
import Derived.Test.YtfcfleeiffmjdaaBopens
import Derived.ChangeOld
import Derived.OpenShut
import Derived.Lib.SmallJoins
import Derived.ProofKit
import Derived.ShutString
import Derived.WalkMore
import Derived.ScopeJumps
import Derived.Deep.RegionHeld3
namespace Go.Proofs.Ytfcfleeiffmjdaa
open Go.RowKit Go.Joins Go.ChangeShapes Go.WideShapes Go.Deep
set_option linter.unusedVariables false
set_option linter.unusedSimpArgs false

/-- A record: number, key, value, is it gone? -/
structure Rc where
  q : Nat
  k : List UInt8
  v : List UInt8
  g : Bool

theorem Rc.ext' {a b : Rc} (h1 : a.q = b.q) (h2 : a.k = b.k) (h3 : a.v = b.v) (h4 : a.g = b.g) : a = b := by
  cases a; cases b; simp_all

def Rc.z : Rc := ⟨0, [], [], false⟩
instance : Inhabited Rc := ⟨Rc.z⟩

def rv (r : Rc) : Value := .agg #[.int .u64 ((r.q : Nat) : Int), .string (bs r.k), .string (bs r.v), .bool r.g]
/-- A slice of records in memory. -/
def Recs (w : World) (a : Option Addr) (l : List Rc) : Prop :=
  0 < l.length → ∃ b off, a = some ⟨b, off, none⟩ ∧ b < w.heap.size ∧ ∀ i (h : i < l.length),
    w.cell? ⟨b, off + i * 4, none⟩ = some (.int .u64 (l[i].q : Nat)) ∧ w.cell? ⟨b, off + i * 4 + 1, none⟩ = some (.string (bs l[i].k)) ∧
    w.cell? ⟨b, off + i * 4 + 2, none⟩ = some (.string (bs l[i].v)) ∧ w.cell? ⟨b, off + i * 4 + 3, none⟩ = some (.bool l[i].g)

theorem Recs.later {w w' : World} {a : Option Addr} {l : List Rc} (h : Recs w a l) {B : Nat} (hb : Below B w w') (hB : w.heap.size ≤ B) : Recs w' a l := by
  intro h0
  obtain ⟨b, off, ha, hlt, hc⟩ := h h0
  have hlt' : b < B := by omega
  refine ⟨b, off, ha, Nat.lt_of_lt_of_le hlt hb.size, fun i hi => ?_⟩
  obtain ⟨c0, c1, c2, c3⟩ := hc i hi
  exact ⟨(hb.cell (p := ⟨b, _, none⟩) hlt').trans c0, (hb.cell (p := ⟨b, _, none⟩) hlt').trans c1, (hb.cell (p := ⟨b, _, none⟩) hlt').trans c2, (hb.cell (p := ⟨b, _, none⟩) hlt').trans c3⟩

/-- No record is greater than a machine's. -/
def Fits (l : List Rc) : Prop := ∀ r ∈ l, r.q ≤ 18446744073709551615 ∧ r.k.length ≤ 9223372036854775807 ∧ r.v.length ≤ 9223372036854775807

/-- Records as cells. -/
def flat (l : List Rc) : List Value := l.flatMap fun r => [.int .u64 ((r.q : Nat) : Int), .string (bs r.k), .string (bs r.v), .bool r.g]
theorem flat_snoc (l : List Rc) (r : Rc) : flat (l ++ [r]) = flat l ++ [.int .u64 ((r.q : Nat) : Int), .string (bs r.k), .string (bs r.v), .bool r.g] := by simp [flat]
theorem flat_get : ∀ (l : List Rc) (i : Nat) (h : i < l.length), (flat l)[i * 4]? = some (.int .u64 ((l[i].q : Nat) : Int)) ∧ (flat l)[i * 4 + 1]? = some (.string (bs l[i].k)) ∧ (flat l)[i * 4 + 2]? = some (.string (bs l[i].v)) ∧ (flat l)[i * 4 + 3]? = some (.bool l[i].g)
  | r :: l, 0, _ => by simp [flat]
  | r :: l, i + 1, h => by
    have := flat_get l i (by simpa using h)
    have e : flat (r :: l) = [.int .u64 ((r.q : Nat) : Int), .string (bs r.k), .string (bs r.v), .bool r.g] ++ flat l := by simp [flat]
    have s : ∀ j, (flat (r :: l))[(i + 1) * 4 + j]? = (flat l)[i * 4 + j]? := fun j => by
      rw [e, List.getElem?_append_right (by simp; omega)]
      congr 1
      simp
      omega
    exact ⟨(s 0).trans this.1, (s 1).trans this.2.1, (s 2).trans this.2.2.1, (s 3).trans this.2.2.2⟩

/-- The slice's block is one of records. -/
def Tag (w : World) (a : Option Addr) : Prop := ∀ ad, a = some ad → ∃ cs z, w.heap[ad.block]? = some (.cells cs 35 z)
theorem Tag.none (w : World) : Tag w none := fun ad h => by cases h
theorem Tag.lt {w : World} {a : Option Addr} (h : Tag w a) {ad : Addr} (e : a = some ad) : ad.block < w.heap.size := by
  obtain ⟨cs, z, hh⟩ := h ad e
  exact (Array.getElem?_eq_some_iff.1 hh).1
theorem Tag.later {w w' : World} {a : Option Addr} (h : Tag w a) {B : Nat} (hb : Below B w w') (hB : w.heap.size ≤ B) : Tag w' a := fun ad e => by
  obtain ⟨cs, z, hh⟩ := h ad e
  have := (Array.getElem?_eq_some_iff.1 hh).1
  exact ⟨cs, z, by rw [hb.block ad.block (by omega)]; exact hh⟩

/-- A slice of records in a block of its own kind. -/
def RecsT (w : World) (a : Option Addr) (l : List Rc) : Prop := Recs w a l ∧ Tag w a
theorem RecsT.later {w w' : World} {a : Option Addr} {l : List Rc} (h : RecsT w a l) {B : Nat} (hb : Below B w w') (hB : w.heap.size ≤ B) : RecsT w' a l := ⟨h.1.later hb hB, h.2.later hb hB⟩

theorem owns_later {w w' : World} {base n : Nat} {e : TypeId} {size : Nat} {v : Value} {xs : List Value} (h : w.ownsRow base e size v n xs) (hb : Below w.heap.size w w') : w'.ownsRow base e size v n xs := by
  have hl := h.lt
  refine ⟨h.1, ?_⟩
  rcases h.2 with hn | ⟨g, cap, cur, rfl, hbg, hg, rest⟩
  · exact .inl hn
  · exact .inr ⟨g, cap, cur, rfl, hbg, by rw [hb.block g (hl g rfl).2]; exact hg, rest⟩

theorem owns_recs {w : World} {base : Nat} {v : Value} {l : List Rc} (h : w.ownsRow base 35 4 v l.length (flat l)) : ∃ a cap, v = .slice a l.length cap ∧ RecsT w a l := by
  have hl := h.lt
  have hc := fun g hg => h.cells (g := g) hg
  rcases h.2 with ⟨rfl, h0⟩ | ⟨g, cap, cur, rfl, hbg, hg, rest⟩
  · exact ⟨none, 0, by rw [h0], fun h1 => by omega, Tag.none _⟩
  · refine ⟨_, cap, rfl, fun _ => ⟨g, 0, rfl, (hl g rfl).2, fun i hi => ?_⟩, fun ad e => by cases e; exact ⟨_, _, hg⟩⟩
    obtain ⟨f0, f1, f2, f3⟩ := flat_get l i hi
    have key : ∀ j u, (flat l)[j]? = some u → w.cell? ⟨g, j, none⟩ = some u := fun j u hu => by
      have := hc g rfl j u hu
      rwa [show (⟨g, 0, none⟩ : Addr).add j = ⟨g, j, none⟩ from by simp [Addr.add]; omega] at this
    have z : ∀ j, 0 + j = j := Nat.zero_add
    simp only [z]
    exact ⟨key _ _ f0, key _ _ f1, key _ _ f2, key _ _ f3⟩

theorem infoRec : (Try.prog.info? 35).map (fun i => (i.zero, i.size, i.bytes)) = some (some (.agg #[.int .u64 0, .string ⟨#[]⟩, .string ⟨#[]⟩, .bool false]), 4, 48) := by kernel_rfl

theorem cell_four_new (w : World) (c0 c1 c2 c3 : Value) (t : TypeId) : ∀ j u, [c0, c1, c2, c3][j]? = some u → (w.alloc (.cells #[c0, c1, c2, c3] t)).cell? ((⟨w.heap.size, 0, none⟩ : Addr).add j) = some u := by
  intro j u hu
  rw [show (⟨w.heap.size, 0, none⟩ : Addr).add j = ⟨w.heap.size, j, none⟩ from by simp [Addr.add]; omega, World.cell?_alloc_mark]
  simpa using hu

/-- The slices of a list of batches: each has its batch's records. -/
def Rows2 (w : World) (vs : List Value) (ll : List (List Rc)) : Prop :=
  vs.length = ll.length ∧ ∀ i (h : i < ll.length), ∃ a cap, vs[i]? = some (.slice a ll[i].length cap) ∧ RecsT w a ll[i]

theorem Rows2.nil (w : World) : Rows2 w [] [] := ⟨rfl, fun i h => by simp at h⟩
theorem Rows2.later {w w' : World} {vs : List Value} {ll : List (List Rc)} (h : Rows2 w vs ll) {B : Nat} (hb : Below B w w') (hB : w.heap.size ≤ B) : Rows2 w' vs ll :=
  ⟨h.1, fun i hi => by obtain ⟨a, cap, h1, h2⟩ := h.2 i hi; exact ⟨a, cap, h1, h2.later hb hB⟩⟩
theorem Rows2.snoc {w : World} {vs : List Value} {ll : List (List Rc)} (h : Rows2 w vs ll) {a : Option Addr} {cap : Nat} {l : List Rc} (hl : RecsT w a l) : Rows2 w (vs ++ [.slice a l.length cap]) (ll ++ [l]) := by
  refine ⟨by simp [h.1], fun i hi => ?_⟩
  by_cases e : i < ll.length
  · obtain ⟨a', cap', h1, h2⟩ := h.2 i e
    refine ⟨a', cap', ?_, ?_⟩
    · rw [List.getElem?_append_left (by rw [h.1]; exact e), List.getElem_append_left e]; exact h1
    · rw [List.getElem_append_left e]; exact h2
  · have : i = ll.length := by simp at hi; omega
    subst this
    refine ⟨a, cap, ?_, ?_⟩
    · rw [List.getElem?_append_right (by rw [h.1]; exact Nat.le_refl _), h.1]; simp
    · simpa using hl

/-- A block of records stays where an own row of slices grows. -/
theorem RecsT.grown {w w' : World} {a : Option Addr} {l : List Rc} (h : RecsT w a l) {base n : Nat} {v : Value} {xs : List Value} (ho : w.ownsRow base 25 1 v n xs) (hg : w.grownBy w' v.ownBlock) : RecsT w' a l := by
  have key : ∀ ad, a = some ad → w'.heap[ad.block]? = w.heap[ad.block]? := fun ad e => by
    obtain ⟨cs, z, hh⟩ := h.2 ad e
    refine hg.block _ (h.2.lt e) ?_
    intro e2
    rcases ho.2 with ⟨rfl, _⟩ | ⟨g, cap, cur, rfl, _, hgg, _⟩
    · cases e2
    · simp [Value.ownBlock] at e2
      rw [e2, hgg] at hh
      injection hh with hh
      injection hh with _ hh
      exact absurd hh (by decide)
  refine ⟨fun h0 => ?_, fun ad e => ?_⟩
  · obtain ⟨b, off, e, hlt, hc⟩ := h.1 h0
    have hk := key _ e
    refine ⟨b, off, e, Nat.lt_of_lt_of_le hlt hg.size, fun i hi => ?_⟩
    obtain ⟨c0, c1, c2, c3⟩ := hc i hi
    have hk' : ∀ o, w'.cell? ⟨b, o, none⟩ = w.cell? ⟨b, o, none⟩ := fun o => World.cell?_of_block (a := ⟨b, o, none⟩) hk
    exact ⟨(hk' _).trans c0, (hk' _).trans c1, (hk' _).trans c2, (hk' _).trans c3⟩
  · obtain ⟨cs, z, hh⟩ := h.2 ad e
    exact ⟨cs, z, by rw [key ad e]; exact hh⟩

theorem Rows2.grown {w w' : World} {vs : List Value} {ll : List (List Rc)} (h : Rows2 w vs ll) {base n : Nat} {v : Value} {xs : List Value} (ho : w.ownsRow base 25 1 v n xs) (hg : w.grownBy w' v.ownBlock) : Rows2 w' vs ll :=
  ⟨h.1, fun i hi => by obtain ⟨a, cap, h1, h2⟩ := h.2 i hi; exact ⟨a, cap, h1, h2.grown ho hg⟩⟩

/-- A slice of batches in memory. -/
def Bats (w : World) (a : Option Addr) (ll : List (List Rc)) : Prop :=
  0 < ll.length → ∃ b off, a = some ⟨b, off, none⟩ ∧ b < w.heap.size ∧ ∀ i (h : i < ll.length), ∃ a' cap', w.cell? ⟨b, off + i, none⟩ = some (.slice a' ll[i].length cap') ∧ Recs w a' ll[i]

theorem Bats.later {w w' : World} {a : Option Addr} {ll : List (List Rc)} (h : Bats w a ll) {B : Nat} (hb : Below B w w') (hB : w.heap.size ≤ B) : Bats w' a ll := by
  intro h0
  obtain ⟨b, off, e, hlt, hc⟩ := h h0
  refine ⟨b, off, e, Nat.lt_of_lt_of_le hlt hb.size, fun i hi => ?_⟩
  obtain ⟨a', cap', c, hr⟩ := hc i hi
  exact ⟨a', cap', (hb.cell (p := ⟨b, _, none⟩) (by show b < B; omega)).trans c, hr.later hb hB⟩

theorem owns_bats {w : World} {base : Nat} {v : Value} {vs : List Value} {ll : List (List Rc)} (h : w.ownsRow base 25 1 v ll.length vs) (hr : Rows2 w vs ll) : ∃ a cap, v = .slice a ll.length cap ∧ Bats w a ll := by
  have hl := h.lt
  have hc := fun g hg => h.cells (g := g) hg
  rcases h.2 with ⟨rfl, h0⟩ | ⟨g, cap, cur, rfl, hbg, hg, rest⟩
  · exact ⟨none, 0, by rw [h0], fun h1 => by omega⟩
  · refine ⟨_, cap, rfl, fun _ => ⟨g, 0, rfl, (hl g rfl).2, fun i hi => ?_⟩⟩
    obtain ⟨a', cap', h1, h2⟩ := hr.2 i hi
    have := hc g rfl i _ h1
    rw [show (⟨g, 0, none⟩ : Addr).add i = ⟨g, 0 + i, none⟩ from by simp [Addr.add]; try omega] at this
    exact ⟨a', cap', this, h2.1⟩

theorem infoSlice : (Try.prog.info? 25).map (fun i => (i.zero, i.size, i.bytes)) = some (some (.slice none 0 0), 1, 24) := by kernel_rfl

theorem cell_one_new (w : World) (c0 : Value) (t : TypeId) : ∀ j u, [c0][j]? = some u → (w.alloc (.cells #[c0] t)).cell? ((⟨w.heap.size, 0, none⟩ : Addr).add j) = some u := by
  intro j u hu
  rw [show (⟨w.heap.size, 0, none⟩ : Addr).add j = ⟨w.heap.size, j, none⟩ from by simp [Addr.add]; omega, World.cell?_alloc_mark]
  simpa using hu

theorem add_add (x : Addr) (i j : Nat) : (x.add i).add j = x.add (i + j) := by
  obtain ⟨b, off, spot⟩ := x
  unfold Addr.add
  by_cases h1 : i = 0 <;> by_cases h2 : j = 0 <;> simp [h1, h2]
  omega


theorem cellsRec : Try.prog.cellsOf 35 = 4 := by kernel_rfl
theorem cellsStr : Try.prog.cellsOf 9 = 1 := by kernel_rfl
theorem cellsU64 : Try.prog.cellsOf 33 = 1 := by kernel_rfl
theorem cellsBool : Try.prog.cellsOf 4 = 1 := by kernel_rfl

/-- A record's datum. -/
def rdat {H : Type} (r : Rc) : DataW H := .agg [.lit (.int .u64 ((r.q : Nat) : Int)), .lit (.string r.k), .lit (.string r.v), .lit (.bool r.g)]

/-- What is known of a record that came in. -/
def Came (r : Rc) : Prop := r.q ≤ 18446744073709551615 ∧ r.k.length ≤ maxLen ∧ r.v.length ≤ maxLen

theorem Came.fits {r : Rc} (h : Came r) : r.q ≤ 18446744073709551615 ∧ r.k.length ≤ 9223372036854775807 ∧ r.v.length ≤ 9223372036854775807 := by
  obtain ⟨h1, h2, h3⟩ := h
  unfold maxLen at h2 h3
  omega

section
variable {H : Type} {enc : TypeId × Value → H}

theorem rec_of_parts {c0 c1 c2 c3 : Value} {y0 y1 y2 y3 : DataW H × List MemPlace} {W : World} {base : Nat} {spare : Nat → Bool} {held : Bool} {n : Nat}
    (h0 : DataW.trod enc Try.prog W base spare held n 33 [c0] = some y0) (h1 : DataW.trod enc Try.prog W base spare held n 9 [c1] = some y1)
    (h2 : DataW.trod enc Try.prog W base spare held n 9 [c2] = some y2) (h3 : DataW.trod enc Try.prog W base spare held n 4 [c3] = some y3) :
    ∃ r : Rc, Came r ∧ c0 = .int .u64 ((r.q : Nat) : Int) ∧ c1 = .string (bs r.k) ∧ c2 = .string (bs r.v) ∧ c3 = .bool r.g ∧
      DataW.agg [y0.1, y1.1, y2.1, y3.1] = rdat (H := H) r ∧ y0.2 = [] ∧ y1.2 = [] ∧ y2.2 = [] ∧ y3.2 = [] := by
  obtain ⟨q, e0, rfl, z0⟩ := DataW.trod_int Try.underlying33 h0
  obtain ⟨k, e1, rfl, z1⟩ := DataW.trod_string Try.underlying9 h1
  obtain ⟨v, e2, rfl, z2⟩ := DataW.trod_string Try.underlying9 h2
  obtain ⟨g, e3, rfl⟩ := DataW.trod_bool Try.underlying4 h3
  simp only [List.cons.injEq, and_true] at e0 e1 e2 e3
  obtain ⟨q0, q1⟩ := bounds_u64 z0
  have hq : ((q.toNat : Nat) : Int) = q := by omega
  refine ⟨⟨q.toNat, k.data.toList, v.data.toList, g⟩, ⟨by show q.toNat ≤ _; omega, by show k.data.toList.length ≤ _; rw [len_size]; exact z1, by show v.data.toList.length ≤ _; rw [len_size]; exact z2⟩, ?_, ?_, ?_, e3, ?_, rfl, rfl, rfl, rfl⟩
  · rw [e0, hq]
  · rw [e1, bs_of]
  · rw [e2, bs_of]
  · show _ = DataW.agg [.lit (.int .u64 ((q.toNat : Nat) : Int)), _, _, _]
    rw [hq]

theorem wf_u64 {q : Nat} (h : q ≤ 18446744073709551615) : (Lit.int .u64 ((q : Nat) : Int)).wf = true := by
  have e0 : IntKind.u64.min = 0 := rfl
  have e1 : IntKind.u64.max = 18446744073709551615 := rfl
  simp [Lit.wf, e0, e1]; omega

theorem rec_reads {r : Rc} (h : Came r) (W : World) (base : Nat) (sp : Nat → Bool) (held : Bool) : DataW.Trod enc Try.prog W base sp held 35 (rv r) (rdat r) [] := by
  obtain ⟨h1, h2, h3⟩ := h
  have z := wf_u64 h1
  rw [← bs_size] at h2 h3
  refine ⟨2, ?_⟩
  simp [DataW.trod, Value.cells, rv, rdat, Try.underlying35, Try.underlying33, Try.underlying9, Try.underlying4, cellsRec, cellsStr, cellsU64, cellsBool, z, h2, h3, bs_list]

set_option maxRecDepth 100000 in
theorem open_rec {r : Reach} {b0 : Nat} {W : World} {base : Nat} {sp : Nat → Bool} {held : Bool} {v : Value} {d : DataW H} {p : List MemPlace}
    (hv : Value.okWide Try.prog W r b0 35 v) (h : DataW.Trod enc Try.prog W base sp held 35 v d p) : ∃ x : Rc, Came x ∧ v = rv x ∧ d = rdat x ∧ p = [] := by
  obtain ⟨v0, v1, v2, v3, y0, y1, y2, y3, n, rfl, rfl, rfl, h0, h1, h2, h3⟩ := open_agg4 Try.underlying35 (by kernel_rfl) cellsRec hv h
  obtain ⟨x, hx, rfl, rfl, rfl, rfl, hd, p0, p1, p2, p3⟩ := rec_of_parts h0 h1 h2 h3
  exact ⟨x, hx, rfl, hd, by rw [p0, p1, p2, p3]; rfl⟩

end




section
variable {H : Type} {enc : TypeId × Value → H}

theorem rec_at {W : World} {base : Nat} {spare : Nat → Bool} {held : Bool} {n : Nat} {cs : List Value} {x : DataW H × List MemPlace} {a : Addr}
    (hc : W.cells? base a 4 = some cs) (h : DataW.trod enc Try.prog W base spare held n 35 cs = some x) :
    ∃ r : Rc, Came r ∧ W.cell? (a.add 0) = some (.int .u64 ((r.q : Nat) : Int)) ∧ W.cell? (a.add 1) = some (.string (bs r.k)) ∧ W.cell? (a.add 2) = some (.string (bs r.v)) ∧ W.cell? (a.add 3) = some (.bool r.g) := by
  obtain ⟨_, hl, hat⟩ := World.cells?_some hc
  obtain ⟨c0, c1, c2, c3, rfl⟩ : ∃ c0 c1 c2 c3, cs = [c0, c1, c2, c3] := by
    match cs, hl with
    | [c0, c1, c2, c3], _ => exact ⟨c0, c1, c2, c3, rfl⟩
  obtain ⟨y0, y1, y2, y3, m, _, _, h0, h1, h2, h3⟩ := trod_struct4 Try.underlying35 h
  simp [cellsStr, cellsU64, cellsBool] at h0 h1 h2 h3
  obtain ⟨r, hr, rfl, rfl, rfl, rfl, _⟩ := rec_of_parts h0 h1 h2 h3
  exact ⟨r, hr, hat 0 (by omega), hat 1 (by omega), hat 2 (by omega), hat 3 (by omega)⟩

theorem open_recs {W : World} {t : TypeId} (ht : Try.prog.underlying t = some (.slice 35)) {a : Option Addr} {len cap : Nat} {d : DataW H} {p : List MemPlace}
    (h : DataW.Trod enc Try.prog W 0 (fun _ => true) true t (.slice a len cap) d p) : ∃ l : List Rc, l.length = len ∧ len ≤ maxLen ∧ Recs W a l ∧ ∀ r ∈ l, Came r := by
  obtain ⟨fuel, hf⟩ := h
  have hlt := DataW.trod_lt fuel _ _ _ hf
  rcases open_slice ht hf with ⟨hcs, _⟩ | ⟨x, l, c, m, n, D, Pl, hcs, _, hl, hm, hmm, hx, hi⟩
  · simp [Value.cells] at hcs
    obtain ⟨rfl, rfl, rfl⟩ := hcs
    exact ⟨[], rfl, by unfold maxLen; omega, fun h => by simp at h, fun r hr => by simp at hr⟩
  · simp [Value.cells] at hcs
    obtain ⟨rfl, rfl, rfl⟩ := hcs
    simp only [if_true] at hmm
    subst hmm
    rw [cellsRec] at hi
    have hex : ∀ i, i < len → ∃ r : Rc, Came r ∧ W.cell? (x.add (i * 4)) = some (.int .u64 ((r.q : Nat) : Int)) ∧ W.cell? (x.add (i * 4 + 1)) = some (.string (bs r.k)) ∧ W.cell? (x.add (i * 4 + 2)) = some (.string (bs r.v)) ∧ W.cell? (x.add (i * 4 + 3)) = some (.bool r.g) := fun i hil => by
      obtain ⟨cs, hc, hd⟩ := hi i (by omega)
      obtain ⟨r, hr, e0, e1, e2, e3⟩ := rec_at hc hd
      rw [add_add] at e0 e1 e2 e3
      exact ⟨r, hr, e0, e1, e2, e3⟩
    obtain ⟨f, hf2⟩ := choose_lt hex
    refine ⟨(List.range len).map f, by simp, by omega, fun h0 => ?_, fun r hr => ?_⟩
    · have hpos : 0 < len := by simpa using h0
      obtain ⟨b, off, spot⟩ := x
      have hs : spot = none := by simpa [Addr.add] using World.cell?_spot (hf2 0 hpos).2.1
      subst hs
      refine ⟨b, off, rfl, ?_, fun i hi2 => ?_⟩
      · have := World.block_lt_of_cell? _ _ (hf2 0 hpos).2.1
        simpa [Addr.add] using this
      · have hil : i < len := by simpa using hi2
        obtain ⟨_, e0, e1, e2, e3⟩ := hf2 i hil
        simp only [Addr.add_lit] at e0 e1 e2 e3
        simp only [List.getElem_map, List.getElem_range]
        exact ⟨e0, e1, e2, e3⟩
    · obtain ⟨i, hi3, rfl⟩ := List.mem_map.1 hr
      exact (hf2 i (List.mem_range.1 hi3)).1

end

theorem Came.all {l : List Rc} (h : ∀ r ∈ l, Came r) : Fits l := fun r hr => (h r hr).fits



theorem cellsRecs : Try.prog.cellsOf 25 = 1 := by kernel_rfl

section
variable {H : Type} {enc : TypeId × Value → H}

/-- What is known of the records that came in. -/
def Came2 (ll : List (List Rc)) : Prop := ∀ l ∈ ll, l.length ≤ maxLen ∧ ∀ r ∈ l, Came r

/-- A slice of batches that came in: with its room. -/
def BatsIn (W : World) (a : Option Addr) (cap : Nat) (ll : List (List Rc)) : Prop := Bats W a ll ∧ ll.length ≤ cap ∧ cap ≤ maxLen ∧ (a = none → cap = 0)

theorem open_bats {W : World} {t : TypeId} (ht : Try.prog.underlying t = some (.slice 25)) {a : Option Addr} {len cap : Nat} {d : DataW H} {p : List MemPlace}
    (h : DataW.Trod enc Try.prog W 0 (fun _ => true) true t (.slice a len cap) d p) : ∃ ll : List (List Rc), ll.length = len ∧ len ≤ maxLen ∧ BatsIn W a cap ll ∧ Came2 ll := by
  obtain ⟨fuel, hf⟩ := h
  have hlt := DataW.trod_lt fuel _ _ _ hf
  rcases open_slice ht hf with ⟨hcs, _⟩ | ⟨x, l, c, m, n, D, Pl, hcs, _, hl, hm, hmm, hx, hi⟩
  · simp [Value.cells] at hcs
    obtain ⟨rfl, rfl, rfl⟩ := hcs
    exact ⟨[], rfl, by unfold maxLen; omega, ⟨fun h => by simp at h, by simp, by unfold maxLen; omega, fun _ => rfl⟩, fun r hr => by simp at hr⟩
  · simp [Value.cells] at hcs
    obtain ⟨rfl, rfl, rfl⟩ := hcs
    simp only [if_true] at hmm
    subst hmm
    rw [cellsRecs] at hi
    have hex : ∀ i, i < len → ∃ l : List Rc, (∃ a' cap', W.cell? (x.add i) = some (.slice a' l.length cap') ∧ Recs W a' l) ∧ l.length ≤ maxLen ∧ ∀ r ∈ l, Came r := fun i hil => by
      obtain ⟨cs, hc, hd⟩ := hi i (by omega)
      obtain ⟨_, hl1, hat⟩ := World.cells?_some hc
      obtain ⟨v, rfl⟩ : ∃ v, cs = [v] := by
        match cs, hl1 with
        | [v], _ => exact ⟨v, rfl⟩
      have h0 := hat 0 (by omega)
      simp only [Nat.mul_one] at h0
      have hz : (x.add i).add 0 = x.add i := by simp [Addr.add]
      rw [hz] at h0
      have hv : ∃ a' n' c', v = .slice a' n' c' := by
        rcases open_slice Try.underlying25 hd with ⟨e, _⟩ | ⟨y, l', c', m', n', D', Pl', e, _⟩
        · simp at e; exact ⟨_, _, _, e⟩
        · simp at e; exact ⟨_, _, _, e⟩
      obtain ⟨a', n', c', rfl⟩ := hv
      obtain ⟨l, rfl, hlm, hrec, hcame⟩ := open_recs (enc := enc) (W := W) Try.underlying25 (a := a') (len := n') (cap := c') ⟨n, by simpa [Value.cells] using hd⟩
      exact ⟨l, ⟨a', c', h0, hrec⟩, hlm, hcame⟩
    obtain ⟨f, hf2⟩ := choose_lt hex
    refine ⟨(List.range len).map f, by simp, by omega, ⟨fun h0 => ?_, by simpa using hl, hm, fun h => by cases h⟩, fun r hr => ?_⟩
    · have hpos : 0 < len := by simpa using h0
      obtain ⟨b, off, spot⟩ := x
      obtain ⟨⟨a0, c0, e0, _⟩, _⟩ := hf2 0 hpos
      have hs : spot = none := by simpa [Addr.add] using World.cell?_spot e0
      subst hs
      refine ⟨b, off, rfl, ?_, fun i hi2 => ?_⟩
      · have := World.block_lt_of_cell? _ _ e0
        simpa [Addr.add] using this
      · have hil : i < len := by simpa using hi2
        obtain ⟨⟨a', c', e1, e2⟩, _⟩ := hf2 i hil
        refine ⟨a', c', ?_, ?_⟩
        · simp only [List.getElem_map, List.getElem_range]
          rw [← e1, Addr.add_lit]
        · simp only [List.getElem_map, List.getElem_range]
          exact e2
    · obtain ⟨i, hi3, rfl⟩ := List.mem_map.1 hr
      exact (hf2 i (List.mem_range.1 hi3)).2

end

theorem Bats.take {W : World} {a : Option Addr} {ll : List (List Rc)} (h : Bats W a ll) (j : Nat) : Bats W a (ll.take j) := fun h0 => by
  obtain ⟨b, off, e, hlt, hc⟩ := h (by rw [List.length_take] at h0; omega)
  refine ⟨b, off, e, hlt, fun i hi => ?_⟩
  have hi2 : i < ll.length := by rw [List.length_take] at hi; omega
  obtain ⟨a', cap', c, hr⟩ := hc i hi2
  rw [List.getElem_take]
  exact ⟨a', cap', c, hr⟩

theorem Came2.fits {ll : List (List Rc)} (h : Came2 ll) : ∀ l ∈ ll, Fits l ∧ l.length ≤ 9223372036854775807 := fun l hl => ⟨Came.all (h l hl).2, by have := (h l hl).1; unfold maxLen at this; omega⟩



theorem run_min2 (w : World) (ts : Array TypeId) (t : TypeId) (x y n : Nat) (h1 : n ≤ x) (h2 : n ≤ y) (h : n = x ∨ n = y) :
    (Builtin.min_ ts t #[.int .i64 (x : Int), .int .i64 (y : Int)]).run Try.prog w = .ok (.int .i64 (n : Int)) w := by
  simp only [Builtin.min_, Builtin.min2, List.foldlM, Sem.run_bind, Sem.run_pure, Result.andThen]
  congr 2
  split <;> omega

/-- What Light leaves. -/
def LightPost (w : World) (l : List Rc) (e : Ending) (w' : World) : Prop := ∃ b : Bool, e = .returned (.bool b) ∧ (b = true → l.length ≤ 40) ∧ Below w.heap.size w w'

theorem cells_of {w : World} {a : Option Addr} {l : List Rc} (h : Recs w a l) (k : Nat) (hk : k < l.length) : ∃ b off, a = some ⟨b, off, none⟩ ∧ b < w.heap.size ∧
    w.cell? ⟨b, off + k * 4, none⟩ = some (.int .u64 ((l[k].q : Nat) : Int)) ∧ w.cell? ⟨b, off + k * 4 + 1, none⟩ = some (.string (bs l[k].k)) ∧
    w.cell? ⟨b, off + k * 4 + 2, none⟩ = some (.string (bs l[k].v)) ∧ w.cell? ⟨b, off + k * 4 + 3, none⟩ = some (.bool l[k].g) := by
  obtain ⟨b, off, ha, hb, hc⟩ := h (by omega)
  obtain ⟨c0, c1, c2, c3⟩ := hc k hk
  exact ⟨b, off, ha, hb, c0, c1, c2, c3⟩

set_option maxRecDepth 100000 in
set_option maxHeartbeats 400000 in
theorem light_any (l : List Rc) (a : Option Addr) (cap : Nat) (w : World) (hl : l.length ≤ 9223372036854775807) (hr : Recs w a l) (hf : Fits l) :
    Calls Try.prog 28 #[.slice a l.length cap] w (LightPost w l) := by
  have HR := Lib.hid hr
  have HF := Lib.hid hf
  clear hr hf
  obtain ⟨n, hn⟩ : ∃ n, n = l.length := ⟨_, rfl⟩
  have HN := Lib.hid hn
  rw [← hn] at hl ⊢
  clear hn
  go_enter Try.func28, Try.ntmps28
  go_wp2_with fail
  go_loopw [3, 4] (fun s i wr => ∃ k x d : Nat, k ≤ n ∧ k ≤ 100 ∧ x ≤ 20000 * k ∧ i = .int .i64 k ∧ s = .int .i64 x ∧ wr = w.drewN d) (fun _ i _ => 100 - (intOf i).toNat)
  case atStart => exact ⟨0, 0, 0, by omega, by omega, by omega, rfl, rfl, rfl⟩
  case round =>
    obtain ⟨k, x, d, hk, hk1, hx, rfl, rfl, rfl⟩ := hrel
    by_cases hlt : k < n
    · by_cases h100 : k < 100
      · obtain ⟨b, off, rfl, hbl, c0, c1, c2, c3⟩ := cells_of HR.out k (by rw [← HN.out]; exact hlt)
        obtain ⟨f0, f1, f2⟩ := HF.out (l[k]'(by rw [← HN.out]; exact hlt)) (List.getElem_mem _)
        generalize l[k]'(by rw [← HN.out]; exact hlt) = r at *
        have z1 : (bs r.k).size ≤ 9223372036854775807 := by rw [bs_size]; exact f1
        have z2 : (bs r.v).size ≤ 9223372036854775807 := by rw [bs_size]; exact f2
        generalize bs r.k = K at *
        generalize bs r.v = V at *
        obtain ⟨p, p1, p2, p3⟩ : ∃ p : Nat, p ≤ K.size ∧ p ≤ 10000 ∧ (p = K.size ∨ p = 10000) := ⟨min K.size 10000, by omega, by omega, by omega⟩
        obtain ⟨q, q1, q2, q3⟩ : ∃ p : Nat, p ≤ V.size ∧ p ≤ 10000 ∧ (p = V.size ∨ p = 10000) := ⟨min V.size 10000, by omega, by omega, by omega⟩
        have m1 := fun (w : World) ts t => run_min2 w ts t K.size 10000 p p1 p2 p3
        have m2 := fun (w : World) ts t => run_min2 w ts t V.size 10000 q q1 q2 q3
        have w1 := IntWalk.i64_in ((x : Int) + (p : Int)) ⟨by omega, by omega⟩
        have w2 := IntWalk.i64_in ((x : Int) + (p : Int) + (q : Int)) ⟨by omega, by omega⟩
        have hlti : (k : Int) < (n : Int) := by omega
        have P3 := Lib.hid (And.intro p3 q3)
        clear p3 q3 f0 f1 f2 c0 c3
        go_wp2_with fail
        go_quiet (fail)
        go_wp2_with fail
        have p3 := P3.out
        refine ⟨⟨k + 1, x + p + q, d + nq, by omega, by omega, by omega, by go_num, ?_, rfl⟩, by simp [intOf]; omega⟩
        congr 1
        omega
      · have e100 : k = 100 := by omega
        subst e100
        go_wp2_with fail
        go_ret
        exact ⟨false, rfl, fun h => by simp at h, below_drewN (Below.refl _ _) d⟩
    · have e : k = n := by omega
      subst e
      by_cases c40 : k ≤ 40
      all_goals
        go_wp2_with fail
        go_ret
        exact ⟨_, rfl, fun _ => by first | (rw [← HN.out]; exact c40) | simp_all, below_drewN (Below.refl _ _) d⟩

set_option maxRecDepth 100000 in
set_option maxHeartbeats 400000 in
theorem same_no (a b : Option Addr) (n m cap cap' : Nat) (w : World) (h : n ≠ m) :
    Calls Try.prog 11 #[.slice a n cap, .slice b m cap'] w fun e w' => e = .returned (.bool false) ∧ Below w.heap.size w w' := by
  have hne : ((n : Int) != (m : Int)) = true := by rw [bne_iff_ne]; omega
  clear h
  go_enter Try.func11, Try.ntmps11
  go_wp2_with fail
  go_ret
  exact ⟨rfl, Below.refl _ _⟩

set_option maxRecDepth 100000 in
set_option maxHeartbeats 400000 in
theorem same_yes (l : List Rc) (a b : Option Addr) (cap cap' : Nat) (w : World) (hl : l.length ≤ 9223372036854775807) (ha : Recs w a l) (hb : Recs w b l) :
    Calls Try.prog 11 #[.slice a l.length cap, .slice b l.length cap'] w fun e w' => e = .returned (.bool true) ∧ Below w.heap.size w w' := by
  have HA := Lib.hid ha
  have HB := Lib.hid hb
  clear ha hb
  obtain ⟨n, hn⟩ : ∃ n, n = l.length := ⟨_, rfl⟩
  have HN := Lib.hid hn
  rw [← hn] at hl ⊢
  clear hn
  go_enter Try.func11, Try.ntmps11
  go_wp2_with fail
  go_loopw [5] (fun i wr => ∃ k d : Nat, k ≤ n ∧ i = .int .i64 k ∧ wr = w.drewN d) (fun i _ => n - (intOf i).toNat)
  case atStart => exact ⟨0, 0, by omega, rfl, rfl⟩
  case round =>
    obtain ⟨k, d, hk, rfl, rfl⟩ := hrel
    by_cases hlt : k < n
    · obtain ⟨b1, off1, rfl, hbl1, c0, c1, c2, c3⟩ := cells_of HA.out k (by rw [← HN.out]; exact hlt)
      obtain ⟨b2, off2, rfl, hbl2, d0, d1, d2, d3⟩ := cells_of HB.out k (by rw [← HN.out]; exact hlt)
      generalize l[k]'(by rw [← HN.out]; exact hlt) = r at *
      generalize bs r.k = K at *
      generalize bs r.v = V at *
      generalize ((r.q : Nat) : Int) = Q at *
      generalize r.g = G at *
      have hlti : (k : Int) < (n : Int) := by omega
      go_wp2_with fail
      go_quiet (fail)
      go_wp2_with fail
      exact ⟨⟨k + 1, d + nq, by omega, by go_num, rfl⟩, by simp [intOf]; omega⟩
    · have e : k = n := by omega
      subst e
      go_wp2_with fail
      go_ret
      exact ⟨rfl, below_drewN (Below.refl _ _) d⟩



theorem bat_of {w : World} {a : Option Addr} {ll : List (List Rc)} (h : Bats w a ll) (k : Nat) (hk : k < ll.length) : ∃ b off a' cap', a = some ⟨b, off, none⟩ ∧ b < w.heap.size ∧ w.cell? ⟨b, off + k, none⟩ = some (.slice a' ll[k].length cap') ∧ Recs w a' ll[k] := by
  obtain ⟨b, off, ha, hb, hc⟩ := h (by omega)
  obtain ⟨a', cap', c, hr⟩ := hc k hk
  exact ⟨b, off, a', cap', ha, hb, c, hr⟩

/-- No record of any batch is greater than a machine's, and no batch. -/
def Fits2 (ll : List (List Rc)) : Prop := ∀ l ∈ ll, Fits l ∧ l.length ≤ 9223372036854775807

set_option maxRecDepth 100000 in
set_option maxHeartbeats 400000 in
theorem same2_yes (ll : List (List Rc)) (a b : Option Addr) (cap cap' : Nat) (w : World) (hl : ll.length ≤ 9223372036854775807) (hf : ∀ l ∈ ll, l.length ≤ 9223372036854775807) (ha : Bats w a ll) (hb : Bats w b ll) :
    Calls Try.prog 15 #[.slice a ll.length cap, .slice b ll.length cap'] w fun e w' => e = .returned (.bool true) ∧ Below w.heap.size w w' := by
  have HA := Lib.hid ha
  have HB := Lib.hid hb
  have HF := Lib.hid hf
  clear ha hb hf
  obtain ⟨n, hn⟩ : ∃ n, n = ll.length := ⟨_, rfl⟩
  have HN := Lib.hid hn
  rw [← hn] at hl ⊢
  clear hn
  go_enter Try.func15, Try.ntmps15
  go_wp2_with fail
  go_loopw [5] (fun i wr => ∃ k : Nat, k ≤ n ∧ i = .int .i64 k ∧ Below w.heap.size w wr) (fun i _ => n - (intOf i).toNat)
  case atStart => exact ⟨0, by omega, rfl, Below.refl _ _⟩
  case round =>
    obtain ⟨k, hk, rfl, hbw⟩ := hrel
    by_cases hlt : k < n
    · obtain ⟨b1, off1, a1, cap1, rfl, hbl1, c1, r1⟩ := bat_of HA.out k (by rw [← HN.out]; exact hlt)
      obtain ⟨b2, off2, a2, cap2, rfl, hbl2, c2, r2⟩ := bat_of HB.out k (by rw [← HN.out]; exact hlt)
      have hll := HF.out _ (List.getElem_mem (by rw [← HN.out]; exact hlt : k < ll.length))
      rw [← hbw.cell (p := ⟨b1, _, none⟩) hbl1] at c1
      rw [← hbw.cell (p := ⟨b2, _, none⟩) hbl2] at c2
      have h1 := fun W (hW : Below w.heap.size w W) => same_yes _ a1 a2 cap1 cap2 W hll (r1.later hW (Nat.le_refl _)) (r2.later hW (Nat.le_refl _))
      have H1 := Lib.hid h1
      have HW := Lib.hid hbw
      have hbz := hbw.size
      clear h1 r1 r2
      generalize ll[k]'(by rw [← HN.out]; exact hlt) = r at *
      have hlti : (k : Int) < (n : Int) := by omega
      go_wp2_with fail
      go_region_with (go_at_call 11; refine (H1.out _ HW.out.drew).mono ?_; rintro e w' ⟨rfl, hb1⟩)
      go_wp2_with fail
      all_goals exact ⟨⟨k + 1, by omega, by go_num, HW.out.drew.trans (hb1.mono hbz)⟩, by simp [intOf]; omega⟩
    · have e : k = n := by omega
      subst e
      go_wp2_with fail
      go_ret
      exact ⟨rfl, hbw⟩

/-- What Light leaves. -/
def Light2Post (w : World) (ll : List (List Rc)) (e : Ending) (w' : World) : Prop := ∃ b : Bool, e = .returned (.bool b) ∧ (b = true → ll.length ≤ 20 ∧ ∀ l ∈ ll, l.length ≤ 40) ∧ Below w.heap.size w w'

theorem all_next {ll : List (List Rc)} {k : Nat} (h : ∀ i (hi : i < ll.length), i < k → ll[i].length ≤ 40) (hk : k < ll.length) (h2 : ll[k].length ≤ 40) : ∀ i (hi : i < ll.length), i < k + 1 → ll[i].length ≤ 40 := fun i hi hik => by
  by_cases e : i = k
  · subst e; exact h2
  · exact h i hi (by omega)

set_option maxRecDepth 100000 in
set_option maxHeartbeats 400000 in
theorem light2_any (ll : List (List Rc)) (a : Option Addr) (cap : Nat) (w : World) (hl : ll.length ≤ 9223372036854775807) (hr : Bats w a ll) (hf : Fits2 ll) :
    Calls Try.prog 18 #[.slice a ll.length cap] w (Light2Post w ll) := by
  have HR := Lib.hid hr
  have HF := Lib.hid hf
  clear hr hf
  obtain ⟨n, hn⟩ : ∃ n, n = ll.length := ⟨_, rfl⟩
  have HN := Lib.hid hn
  rw [← hn] at hl ⊢
  clear hn
  go_enter Try.func18, Try.ntmps18
  go_wp2_with fail
  go_loopw [3, 4] (fun s i wr => ∃ k x : Nat, k ≤ n ∧ k ≤ 30 ∧ x ≤ 40 * k ∧ i = .int .i64 k ∧ s = .int .i64 x ∧ (∀ i (hi : i < ll.length), i < k → ll[i].length ≤ 40) ∧ Below w.heap.size w wr) (fun _ i _ => 30 - (intOf i).toNat)
  case atStart => exact ⟨0, 0, by omega, by omega, by omega, rfl, rfl, fun i _ h => by omega, Below.refl _ _⟩
  case round =>
    obtain ⟨k, x, hk, hk1, hx, rfl, rfl, hall, hbw⟩ := hrel
    have HL := Lib.hid hall
    clear hall
    by_cases hlt : k < n
    · by_cases h30 : k < 30
      · obtain ⟨g1, off1, a1, cap1, rfl, hbl1, c1, r1⟩ := bat_of HR.out k (by rw [← HN.out]; exact hlt)
        obtain ⟨hf1, hll⟩ := HF.out _ (List.getElem_mem (by rw [← HN.out]; exact hlt : k < ll.length))
        rw [← hbw.cell (p := ⟨g1, _, none⟩) hbl1] at c1
        have h1 := fun W (hW : Below w.heap.size w W) => light_any _ a1 cap1 W hll (r1.later hW (Nat.le_refl _)) hf1
        have H1 := Lib.hid h1
        have HW := Lib.hid hbw
        have hbz := hbw.size
        have HA := Lib.hid (all_next HL.out (by rw [← HN.out]; exact hlt))
        clear h1 r1 hf1
        generalize ll[k]'(by rw [← HN.out]; exact hlt) = r at *
        have hlti : (k : Int) < (n : Int) := by omega
        go_wp2_with fail
        (with_reducible refine (H1.out _ HW.out).mono ?_)
        rintro e w1 ⟨ok, rfl, h40, b1⟩
        have c2 := (b1.cell (p := ⟨g1, off1 + k, none⟩) (by show g1 < wr.heap.size; omega)).trans c1
        have B1 := Lib.hid (HW.out.trans (b1.mono hbz))
        clear c1 b1 hbw HW
        cases ok with
        | false =>
          clear h40
          go_wp2_with fail
          go_ret
          exact ⟨false, rfl, fun h => by simp at h, B1.out⟩
        | true =>
          have hq : r.length ≤ 40 := h40 rfl
          clear h40
          have hwr := IntWalk.i64_in ((x : Int) + (r.length : Int)) ⟨by omega, by omega⟩
          go_wp2_with fail
          exact ⟨⟨k + 1, x + r.length, by omega, by omega, by omega, by go_num, by go_num, HA.out hq, B1.out⟩, by simp [intOf]; omega⟩
      · have e30 : k = 30 := by omega
        subst e30
        go_wp2_with fail
        go_ret
        exact ⟨_, rfl, fun h => by first | (simp at h; done) | (simp at h; omega), hbw⟩
    · have e : k = n := by omega
      subst e
      have HQ : Hid (k ≤ 20 → ll.length ≤ 20 ∧ ∀ l ∈ ll, l.length ≤ 40) := Lib.hid fun h => ⟨by rw [← HN.out]; exact h, fun l hl => by
        obtain ⟨i, hi, rfl⟩ := List.mem_iff_getElem.1 hl
        exact HL.out i hi (by rw [HN.out]; exact hi)⟩
      by_cases c20 : k ≤ 20
      · by_cases c60 : x ≤ 60
        all_goals
          go_wp2_with fail
          go_ret
          exact ⟨_, rfl, fun _ => HQ.out c20, hbw⟩
      · go_wp2_with fail
        go_ret
        exact ⟨_, rfl, fun h => by first | (simp at h; done) | (simp at h; omega), hbw⟩

end Go.Proofs.Ytfcfleeiffmjdaa
