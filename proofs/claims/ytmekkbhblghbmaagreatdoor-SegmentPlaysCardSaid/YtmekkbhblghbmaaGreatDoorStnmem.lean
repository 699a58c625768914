/- Three rows of the law's own beside the disk: the ends, the records, how many. -/
import Derived.Test.YtmekkbhblghbmaaGreatDoorSboth
import Derived.Test.YtmekkbhblghbmaaGreatDoorRb
namespace Go.Proofs.YtmekkbhblghbmaaGreatDoor
open Go.RowKit
set_option linter.unusedVariables false

theorem flat_append (l m : List Rc) : flat (l ++ m) = flat l ++ flat m := by simp [flat]
theorem flat_len : ∀ (l : List Rc), (flat l).length = 4 * l.length
  | [] => rfl
  | r :: l => by
    have := flat_len l
    have e : flat (r :: l) = [.int .u64 ((r.q : Nat) : Int), .string (bs r.k), .string (bs r.v), .bool r.g] ++ flat l := by simp [flat]
    rw [e, List.length_append, this, List.length_cons]
    simp; omega
theorem flat_one (l : List Rc) : ∀ u ∈ flat l, u.oneCell' = true := by
  intro u hu
  unfold flat at hu
  rw [List.mem_flatMap] at hu
  obtain ⟨r, _, hu⟩ := hu
  simp at hu
  rcases hu with rfl | rfl | rfl | rfl <;> rfl
theorem recs_news {w : World} {b off : Nat} {l : List Rc} (h : ∀ i (h : i < l.length),
    w.cell? ⟨b, off + i * 4, none⟩ = some (.int .u64 (l[i].q : Nat)) ∧ w.cell? ⟨b, off + i * 4 + 1, none⟩ = some (.string (bs l[i].k)) ∧
    w.cell? ⟨b, off + i * 4 + 2, none⟩ = some (.string (bs l[i].v)) ∧ w.cell? ⟨b, off + i * 4 + 3, none⟩ = some (.bool l[i].g)) :
    ∀ j u, (flat l)[j]? = some u → w.cell? ((⟨b, off, none⟩ : Addr).add j) = some u := by
  intro j u hu
  have hj : j < 4 * l.length := by rw [← flat_len]; exact (List.getElem?_eq_some_iff.1 hu).1
  have hi : j / 4 < l.length := by omega
  obtain ⟨c0, c1, c2, c3⟩ := h (j / 4) hi
  obtain ⟨f0, f1, f2, f3⟩ := flat_get l (j / 4) hi
  rw [Addr.add_lit]
  rcases (by omega : j % 4 = 0 ∨ j % 4 = 1 ∨ j % 4 = 2 ∨ j % 4 = 3) with q | q | q | q
  · have e : j = j / 4 * 4 := by omega
    rw [e, f0] at hu; cases hu
    rw [show off + j = off + j / 4 * 4 from by omega]; exact c0
  · have e : j = j / 4 * 4 + 1 := by omega
    rw [e, f1] at hu; cases hu
    rw [show off + j = off + j / 4 * 4 + 1 from by omega]; exact c1
  · have e : j = j / 4 * 4 + 2 := by omega
    rw [e, f2] at hu; cases hu
    rw [show off + j = off + j / 4 * 4 + 2 from by omega]; exact c2
  · have e : j = j / 4 * 4 + 3 := by omega
    rw [e, f3] at hu; cases hu
    rw [show off + j = off + j / 4 * 4 + 3 from by omega]; exact c3


/-- The disk, and three rows apart from it and from one another. -/
structure Tn (B pb : Nat) (w : World) (F : Nat → Prop) (S : D.St) (ue ua um : Value) (E : List Int) (R : List Rc) (M : List Int) : Prop where
  dk : D.DkS B w pb F S
  be : w.ownsRow B 3 1 ue E.length (intsV E)
  ba : w.ownsRow B 47 4 ua R.length (flat R)
  bm : w.ownsRow B 3 1 um M.length (intsV M)
  fe : ∀ g, ue.ownBlock = some g → ¬ F g ∧ ua.ownBlock ≠ some g ∧ um.ownBlock ≠ some g
  fa : ∀ g, ua.ownBlock = some g → ¬ F g ∧ um.ownBlock ≠ some g
  fm : ∀ g, um.ownBlock = some g → ¬ F g
section
variable {B pb : Nat} {w w' : World} {F F' : Nat → Prop} {S S' : D.St} {ue ua um v' : Value} {E : List Int} {R : List Rc} {M : List Int}
theorem Tn.step (h : Tn B pb w F S ue ua um E R M) (hd : D.DkS B w' pb F' S') (hF : ∀ k, F' k → F k ∨ w.heap.size ≤ k) (t : Turn F w w') : Tn B pb w' F' S' ue ua um E R M := by
  have hn : ∀ g, g < w.heap.size → ¬ F g → ¬ F' g := fun g hg hf hf' => by
    rcases hF g hf' with h1 | h1
    · exact hf h1
    · omega
  exact {
    dk := hd
    be := owns_kept h.be (fun g hg => t.block g (h.be.lt g hg).2 (h.fe g hg).1)
    ba := owns_kept h.ba (fun g hg => t.block g (h.ba.lt g hg).2 (h.fa g hg).1)
    bm := owns_kept h.bm (fun g hg => t.block g (h.bm.lt g hg).2 (h.fm g hg))
    fe := fun g hg => ⟨hn g (h.be.lt g hg).2 (h.fe g hg).1, (h.fe g hg).2⟩
    fa := fun g hg => ⟨hn g (h.ba.lt g hg).2 (h.fa g hg).1, (h.fa g hg).2⟩
    fm := fun g hg => hn g (h.bm.lt g hg).2 (h.fm g hg) }
theorem Tn.below (h : Tn B pb w F S ue ua um E R M) (hb : Below w.heap.size w w') : Tn B pb w' F S ue ua um E R M :=
  h.step (h.dk.kept (Turn.of_below (fun _ => False) hb (Nat.le_refl _)) (fun _ _ _ f => f)) (fun _ hk => Or.inl hk) (Turn.of_below _ hb (Nat.le_refl _))
theorem Tn.alloc (h : Tn B pb w F S ue ua um E R M) (o : Obj) : Tn B pb (w.alloc o) F S ue ua um E R M := h.below ((Below.refl _ _).alloc (Nat.le_refl _) _)
theorem dk_grown {row : Option Nat} (h : D.DkS B w pb F S) (hg : w.grownBy w' row) (hr : ∀ g, row = some g → ¬ F g) : D.DkS B w' pb F S :=
  h.kept (G := fun k => row = some k) ((Turn.refl _ w).grown hg (fun k hk => Or.inl hk)) (fun k _ hf hk => hr k hk hf)
theorem row_grown {T n size : Nat} {row : Option Nat} {v : Value} {xs : List Value} (h : w.ownsRow B T size v n xs) (hg : w.grownBy w' row) (hr : ∀ g, v.ownBlock = some g → row ≠ some g) : w'.ownsRow B T size v n xs :=
  owns_kept h (fun g hgg => hg.block g (h.lt g hgg).2 (fun e => hr g hgg e.symm))
theorem Tn.appE (h : Tn B pb w F S ue ua um E R M) {x : Int} (ho : w'.ownsRow B 3 1 v' (E.length + 1) (intsV E ++ [.int .i64 x])) (hg : w.grownBy w' ue.ownBlock) (hl : v'.ownBlock = ue.ownBlock ∨ v'.ownBlock = some w.heap.size) :
    Tn B pb w' F S v' ua um (E ++ [x]) R M := {
  dk := dk_grown h.dk hg (fun g hgg => (h.fe g hgg).1)
  be := by rw [List.length_append, intsV_snoc]; exact ho
  ba := row_grown h.ba hg (fun g hgg e => (h.fe g e).2.1 hgg)
  bm := row_grown h.bm hg (fun g hgg e => (h.fe g e).2.2 hgg)
  fe := fun g hgg => by
    rcases hl with hl | hl
    · exact h.fe g (hl ▸ hgg)
    · obtain rfl : w.heap.size = g := by rw [hl] at hgg; exact Option.some.inj hgg
      exact ⟨fun hf => by have := (h.dk.lt hf).2; omega, fun e => by have := (h.ba.lt _ e).2; omega, fun e => by have := (h.bm.lt _ e).2; omega⟩
  fa := h.fa
  fm := h.fm }
theorem Tn.appA (h : Tn B pb w F S ue ua um E R M) {l : List Rc} (ho : w'.ownsRow B 47 4 v' (R.length + l.length) (flat R ++ flat l)) (hg : w.grownBy w' ua.ownBlock) (hl : v'.ownBlock = ua.ownBlock ∨ v'.ownBlock = some w.heap.size) :
    Tn B pb w' F S ue v' um E (R ++ l) M := {
  dk := dk_grown h.dk hg (fun g hgg => (h.fa g hgg).1)
  be := row_grown h.be hg (fun g hgg e => (h.fe g hgg).2.1 e)
  ba := by rw [List.length_append, flat_append]; exact ho
  bm := row_grown h.bm hg (fun g hgg e => (h.fa g e).2 hgg)
  fe := fun g hgg => by
    obtain ⟨a1, a2, a3⟩ := h.fe g hgg
    refine ⟨a1, fun e => ?_, a3⟩
    rcases hl with hl | hl
    · exact a2 (hl ▸ e)
    · rw [hl] at e
      have := Option.some.inj e
      have := (h.be.lt _ hgg).2
      omega
  fa := fun g hgg => by
    rcases hl with hl | hl
    · exact h.fa g (hl ▸ hgg)
    · obtain rfl : w.heap.size = g := by rw [hl] at hgg; exact Option.some.inj hgg
      exact ⟨fun hf => by have := (h.dk.lt hf).2; omega, fun e => by have := (h.bm.lt _ e).2; omega⟩
  fm := h.fm }
theorem Tn.appM (h : Tn B pb w F S ue ua um E R M) {x : Int} (ho : w'.ownsRow B 3 1 v' (M.length + 1) (intsV M ++ [.int .i64 x])) (hg : w.grownBy w' um.ownBlock) (hl : v'.ownBlock = um.ownBlock ∨ v'.ownBlock = some w.heap.size) :
    Tn B pb w' F S ue ua v' E R (M ++ [x]) := {
  dk := dk_grown h.dk hg (fun g hgg => h.fm g hgg)
  be := row_grown h.be hg (fun g hgg e => (h.fe g hgg).2.2 e)
  ba := row_grown h.ba hg (fun g hgg e => (h.fa g hgg).2 e)
  bm := by rw [List.length_append, intsV_snoc]; exact ho
  fe := fun g hgg => by
    obtain ⟨a1, a2, a3⟩ := h.fe g hgg
    refine ⟨a1, a2, fun e => ?_⟩
    rcases hl with hl | hl
    · exact a3 (hl ▸ e)
    · rw [hl] at e
      have := Option.some.inj e
      have := (h.be.lt _ hgg).2
      omega
  fa := fun g hgg => by
    obtain ⟨a1, a2⟩ := h.fa g hgg
    refine ⟨a1, fun e => ?_⟩
    rcases hl with hl | hl
    · exact a2 (hl ▸ e)
    · rw [hl] at e
      have := Option.some.inj e
      have := (h.ba.lt _ hgg).2
      omega
  fm := fun g hgg => by
    rcases hl with hl | hl
    · exact h.fm g (hl ▸ hgg)
    · obtain rfl : w.heap.size = g := by rw [hl] at hgg; exact Option.some.inj hgg
      exact fun hf => by have := (h.dk.lt hf).2; omega }
end

/-- An element of a row of integers; of records. -/
theorem ints_at {w : World} {B T n cap : Nat} {a : Option Addr} {l : List Int} (h : w.ownsRow B T 1 (.slice a n cap) l.length (intsV l)) {i : Nat} (hi : i < l.length) : ∃ g, a = some ⟨g, 0, none⟩ ∧ g < w.heap.size ∧ w.cell? ⟨g, i, none⟩ = some (.int .i64 l[i]) := by
  rcases h.2 with ⟨e, h1⟩ | ⟨g, c, cur, e, hB, hg, hn', hc, hs, ht⟩
  · omega
  · injection e with e1 e2 e3
    refine ⟨g, e1, (Array.getElem?_eq_some_iff.1 hg).1, ?_⟩
    rw [cell_of_row w g _ cur T (0, 0) hg]
    have h1 : (intsV l)[i]? = some (.int .i64 l[i]) := by simp [intsV, List.getElem?_eq_getElem hi]
    rw [← ht, List.getElem?_take, if_pos (by omega)] at h1
    simpa using h1
theorem slice_of {w : World} {B T n size : Nat} {v : Value} {xs : List Value} (h : w.ownsRow B T size v n xs) : ∃ a cap, v = .slice a n cap := by
  rcases h.2 with ⟨rfl, h1⟩ | ⟨g, c, cur, rfl, _⟩
  · exact ⟨none, 0, by rw [h1]⟩
  · exact ⟨_, _, rfl⟩
end Go.Proofs.YtmekkbhblghbmaaGreatDoor
