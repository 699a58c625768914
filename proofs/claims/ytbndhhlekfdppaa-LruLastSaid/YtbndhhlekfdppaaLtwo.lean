/- What is asked of the program's cache; a cache of the program and one of the document, side by side. -/
import Derived.Test.YtbndhhlekfdppaaLops
namespace Go.Proofs.Ytbndhhlekfdppaa.L
open Go.RowKit
set_option linter.unusedVariables false

/-- What is behind a call that turns it. -/
def PcPost (Pc : Nat → World → Nat → (Nat → Prop) → Nat → List It → Prop) (B : Nat) (w : World) (pb : Nat) (F : Nat → Prop) (most : Nat) (l' : List It) (v : Value) (e : Ending) (w' : World) : Prop :=
  e = .returned v ∧ ∃ F', Pc B w' pb F' most l' ∧ (∀ k, F' k → F k ∨ w.heap.size ≤ k) ∧ Turn F w w'
/-- All that is kept is in its bounds. -/
def Fits (l : List It) : Prop := ∀ x ∈ l, x.1.fit ∧ x.2.length ≤ 9223372036854775807
structure CacheC (Pc : Nat → World → Nat → (Nat → Prop) → Nat → List It → Prop) : Prop where
  lt : ∀ {B w pb F most l}, Pc B w pb F most l → ∀ k, F k → B ≤ k ∧ k < w.heap.size
  base : ∀ {B w pb F most l}, Pc B w pb F most l → B ≤ w.heap.size
  kept : ∀ {B w w' pb F G most l}, Pc B w pb F most l → Turn G w w' → (∀ k, k < w.heap.size → F k → ¬ G k) → Pc B w' pb F most l
  newNo : ∀ (most : Int) w, (-9223372036854775808 ≤ most ∧ most ≤ 9223372036854775807) → (most < 1 ∨ 64 < most) → Calls Try.prog 6 #[.int .i64 most] w fun e w' => e = .returned (.tuple #[.pointer none, .int .i64 1]) ∧ Below w.heap.size w w'
  newYes : ∀ (most : Nat) w, 1 ≤ most → most ≤ 64 → Calls Try.prog 6 #[.int .i64 (most : Int)] w fun e w' => ∃ pb F, e = .returned (.tuple #[.pointer (some ⟨pb, 0, none⟩), .int .i64 0]) ∧ Pc w.heap.size w' pb F most [] ∧ Below w.heap.size w w'
  get : ∀ {B w pb F most l b}, Pc B w pb F most l → Ok most l → most ≤ 64 → Fits l → b.fit → Calls Try.prog 8 #[.pointer (some ⟨pb, 0, none⟩), blkV b] w (PcPost Pc B w pb F most (getS l b) (.tuple #[.string (bs (textOf l b)), .bool (hasB l b)]))
  put : ∀ {B w pb F most l b s}, Pc B w pb F most l → Ok most l → 1 ≤ most → most ≤ 64 → Fits l → b.fit → s.length ≤ 9223372036854775807 → Calls Try.prog 10 #[.pointer (some ⟨pb, 0, none⟩), blkV b, .string (bs s)] w (PcPost Pc B w pb F most (putS most l b s) (.tuple #[]))
  drop : ∀ {B w pb F most l} {seg : Int}, Pc B w pb F most l → Ok most l → most ≤ 64 → Fits l → (-9223372036854775808 ≤ seg ∧ seg ≤ 9223372036854775807) → Calls Try.prog 12 #[.pointer (some ⟨pb, 0, none⟩), .int .i64 seg] w (PcPost Pc B w pb F most (dropS l seg) (.int .i64 ((l.length : Int) - ((dropS l seg).length : Int))))
  blocks : ∀ {B w pb F most l}, Pc B w pb F most l → Ok most l → most ≤ 64 → Fits l → Calls Try.prog 15 #[.pointer (some ⟨pb, 0, none⟩)] w fun e w' => ∃ v, e = .returned v ∧ Bks w' w.heap.size v (l.map Prod.fst) ∧ Below w.heap.size w w'

theorem fits_nil : Fits [] := fun x hx => by cases hx
theorem fits_get {l : List It} (h : Fits l) (b : Bk) : Fits (getS l b) := fun x hx => by
  unfold getS at hx
  cases hl : look l b with
  | none => rw [hl] at hx; exact h x hx
  | some y =>
    rw [hl] at hx
    rcases List.mem_cons.1 hx with rfl | hx
    · exact h _ (look_some hl).1
    · exact h _ (mem_wo.1 hx).1
theorem fits_put {l : List It} (h : Fits l) {most : Nat} {b : Bk} {s : List UInt8} (hb : b.fit) (hs : s.length ≤ 9223372036854775807) : Fits (putS most l b s) := fun x hx => by
  have hx := List.mem_of_mem_take hx
  rcases List.mem_cons.1 hx with rfl | hx
  · exact ⟨hb, hs⟩
  · exact h _ (mem_wo.1 hx).1
theorem fits_drop {l : List It} (h : Fits l) (s : Int) : Fits (dropS l s) := fun x hx => h x (List.mem_filter.1 hx).1

/-- A cache of the program and one of the document; A: blocks that are none of theirs. -/
structure Two (Pc : Nat → World → Nat → (Nat → Prop) → Nat → List It → Prop) (B R : Nat) (w1 w : World) (pb qb most : Nat) (A : List (Nat × Obj)) (ld lr : List It) : Prop where
  dir : ∃ F v, Pc B w pb F most ld ∧ Rf R w qb most v lr ∧ (∀ k, foot qb v k → ¬ F k) ∧ ∀ x ∈ A, ¬ F x.1 ∧ ¬ foot qb v x.1
  okD : Ok most ld
  okR : Ok most lr
  fitD : Fits ld
  most : 1 ≤ most ∧ most ≤ 64
  bel : Below w1.heap.size w1 w
  le : w1.heap.size ≤ B ∧ B ≤ R
  box : ∀ x ∈ A, w.heap[x.1]? = some x.2
section
variable {Pc : Nat → World → Nat → (Nat → Prop) → Nat → List It → Prop} {B R pb qb most : Nat} {w1 w w' : World} {A : List (Nat × Obj)} {ld lr : List It} {b : Bk}
theorem Two.old (C : CacheC Pc) (h : Two Pc B R w1 w pb qb most A ld lr) (hb : Below w.heap.size w w') : Two Pc B R w1 w' pb qb most A ld lr := by
  obtain ⟨F, v, hd, hr, h1, h2⟩ := h.dir
  exact ⟨⟨F, v, C.kept hd (Turn.of_below (fun _ => False) hb (Nat.le_refl _)) (fun _ _ _ f => f), hr.below hb, h1, h2⟩, h.okD, h.okR, h.fitD, h.most, h.bel.trans (hb.mono h.bel.size), h.le,
    fun x hx => (hb.block _ (Array.getElem?_eq_some_iff.1 (h.box x hx)).1).trans (h.box x hx)⟩
theorem Two.add (C : CacheC Pc) (h : Two Pc B R w1 w pb qb most A ld lr) (hb : Below w.heap.size w w') {g : Nat} {X : Obj} (hX : w'.heap[g]? = some X) (hl : w.heap.size ≤ g) : Two Pc B R w1 w' pb qb most ((g, X) :: A) ld lr := by
  have h' := h.old C hb
  obtain ⟨F, v, hd, hr, h1, h2⟩ := h.dir
  have hFl := C.lt hd
  refine ⟨⟨F, v, C.kept hd (Turn.of_below (fun _ => False) hb (Nat.le_refl _)) (fun _ _ _ f => f), hr.below hb, h1, fun x hx => ?_⟩, h.okD, h.okR, h.fitD, h.most, h'.bel, h'.le, fun x hx => ?_⟩
  · rcases List.mem_cons.1 hx with rfl | hx
    · exact ⟨fun hf => by have := (hFl _ hf).2; dsimp only at this; omega, fun hf => by have := (hr.lt hf).2; dsimp only at this; omega⟩
    · exact h2 x hx
  · rcases List.mem_cons.1 hx with rfl | hx
    · exact hX
    · exact h'.box x hx
theorem Two.less (h : Two Pc B R w1 w pb qb most A ld lr) : Two Pc B R w1 w pb qb most [] ld lr := by
  obtain ⟨F, v, hd, hr, h1, h2⟩ := h.dir
  exact ⟨⟨F, v, hd, hr, h1, fun x hx => (by cases hx)⟩, h.okD, h.okR, h.fitD, h.most, h.bel, h.le, fun x hx => (by cases hx)⟩
/-- The program's cache has turned. -/
theorem Two.turnD (C : CacheC Pc) {F : Nat → Prop} {v r : Value} {l' : List It} {e : Ending} (h : Two Pc B R w1 w pb qb most A ld lr) (hd : Pc B w pb F most ld) (hr : Rf R w qb most v lr) (h1 : ∀ k, foot qb v k → ¬ F k) (h2 : ∀ x ∈ A, ¬ F x.1 ∧ ¬ foot qb v x.1)
    (hok : Ok most l') (hf : Fits l') (hp : PcPost Pc B w pb F most l' r e w') : e = .returned r ∧ Two Pc B R w1 w' pb qb most A l' lr := by
  obtain ⟨he, F', hd', hF, t⟩ := hp
  have hFl := C.lt hd
  have hA : ∀ x ∈ A, x.1 < w.heap.size := fun x hx => (Array.getElem?_eq_some_iff.1 (h.box x hx)).1
  have hno : ∀ k, k < w.heap.size → ¬ F k → ¬ F' k := fun k hk hn hf => by
    rcases hF k hf with g | g
    · exact hn g
    · omega
  exact ⟨he, ⟨F', v, hd', hr.kept t h1, fun k hk => hno k (hr.lt hk).2 (h1 k hk), fun x hx => ⟨hno _ (hA x hx) (h2 x hx).1, (h2 x hx).2⟩⟩, hok, h.okR, hf, h.most,
    h.bel.trans (t.below (fun k hk => Nat.le_trans h.le.1 (hFl k hk).1) h.bel.size), h.le, fun x hx => (t.block _ (hA x hx) (h2 x hx).1).trans (h.box x hx)⟩
/-- The document's has turned. -/
theorem Two.turnR (C : CacheC Pc) {F : Nat → Prop} {v r : Value} {l' : List It} {e : Ending} (h : Two Pc B R w1 w pb qb most A ld lr) (hd : Pc B w pb F most ld) (hr : Rf R w qb most v lr) (h1 : ∀ k, foot qb v k → ¬ F k) (h2 : ∀ x ∈ A, ¬ F x.1 ∧ ¬ foot qb v x.1)
    (hp : RfPost R w qb most v l' r e w') : e = .returned r ∧ Two Pc B R w1 w' pb qb most A ld l' := by
  obtain ⟨he, v', hr', hv, t⟩ := hp
  have hFl := C.lt hd
  have hA : ∀ x ∈ A, x.1 < w.heap.size := fun x hx => (Array.getElem?_eq_some_iff.1 (h.box x hx)).1
  refine ⟨he, ⟨F, v', C.kept hd t (fun k _ hf hk => h1 k hk hf), hr', fun k hk hf => ?_, fun x hx => ⟨(h2 x hx).1, fun hk => ?_⟩⟩, h.okD, hr'.ok, h.fitD, h.most,
    h.bel.trans (t.below (fun k hk => by have := (hr.lt hk).1; have := h.le; omega) h.bel.size), h.le, fun x hx => (t.block _ (hA x hx) (h2 x hx).2).trans (h.box x hx)⟩
  · rcases hv k hk with g | g
    · exact h1 k g hf
    · have := (hFl k hf).2; omega
  · rcases hv _ hk with g | g
    · exact (h2 x hx).2 g
    · have := hA x hx; omega
theorem Two.getD (C : CacheC Pc) (h : Two Pc B R w1 w pb qb most A ld lr) (hb : b.fit) : Calls Try.prog 8 #[.pointer (some ⟨pb, 0, none⟩), blkV b] w fun e w' => e = .returned (.tuple #[.string (bs (textOf ld b)), .bool (hasB ld b)]) ∧ Two Pc B R w1 w' pb qb most A (getS ld b) lr := by
  obtain ⟨F, v, hd, hr, h1, h2⟩ := h.dir
  exact (C.get hd h.okD h.most.2 h.fitD hb).mono fun e w' hp => h.turnD C hd hr h1 h2 (ok_get h.okD b) (fits_get h.fitD b) hp
theorem Two.putD (C : CacheC Pc) (h : Two Pc B R w1 w pb qb most A ld lr) (hb : b.fit) {s : List UInt8} (hs : s.length ≤ 9223372036854775807) : Calls Try.prog 10 #[.pointer (some ⟨pb, 0, none⟩), blkV b, .string (bs s)] w fun e w' => e = .returned (.tuple #[]) ∧ Two Pc B R w1 w' pb qb most A (putS most ld b s) lr := by
  obtain ⟨F, v, hd, hr, h1, h2⟩ := h.dir
  exact (C.put hd h.okD h.most.1 h.most.2 h.fitD hb hs).mono fun e w' hp => h.turnD C hd hr h1 h2 (ok_put h.okD b s) (fits_put h.fitD hb hs) hp
theorem Two.dropD (C : CacheC Pc) (h : Two Pc B R w1 w pb qb most A ld lr) {seg : Int} (hs : -9223372036854775808 ≤ seg ∧ seg ≤ 9223372036854775807) : Calls Try.prog 12 #[.pointer (some ⟨pb, 0, none⟩), .int .i64 seg] w fun e w' => e = .returned (.int .i64 ((ld.length : Int) - ((dropS ld seg).length : Int))) ∧ Two Pc B R w1 w' pb qb most A (dropS ld seg) lr := by
  obtain ⟨F, v, hd, hr, h1, h2⟩ := h.dir
  exact (C.drop hd h.okD h.most.2 h.fitD hs).mono fun e w' hp => h.turnD C hd hr h1 h2 (ok_drop h.okD seg) (fits_drop h.fitD seg) hp
theorem Two.blocksD (C : CacheC Pc) (h : Two Pc B R w1 w pb qb most A ld lr) : Calls Try.prog 15 #[.pointer (some ⟨pb, 0, none⟩)] w fun e w' => ∃ v, e = .returned v ∧ Bks w' w.heap.size v (ld.map Prod.fst) ∧ Below w.heap.size w w' := by
  obtain ⟨F, v, hd, hr, h1, h2⟩ := h.dir
  exact C.blocks hd h.okD h.most.2 h.fitD
theorem Two.getR (C : CacheC Pc) (h : Two Pc B R w1 w pb qb most A ld lr) (b : Bk) : Calls Try.prog 9 #[.pointer (some ⟨qb, 0, none⟩), blkV b] w fun e w' => e = .returned (.tuple #[.string (bs (textOf lr b)), .bool (hasB lr b)]) ∧ Two Pc B R w1 w' pb qb most A ld (getS lr b) := by
  obtain ⟨F, v, hd, hr, h1, h2⟩ := h.dir
  exact (refget_any hr b).mono fun e w' hp => h.turnR C hd hr h1 h2 hp
theorem Two.putR (C : CacheC Pc) (h : Two Pc B R w1 w pb qb most A ld lr) (b : Bk) (s : List UInt8) : Calls Try.prog 11 #[.pointer (some ⟨qb, 0, none⟩), blkV b, .string (bs s)] w fun e w' => e = .returned (.tuple #[]) ∧ Two Pc B R w1 w' pb qb most A ld (putS most lr b s) := by
  obtain ⟨F, v, hd, hr, h1, h2⟩ := h.dir
  exact (refput_any hr b s).mono fun e w' hp => h.turnR C hd hr h1 h2 hp
theorem Two.dropR (C : CacheC Pc) (h : Two Pc B R w1 w pb qb most A ld lr) (seg : Int) : Calls Try.prog 13 #[.pointer (some ⟨qb, 0, none⟩), .int .i64 seg] w fun e w' => e = .returned (.int .i64 ((lr.length : Int) - ((dropS lr seg).length : Int))) ∧ Two Pc B R w1 w' pb qb most A ld (dropS lr seg) := by
  obtain ⟨F, v, hd, hr, h1, h2⟩ := h.dir
  exact (refdrop_any hr seg).mono fun e w' hp => h.turnR C hd hr h1 h2 hp
/-- The cell in which the document's items lie. -/
theorem Two.items (h : Two Pc B R w1 w pb qb most A ld lr) : ∃ a c, w.heap[qb]? = some (.cells #[.int .i64 (most : Int), .slice a lr.length c] 44 (0, 0)) ∧ Items w R (.slice a lr.length c) lr := by
  obtain ⟨F, v, hd, hr, _⟩ := h.dir
  obtain ⟨a, c, rfl⟩ := slice_form hr.row
  exact ⟨a, c, hr.blk, hr.row⟩
theorem two_new (C : CacheC Pc) {w2 w3 : World} {F : Nat → Prop} {v : Value} (hm : 1 ≤ most ∧ most ≤ 64) (hd : Pc w1.heap.size w2 pb F most []) (hb : Below w1.heap.size w1 w2) (hr : Rf w2.heap.size w3 qb most v []) (hb3 : Below w2.heap.size w2 w3) :
    Two Pc w1.heap.size w2.heap.size w1 w3 pb qb most [] [] [] := by
  have hFl := C.lt hd
  exact ⟨⟨F, v, C.kept hd (Turn.of_below (fun _ => False) hb3 (Nat.le_refl _)) (fun _ _ _ f => f), hr, fun k hk hf => by have := (hFl _ hf).2; have := (hr.lt hk).1; omega, fun x hx => (by cases hx)⟩, ok_nil _, ok_nil _, fits_nil, hm, hb.trans (hb3.mono hb.size), ⟨Nat.le_refl _, hb.size⟩, fun x hx => (by cases hx)⟩
end
end Go.Proofs.Ytbndhhlekfdppaa.L
