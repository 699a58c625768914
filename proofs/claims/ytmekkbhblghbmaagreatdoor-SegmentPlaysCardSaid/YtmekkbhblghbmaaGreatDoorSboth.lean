/- Both disks, side by side, under the calls of segments. -/
import Derived.Test.YtmekkbhblghbmaaGreatDoorDr
import Derived.Test.YtmekkbhblghbmaaGreatDoorSref7
import Derived.Test.YtmekkbhblghbmaaGreatDoorSref5
import Derived.Test.YtmekkbhblghbmaaGreatDoorStab
namespace Go.Proofs.YtmekkbhblghbmaaGreatDoor
open Go.RowKit
set_option linter.unusedVariables false

/-- What is behind a step of the program's disk. -/
def DsStep (B pb : Nat) (F : Nat → Prop) (S' : D.St) (w w' : World) : Prop := ∃ F', D.DkS B w' pb F' S' ∧ (∀ k, F' k → F k ∨ w.heap.size ≤ k) ∧ Turn F w w'
/-- .. and of a call: what it tells may speak of the blocks in which the disk lies then. -/
def DsPost (B pb : Nat) (F : Nat → Prop) (S' : D.St) (R : (Nat → Prop) → Ending → World → Prop) (w : World) (e : Ending) (w' : World) : Prop := ∃ F', R F' e w' ∧ D.DkS B w' pb F' S' ∧ (∀ k, F' k → F k ∨ w.heap.size ≤ k) ∧ Turn F w w'
theorem ds_of {B pb : Nat} {F : Nat → Prop} {S' : D.St} {r : Value} {w : World} {e : Ending} {w' : World} (h : D.DkPost B pb F S' r w e w') : e = .returned r ∧ DsStep B pb F S' w w' := h
theorem DsPost.of {B pb : Nat} {F : Nat → Prop} {S' : D.St} {R : Ending → World → Prop} {w : World} {e : Ending} {w' : World} (h : R e w') (k : DsStep B pb F S' w w') : DsPost B pb F S' (fun _ => R) w e w' := by
  obtain ⟨F', h1, h2, h3⟩ := k
  exact ⟨F', h, h1, h2, h3⟩
/-- Entries are told, in memory that is new and apart from the disk's. -/
def EntD (w : World) (l : List Et) (x : Int) (F' : Nat → Prop) (e : Ending) (w' : World) : Prop := ∃ a cap, e = .returned (.tuple #[.slice a l.length cap, .int .i64 x]) ∧ EntsIn w' a l ∧ NewA w.heap.size a ∧ ∀ A, a = some A → ¬ F' A.block
theorem DsStep.same {B pb : Nat} {F : Nat → Prop} {S : D.St} {w w' : World} (h : D.DkS B w pb F S) (hb : Below w.heap.size w w') : DsStep B pb F S w w' :=
  ⟨F, h.kept (Turn.of_below (fun _ => False) hb (Nat.le_refl _)) (fun _ _ _ f => f), fun _ hk => Or.inl hk, Turn.of_below _ hb (Nat.le_refl _)⟩
theorem DsStep.on {B pb : Nat} {F F1 : Nat → Prop} {S' S'' : D.St} {w w' w'' : World} (h : D.DkS B w' pb F1 S' ∧ (∀ k, F1 k → F k ∨ w.heap.size ≤ k) ∧ Turn F w w') (k : DsStep B pb F1 S'' w' w'') : DsStep B pb F S'' w w'' := by
  obtain ⟨h1, g1, t1⟩ := h
  obtain ⟨F2, h2, g2, t2⟩ := k
  refine ⟨F2, h2, fun i hi => ?_, t1.then t2 g1⟩
  rcases g2 i hi with hi | hi
  · exact g1 i hi
  · exact Or.inr (Nat.le_trans t1.size hi)
theorem DsStep.later {B pb : Nat} {F : Nat → Prop} {S' : D.St} {w w' w'' : World} (h : DsStep B pb F S' w w') (hb : Below w'.heap.size w' w'') : DsStep B pb F S' w w'' := by
  obtain ⟨F1, h1, g1, t1⟩ := h
  exact DsStep.on ⟨h1, g1, t1⟩ (DsStep.same h1 hb)
theorem DsStep.ahead {B pb : Nat} {F : Nat → Prop} {S S' : D.St} {w w1 w' : World} (h : D.DkS B w pb F S) (hb : Below w.heap.size w w1) (k : DsStep B pb F S' w1 w') : DsStep B pb F S' w w' := by
  have h1 : D.DkS B w1 pb F S := h.kept (Turn.of_below (fun _ => False) hb (Nat.le_refl _)) (fun _ _ _ f => f)
  exact DsStep.on ⟨h1, fun _ hk => Or.inl hk, Turn.of_below _ hb (Nat.le_refl _)⟩ k

section
variable {B pb qb : Nat} {X : Nat → Prop} {Sd Sr Sd' Sr' : D.St} {w w' : World} {fn : Nat} {args : Array Value} {R : Ending → World → Prop}
theorem bo8_d (h : D.Bo B w pb qb X Sd Sr) (hc : ∀ F, D.DkS B w pb F Sd → Calls Tryz.prog fn args w (DsPost B pb F Sd' (fun _ => R) w)) : Calls Tryz.prog fn args w fun e w' => R e w' ∧ D.Bo B w' pb qb X Sd' Sr ∧ D.Fr B X w w' := by
  obtain ⟨F, lv, hd, hr, h1, h2⟩ := h
  refine (hc F hd).mono ?_
  rintro e w' ⟨F', hR, hd', hF', t⟩
  have hB := hr.base.2.2
  refine ⟨hR, ⟨F', lv, hd', hr.kept t (fun k hk hkk hf => ?_), fun k hk => ?_, fun k hk => ?_⟩, t.below (fun k hk => (hd.lt hk).1) hB, fun k hk => t.block k (h2 k hk).1 (h2 k hk).2.1⟩
  · rcases hkk with e | e
    · exact (h1 k hf).1 e
    · exact (h1 k hf).2 e
  · rcases hF' k hk with hk | hk
    · exact h1 k hk
    · exact ⟨fun e => by have := hr.lt.1; omega, fun e => by have := (hr.lt.2 k e).2; omega⟩
  · obtain ⟨a1, a2, a3, a4⟩ := h2 k hk
    exact ⟨Nat.lt_of_lt_of_le a1 t.size, fun hf => by
      rcases hF' k hf with hf | hf
      · exact a2 hf
      · omega, a3, a4⟩

/-- .. where it tells entries: their row is watched from then on. -/
theorem bo8_e {l : List Et} {x : Int} (h : D.Bo B w pb qb X Sd Sr) (hc : ∀ F, D.DkS B w pb F Sd → Calls Tryz.prog fn args w (DsPost B pb F Sd' (EntD w l x) w)) :
    Calls Tryz.prog fn args w fun e w' => ∃ a cap, e = .returned (.tuple #[.slice a l.length cap, .int .i64 x]) ∧ EntsIn w' a l ∧ NewA w.heap.size a ∧ D.Bo B w' pb qb (fun k => X k ∨ (0 < l.length ∧ ∃ A, a = some A ∧ A.block = k)) Sd' Sr ∧ D.Fr B X w w' := by
  obtain ⟨F, lv, hd, hr, h1, h2⟩ := h
  refine (hc F hd).mono ?_
  rintro e w' ⟨F', ⟨a, cap, he, hen, hnw, hap⟩, hd', hF', t⟩
  have hB := hr.base.2.2
  refine ⟨a, cap, he, hen, hnw, ⟨F', lv, hd', hr.kept t (fun k hk hkk hf => ?_), fun k hk => ?_, fun k hk => ?_⟩, t.below (fun k hk => (hd.lt hk).1) hB, fun k hk => t.block k (h2 k hk).1 (h2 k hk).2.1⟩
  · rcases hkk with e | e
    · exact (h1 k hf).1 e
    · exact (h1 k hf).2 e
  · rcases hF' k hk with hk | hk
    · exact h1 k hk
    · exact ⟨fun e => by have := hr.lt.1; omega, fun e => by have := (hr.lt.2 k e).2; omega⟩
  · rcases hk with hk | ⟨h0, A, rfl, rfl⟩
    · obtain ⟨a1, a2, a3, a4⟩ := h2 k hk
      exact ⟨Nat.lt_of_lt_of_le a1 t.size, fun hf => by
        rcases hF' k hf with hf | hf
        · exact a2 hf
        · omega, a3, a4⟩
    · have hA := hnw A rfl
      obtain ⟨b, off, hab, hb, _⟩ := hen h0
      cases hab
      exact ⟨hb, hap _ rfl, fun e => by have h3 := hr.lt.1; have h4 : w.heap.size ≤ b := hA; have h5 : b = qb := e; omega, fun e => by have h3 : b < w.heap.size := (hr.lt.2 _ e).2; have h4 : w.heap.size ≤ b := hA; omega⟩

theorem bo8_r (h : D.Bo B w pb qb X Sd Sr) (hc : ∀ lv, D.Rf B w qb lv Sr → Calls Tryz.prog fn args w (SfPost B qb lv Sr' R w)) : Calls Tryz.prog fn args w fun e w' => R e w' ∧ (D.Bo B w' pb qb X Sd Sr' ∧ Turn (fun k => k = qb) w w') ∧ D.Fr B X w w' := by
  obtain ⟨F, lv, hd, hr, h1, h2⟩ := h
  refine (hc lv hr).mono ?_
  rintro e w' ⟨hR, lv', hr', t, hl⟩
  have hB := hr.base.2.2
  refine ⟨hR, ⟨⟨F, lv', hd.kept t (fun k hk hf e => (h1 k hf).1 e), hr', fun k hk => ⟨(h1 k hk).1, fun e => ?_⟩, fun k hk => ?_⟩, t⟩, t.below (fun k hk => by rw [hk]; exact hr.base.1) hB, fun k hk => t.block k (h2 k hk).1 (h2 k hk).2.2.1⟩
  · rcases hl k e with e | e
    · exact (h1 k hk).2 e
    · have := (hd.lt hk).2; omega
  · obtain ⟨a1, a2, a3, a4⟩ := h2 k hk
    exact ⟨Nat.lt_of_lt_of_le a1 t.size, a2, a3, fun e => by
      rcases hl k e with e | e
      · exact a4 e
      · omega⟩
theorem bo8_q (h : D.Bo B w pb qb X Sd Sr) : B ≤ qb ∧ qb < w.heap.size := by obtain ⟨F, lv, hd, hr, _⟩ := h; exact ⟨hr.base.1, hr.lt.1⟩
end

/-- Entries that lie in new memory stay as they are. -/
theorem EntsIn.turn {w w' : World} {a : Option Addr} {l : List Et} {B : Nat} (h : EntsIn w a l) (hn : NewA B a) (hs : w.heap.size ≤ w'.heap.size) (hk : ∀ k, B ≤ k → k < w.heap.size → w'.heap[k]? = w.heap[k]?) : EntsIn w' a l := by
  intro h0
  obtain ⟨b, off, ha, hb, hc⟩ := h h0
  have hB : B ≤ b := hn _ ha
  have he : ∀ j, w'.cell? ⟨b, j, none⟩ = w.cell? ⟨b, j, none⟩ := fun j => by simp only [World.cell?, hk b hB hb]
  refine ⟨b, off, ha, Nat.lt_of_lt_of_le hb hs, fun i hi => ?_⟩
  rw [he, he, he, he, he]
  exact hc i hi

/-- What is asked of the program's segments: each call comes to the plain facts' own answer. (Proved for the code that has landed; the laws' walks stand on this alone.) -/
structure SegC : Prop where
  name : ∀ {B : Nat} (n : Int) (w : World), Tb B w → -9223372036854775808 ≤ n → n ≤ 9223372036854775807 → Calls Tryz.prog 28 #[.int .i64 n] w fun e w' => e = .returned (.string (bs (nameOf 115 n))) ∧ Below w.heap.size w w'
  write : ∀ {B pb : Nat} {S : D.St} {w : World} {F : Nat → Prop}, D.DkS B w pb F S → Tb B w → ∀ (n : Int) (l : List Rc) (a : Option Addr) (cap : Nat), -9223372036854775808 ≤ n → n ≤ 9223372036854775807 → l.length ≤ 9223372036854775807 → Recs w a l → Fits l → S.fs.length < 1000000000 →
    Calls Tryz.prog 11 #[.pointer (some ⟨pb, 0, none⟩), .int .i64 n, .slice a l.length cap] w (DsPost B pb F (wrS S n l) (EntD w (wrL S n l) (wrE S n l)) w)
  get : ∀ {B pb : Nat} {S : D.St} {w : World} {F : Nat → Prop}, D.DkS B w pb F S → Tb B w → ∀ (n : Int) (e : Et), -9223372036854775808 ≤ n → n ≤ 9223372036854775807 → EFit e → S.fs.length < 1000000000 →
    Calls Tryz.prog 15 #[.pointer (some ⟨pb, 0, none⟩), .int .i64 n, ev e] w fun x w' => x = .returned (gtV (gtR S n e)) ∧ Below w.heap.size w w'
  load : ∀ {B pb : Nat} {S : D.St} {w : World} {F : Nat → Prop}, D.DkS B w pb F S → Tb B w → ∀ (n : Int), -9223372036854775808 ≤ n → n ≤ 9223372036854775807 → S.fs.length < 1000000000 →
    Calls Tryz.prog 17 #[.pointer (some ⟨pb, 0, none⟩), .int .i64 n] w (DsPost B pb F (ldS S n) (EntD w (ldL S n) (ldE S n)) w)
  sealed : ∀ {B pb : Nat} {S : D.St} {w : World} {F : Nat → Prop}, D.DkS B w pb F S → Tb B w → ∀ (n : Int), -9223372036854775808 ≤ n → n ≤ 9223372036854775807 → S.fs.length + 4 < 1000000000 →
    Calls Tryz.prog 19 #[.pointer (some ⟨pb, 0, none⟩), .int .i64 n] w (DsPost B pb F (seS S n) (fun _ => IntR (seE S n)) w)
  index : ∀ {B pb : Nat} {S : D.St} {w : World} {F : Nat → Prop}, D.DkS B w pb F S → Tb B w → ∀ (n : Int), -9223372036854775808 ≤ n → n ≤ 9223372036854775807 → S.fs.length < 1000000000 →
    Calls Tryz.prog 21 #[.pointer (some ⟨pb, 0, none⟩), .int .i64 n] w (DsPost B pb F (ixS S n) (EntD w (ixL S n) (ixE S n)) w)
  hint : ∀ {B pb : Nat} {S : D.St} {w : World} {F : Nat → Prop}, D.DkS B w pb F S → Tb B w → ∀ (n : Int) (l : List Et) (a : Option Addr) (cap : Nat), -9223372036854775808 ≤ n → n ≤ 9223372036854775807 → l.length ≤ 2000000 → EntsIn w a l → EFits l → S.fs.length + 3 < 1000000000 →
    Calls Tryz.prog 23 #[.pointer (some ⟨pb, 0, none⟩), .int .i64 n, .slice a l.length cap] w (DsPost B pb F (hiS S n l) (fun _ => IntR (hiE S n l)) w)
  told : ∀ {B pb : Nat} {S : D.St} {w : World} {F : Nat → Prop}, D.DkS B w pb F S → Tb B w → ∀ (n : Int), -9223372036854775808 ≤ n → n ≤ 9223372036854775807 → S.fs.length < 1000000000 →
    Calls Tryz.prog 25 #[.pointer (some ⟨pb, 0, none⟩), .int .i64 n] w (DsPost B pb F S (EntD w (tdL S n) (tdE S n)) w)
  number : ∀ (l : List UInt8) (w : World), l.length ≤ 1000 → Calls Tryz.prog 46 #[.string (bs l)] w fun e w' => e = .returned (.tuple #[.int .i64 (numVal l), .bool (isNum l)]) ∧ Below w.heap.size w w'
  all : ∀ {B pb : Nat} {S : D.St} {w : World} {F : Nat → Prop}, D.DkS B w pb F S → S.fs.length < 1000000000 →
    Calls Tryz.prog 42 #[.pointer (some ⟨pb, 0, none⟩)] w (NumsR w (alL S))
end Go.Proofs.YtmekkbhblghbmaaGreatDoor
