/- A directory of the program and one of the document, side by side. -/
import Derived.Test.YtbjginlhgedjdaaDoorKhomes
namespace Go.Proofs.YtbjginlhgedjdaaDoor.K
open Go.RowKit
set_option linter.unusedVariables false

theorem Rk.turn {B qb gb : Nat} {S : Dr} {w w' : World} {F : Nat → Prop} (h : Rk B w qb gb S) (t : Turn F w w') (h1 : ¬ F qb) (h2 : ¬ F gb) : Rk B w' qb gb S :=
  ⟨(t.block _ h.lt.1 h1).trans h.blk, (t.block _ h.lt.2 h2).trans h.row, ⟨h.base.1, h.base.2.1, h.base.2.2.1, Nat.le_trans h.base.2.2.2 t.size⟩, h.few⟩

structure Two (Pd : Nat → World → Nat → (Nat → Prop) → Dr → Prop) (B R : Nat) (w1 w : World) (pb qb n : Nat) (A : List (Nat × Obj)) (Sd Sr : Dr) : Prop where
  dir : ∃ F gb, Pd B w pb F Sd ∧ Rk R w qb gb Sr ∧ ¬ F qb ∧ ¬ F gb ∧ ∀ x ∈ A, ¬ F x.1 ∧ x.1 ≠ qb ∧ x.1 ≠ gb
  mul : Ml B w
  fitD : Fit n Sd
  fitR : Fit n Sr
  bel : Below w1.heap.size w1 w
  le : w1.heap.size ≤ B ∧ B ≤ R
  box : ∀ x ∈ A, w.heap[x.1]? = some x.2

section
variable {Pd : Nat → World → Nat → (Nat → Prop) → Dr → Prop} {B R pb qb n m : Nat} {w1 w w' : World} {A : List (Nat × Obj)} {Sd Sr : Dr} {k : List UInt8}
theorem Two.old (C : DirC Pd) (h : Two Pd B R w1 w pb qb n A Sd Sr) (hb : Below w.heap.size w w') : Two Pd B R w1 w' pb qb n A Sd Sr := by
  obtain ⟨F, gb, hd, hr, h1, h2, h3⟩ := h.dir
  exact ⟨⟨F, gb, C.kept hd (Turn.of_below (fun _ => False) hb (Nat.le_refl _)) (fun _ _ _ f => f), hr.turn (Turn.of_below (fun _ => False) hb (Nat.le_refl _)) id id, h1, h2, h3⟩, Ml.new h.mul hb, h.fitD, h.fitR, h.bel.trans (hb.mono h.bel.size), h.le,
    fun x hx => (hb.block _ (Array.getElem?_eq_some_iff.1 (h.box x hx)).1).trans (h.box x hx)⟩
theorem Two.add (C : DirC Pd) (h : Two Pd B R w1 w pb qb n A Sd Sr) (hb : Below w.heap.size w w') {b : Nat} {X : Obj} (hX : w'.heap[b]? = some X) (hl : w.heap.size ≤ b) : Two Pd B R w1 w' pb qb n ((b, X) :: A) Sd Sr := by
  have h' := h.old C hb
  obtain ⟨F, gb, hd, hr, h1, h2, h3⟩ := h.dir
  have hFl := C.lt hd
  have hrl := hr.lt
  refine ⟨⟨F, gb, C.kept hd (Turn.of_below (fun _ => False) hb (Nat.le_refl _)) (fun _ _ _ f => f), hr.turn (Turn.of_below (fun _ => False) hb (Nat.le_refl _)) id id, h1, h2, fun x hx => ?_⟩, h'.mul, h'.fitD, h'.fitR, h'.bel, h'.le, fun x hx => ?_⟩
  · rcases List.mem_cons.1 hx with rfl | hx
    · exact ⟨fun hf => by have := (hFl _ hf).2; dsimp only at this; omega, by dsimp only; omega, by dsimp only; omega⟩
    · exact h3 x hx
  · rcases List.mem_cons.1 hx with rfl | hx
    · exact hX
    · exact h'.box x hx
theorem Two.less (h : Two Pd B R w1 w pb qb n A Sd Sr) : Two Pd B R w1 w pb qb n [] Sd Sr := by
  obtain ⟨F, gb, hd, hr, h1, h2, h3⟩ := h.dir
  exact ⟨⟨F, gb, hd, hr, h1, h2, fun x hx => (by cases hx)⟩, h.mul, h.fitD, h.fitR, h.bel, h.le, fun x hx => (by cases hx)⟩
theorem Two.more (h : Two Pd B R w1 w pb qb n A Sd Sr) (hn : n ≤ m) : Two Pd B R w1 w pb qb m A Sd Sr := ⟨h.dir, h.mul, h.fitD.mono hn, h.fitR.mono hn, h.bel, h.le, h.box⟩
/-- The program's directory has turned. -/
theorem Two.turnD (C : DirC Pd) {F : Nat → Prop} {gb : Nat} {S' : Dr} {v : Value} {e : Ending} (h : Two Pd B R w1 w pb qb n A Sd Sr) (hd : Pd B w pb F Sd) (hr : Rk R w qb gb Sr) (h1 : ¬ F qb) (h2 : ¬ F gb) (h3 : ∀ x ∈ A, ¬ F x.1 ∧ x.1 ≠ qb ∧ x.1 ≠ gb)
    (hf : Fit m S') (hn : n ≤ m) (hp : PdPost Pd B w pb F S' v e w') : e = .returned v ∧ Two Pd B R w1 w' pb qb m A S' Sr := by
  obtain ⟨he, F', hd', hF, t⟩ := hp
  have hFl := C.lt hd
  have hrl := hr.lt
  have hA : ∀ x ∈ A, x.1 < w.heap.size := fun x hx => (Array.getElem?_eq_some_iff.1 (h.box x hx)).1
  have hno : ∀ k, k < w.heap.size → ¬ F k → ¬ F' k := fun k hk hn hf => by
    rcases hF k hf with g | g
    · exact hn g
    · omega
  exact ⟨he, ⟨F', gb, hd', hr.turn t h1 h2, hno _ hrl.1 h1, hno _ hrl.2 h2, fun x hx => ⟨hno _ (hA x hx) (h3 x hx).1, (h3 x hx).2⟩⟩, Ml.turn h.mul t (fun k hk => (hFl k hk).1), hf, h.fitR.mono hn,
    h.bel.trans (t.below (fun k hk => Nat.le_trans h.le.1 (hFl k hk).1) h.bel.size), h.le, fun x hx => (t.block _ (hA x hx) (h3 x hx).1).trans (h.box x hx)⟩
/-- The document's has turned. -/
theorem Two.turnR (C : DirC Pd) {F : Nat → Prop} {gb : Nat} {S' : Dr} {v : Value} {e : Ending} (h : Two Pd B R w1 w pb qb n A Sd Sr) (hd : Pd B w pb F Sd) (hr : Rk R w qb gb Sr) (h1 : ¬ F qb) (h2 : ¬ F gb) (h3 : ∀ x ∈ A, ¬ F x.1 ∧ x.1 ≠ qb ∧ x.1 ≠ gb)
    (hf : Fit m S') (hn : n ≤ m) (hp : RkPost R w qb gb S' v e w') : e = .returned v ∧ Two Pd B R w1 w' pb qb m A Sd S' := by
  obtain ⟨he, gb', hr', hgb, t⟩ := hp
  have hFl := C.lt hd
  have hA : ∀ x ∈ A, x.1 < w.heap.size := fun x hx => (Array.getElem?_eq_some_iff.1 (h.box x hx)).1
  have hle := h.le
  have hb := hr.base
  refine ⟨he, ⟨F, gb', C.kept hd t (fun k _ hf' e => by rcases e with rfl | rfl; exact h1 hf'; exact h2 hf'), hr', h1, ?_, fun x hx => ⟨(h3 x hx).1, (h3 x hx).2.1, ?_⟩⟩, Ml.turn h.mul t (fun k hk => by rcases hk with rfl | rfl <;> omega), h.fitD.mono hn, hf,
    h.bel.trans (t.below (fun k hk => by rcases hk with rfl | rfl <;> omega) h.bel.size), h.le, fun x hx => (t.block _ (hA x hx) (fun e => by rcases e with e | e; exact (h3 x hx).2.1 e; exact (h3 x hx).2.2 e)).trans (h.box x hx)⟩
  · rcases hgb with rfl | hgb
    · exact h2
    · exact fun hf' => by have := (hFl _ hf').2; omega
  · rcases hgb with rfl | hgb
    · exact (h3 x hx).2.2
    · have := hA x hx; omega

theorem Two.putD (C : DirC Pd) (h : Two Pd B R w1 w pb qb n A Sd Sr) (hn : n < 150) (hk : k.length ≤ 1000) (l : Lc) :
    Calls Tryd.prog 10 #[.pointer (some ⟨pb, 0, none⟩), .string (bs k), locV l] w fun e w' => e = .returned (.tuple #[]) ∧ Two Pd B R w1 w' pb qb (n + 1) A (putS Sd k l) Sr := by
  obtain ⟨F, gb, hd, hr, h1, h2, h3⟩ := h.dir
  exact (C.put hd h.mul h.fitD hn hk l).mono fun e w' hp => h.turnD C hd hr h1 h2 h3 (fit_put h.fitD hn hk l).1 (Nat.le_succ n) hp
theorem Two.delD (C : DirC Pd) (h : Two Pd B R w1 w pb qb n A Sd Sr) (hk : k.length ≤ 1000) :
    Calls Tryd.prog 14 #[.pointer (some ⟨pb, 0, none⟩), .string (bs k)] w fun e w' => e = .returned (.bool (hasB Sd k)) ∧ Two Pd B R w1 w' pb qb n A (delS Sd k) Sr := by
  obtain ⟨F, gb, hd, hr, h1, h2, h3⟩ := h.dir
  exact (C.del hd h.mul h.fitD hk).mono fun e w' hp => h.turnD C hd hr h1 h2 h3 (fit_del h.fitD k).1 (Nat.le_refl n) hp
theorem Two.putR (C : DirC Pd) {S : Dr} (h : Two Pd B R w1 w pb qb (n + 1) A Sd S) (hf : Fit n S) (hn : n < 150) (hk : k.length ≤ 1000) (l : Lc) :
    Calls Tryd.prog 11 #[.pointer (some ⟨qb, 0, none⟩), .string (bs k), locV l] w fun e w' => e = .returned (.tuple #[]) ∧ Two Pd B R w1 w' pb qb (n + 1) A Sd (putS S k l) := by
  obtain ⟨F, gb, hd, hr, h1, h2, h3⟩ := h.dir
  exact (refput_any hr hf hn hk l).mono fun e w' hp => h.turnR C hd hr h1 h2 h3 (fit_put hf hn hk l).1 (Nat.le_refl _) hp
theorem Two.delR (C : DirC Pd) (h : Two Pd B R w1 w pb qb n A Sd Sr) (hk : k.length ≤ 1000) :
    Calls Tryd.prog 15 #[.pointer (some ⟨qb, 0, none⟩), .string (bs k)] w fun e w' => e = .returned (.bool (hasB Sr k)) ∧ Two Pd B R w1 w' pb qb n A Sd (delS Sr k) := by
  obtain ⟨F, gb, hd, hr, h1, h2, h3⟩ := h.dir
  exact (refdel_any hr h.fitR).mono fun e w' hp => h.turnR C hd hr h1 h2 h3 (fit_del h.fitR k).1 (Nat.le_refl n) hp
theorem Two.getD (C : DirC Pd) (h : Two Pd B R w1 w pb qb n A Sd Sr) (hk : k.length ≤ 1000) :
    Calls Tryd.prog 12 #[.pointer (some ⟨pb, 0, none⟩), .string (bs k)] w fun e w' => e = .returned (.tuple #[locV (locOf Sd k), .bool (hasB Sd k)]) ∧ Below w.heap.size w w' := by
  obtain ⟨F, gb, hd, _⟩ := h.dir
  exact C.get hd h.mul h.fitD hk
theorem Two.getR (h : Two Pd B R w1 w pb qb n A Sd Sr) :
    Calls Tryd.prog 13 #[.pointer (some ⟨qb, 0, none⟩), .string (bs k)] w fun e w' => e = .returned (.tuple #[locV (locOf Sr k), .bool (hasB Sr k)]) ∧ Below w.heap.size w w' := by
  obtain ⟨F, gb, _, hr, _⟩ := h.dir
  exact refget_any hr h.fitR
theorem Two.farD (C : DirC Pd) (h : Two Pd B R w1 w pb qb n A Sd Sr) (hk : k.length ≤ 1000) :
    Calls Tryd.prog 19 #[.pointer (some ⟨pb, 0, none⟩), .string (bs k)] w fun e w' => e = .returned (.tuple #[.int .i64 ((farN Sd k : Nat) : Int), .bool (hasB Sd k)]) ∧ Below w.heap.size w w' := by
  obtain ⟨F, gb, hd, _⟩ := h.dir
  exact C.far hd h.mul h.fitD hk
theorem Two.farR (h : Two Pd B R w1 w pb qb n A Sd Sr) (hk : k.length ≤ 1000) :
    Calls Tryd.prog 20 #[.pointer (some ⟨qb, 0, none⟩), .string (bs k)] w fun e w' => e = .returned (.tuple #[.int .i64 ((farN Sr k : Nat) : Int), .bool (hasB Sr k)]) ∧ Below w.heap.size w w' := by
  obtain ⟨F, gb, _, hr, _⟩ := h.dir
  exact reffar_any hr h.fitR hk
theorem Two.lenD (C : DirC Pd) (h : Two Pd B R w1 w pb qb n A Sd Sr) : Calls Tryd.prog 17 #[.pointer (some ⟨pb, 0, none⟩)] w fun e w' => e = .returned (.int .i64 ((cnt Sd : Nat) : Int)) ∧ Below w.heap.size w w' := by
  obtain ⟨F, gb, hd, _⟩ := h.dir
  exact C.len hd h.fitD
theorem Two.capD (C : DirC Pd) (h : Two Pd B R w1 w pb qb n A Sd Sr) : Calls Tryd.prog 18 #[.pointer (some ⟨pb, 0, none⟩)] w fun e w' => e = .returned (.int .i64 ((Sd.length : Nat) : Int)) ∧ Below w.heap.size w w' := by
  obtain ⟨F, gb, hd, _⟩ := h.dir
  exact C.cap hd h.fitD
theorem Two.keysD (C : DirC Pd) (h : Two Pd B R w1 w pb qb n A Sd Sr) (hn : n ≤ 150) (hk : k.length ≤ 1000) : Calls Tryd.prog 21 #[.pointer (some ⟨pb, 0, none⟩), .string (bs k)] w fun e w' =>
    ∃ kv lv, e = .returned (.tuple #[kv, lv]) ∧ Strs w' w.heap.size kv ((fromE Sd k).map Prod.fst) ∧ Locs w' w.heap.size lv ((fromE Sd k).map Prod.snd) ∧ Below w.heap.size w w' := by
  obtain ⟨F, gb, hd, _⟩ := h.dir
  exact C.keys hd h.mul h.fitD hn hk
theorem Two.keysR (h : Two Pd B R w1 w pb qb n A Sd Sr) : Calls Tryd.prog 16 #[.pointer (some ⟨qb, 0, none⟩)] w fun e w' => ∃ v, e = .returned v ∧ Strs w' w.heap.size v (keysOf Sr) ∧ Below w.heap.size w w' := by
  obtain ⟨F, gb, _, hr, _⟩ := h.dir
  exact refkeys_any hr h.fitR.ok.inv.one
theorem Two.head (h : Two Pd B R w1 w pb qb n A Sd Sr) : ∃ gb, w.cell? ⟨qb, 0, none⟩ = some (.slice (some ⟨gb, 0, none⟩) Sr.length Sr.length) := by
  obtain ⟨F, gb, _, hr, _⟩ := h.dir
  exact ⟨gb, hr.head⟩
theorem two_new (C : DirC Pd) {w2 w3 : World} {F : Nat → Prop} {gb : Nat} (hd : Pd w1.heap.size w2 pb F (none' 8)) (hm : Ml w1.heap.size w2) (hb : Below w1.heap.size w1 w2) (hr : Rk w2.heap.size w3 qb gb (none' 8)) (hb3 : Below w2.heap.size w2 w3) :
    Two Pd w1.heap.size w2.heap.size w1 w3 pb qb 0 [] (none' 8) (none' 8) := by
  have hFl := C.lt hd
  have hbs := hr.base
  exact ⟨⟨F, gb, C.kept hd (Turn.of_below (fun _ => False) hb3 (Nat.le_refl _)) (fun _ _ _ f => f), hr, fun hf => by have := (hFl _ hf).2; omega, fun hf => by have := (hFl _ hf).2; omega, fun x hx => (by cases hx)⟩, Ml.new hm hb3, fit_new, fit_new, hb.trans (hb3.mono hb.size), ⟨Nat.le_refl _, hb.size⟩, fun x hx => (by cases hx)⟩
end

/-- Two lists of the same strings. -/
theorem strs_same {w : World} {Ba Bb : Nat} {a b : Option Addr} {ca cb : Nat} {ns : List (List UInt8)} (ha : Strs w Ba (.slice a ns.length ca) ns) (hb : Strs w Bb (.slice b ns.length cb) ns) (hn : ns.length < 1000000000) :
    Calls Tryd.prog 22 #[.slice a ns.length ca, .slice b ns.length cb] w fun e w' => e = .returned (.bool true) ∧ Below w.heap.size w w' := by
  obtain ⟨L, hL⟩ : ∃ L, L = ns.length := ⟨_, rfl⟩
  rw [← hL] at ha hb hn ⊢
  have HL := Lib.hid hL; have HA := Lib.hid ha; have HB := Lib.hid hb
  clear hL ha hb
  go_enter Tryd.func22, Tryd.ntmps22
  go_wp2
  go_loopg [5] L (fun g it wr => ∃ (i q : Nat), i + g = L ∧ it = .int .i64 i ∧ wr = w.drewN q)
  case atStart => exact ⟨0, 0, by omega, rfl, rfl⟩
  case round =>
    obtain ⟨i, q, hi, rfl, rfl⟩ := hrel
    by_cases hlt : i < L
    · obtain ⟨n, hn'⟩ : ∃ n, ns[i]? = some n := ⟨ns[i]'(by have := HL.out; omega), List.getElem?_eq_getElem _⟩
      obtain ⟨ga, hga, _, _, da⟩ := ss_at HA.out hn'
      obtain ⟨gb, hgb, _, _, db⟩ := ss_at HB.out hn'
      subst hga hgb
      clear hn'
      go_wp2
      go_quiet (fail)
      go_wp2
      go_roundg (gk - 1)
      case measure => omega
      case rel => exact ⟨i + 1, _, by omega, by go_num, rfl⟩
    · obtain rfl : i = L := by omega
      go_wp2
      go_ret
      exact ⟨rfl, ⟨rfl, rfl, rfl, Nat.le_refl _, fun _ _ => rfl⟩⟩
end Go.Proofs.YtbjginlhgedjdaaDoor.K
