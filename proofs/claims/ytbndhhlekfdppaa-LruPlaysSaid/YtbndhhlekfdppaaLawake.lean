/- The first, small test of the laws of layer 11 returns true, if the program's cache does as is asked of it. -/
import Derived.Test.YtbndhhlekfdppaaLtwo
namespace Go.Proofs.Ytbndhhlekfdppaa.L
open Go.RowKit
set_option linter.unusedVariables false

/-- A cache of the program among the blocks from B on; A: blocks that are none of its. -/
structure Run (Pc : Nat → World → Nat → (Nat → Prop) → Nat → List It → Prop) (B : Nat) (w1 w : World) (pb most : Nat) (A : List (Nat × Obj)) (l : List It) : Prop where
  dir : ∃ F, Pc B w pb F most l ∧ ∀ x ∈ A, ¬ F x.1
  ok : Ok most l
  fit : Fits l
  most : 1 ≤ most ∧ most ≤ 64
  bel : Below w1.heap.size w1 w
  le : w1.heap.size ≤ B
  box : ∀ x ∈ A, w.heap[x.1]? = some x.2
section
variable {Pc : Nat → World → Nat → (Nat → Prop) → Nat → List It → Prop} {B pb most : Nat} {w1 w w' : World} {A : List (Nat × Obj)} {l l' : List It} {v : Value} {e : Ending} {b : Bk}
theorem Run.old (C : CacheC Pc) (h : Run Pc B w1 w pb most A l) (hb : Below w.heap.size w w') : Run Pc B w1 w' pb most A l := by
  obtain ⟨F, hd, hA⟩ := h.dir
  exact ⟨⟨F, C.kept hd (Turn.of_below (fun _ => False) hb (Nat.le_refl _)) (fun _ _ _ f => f), hA⟩, h.ok, h.fit, h.most, h.bel.trans (hb.mono h.bel.size), h.le, fun x hx => (hb.block _ (Array.getElem?_eq_some_iff.1 (h.box x hx)).1).trans (h.box x hx)⟩
theorem Run.add (C : CacheC Pc) (h : Run Pc B w1 w pb most A l) (hb : Below w.heap.size w w') {g : Nat} {X : Obj} (hX : w'.heap[g]? = some X) (hl : w.heap.size ≤ g) : Run Pc B w1 w' pb most ((g, X) :: A) l := by
  have h' := h.old C hb
  obtain ⟨F, hd, hA⟩ := h.dir
  have hFl := C.lt hd
  refine ⟨⟨F, C.kept hd (Turn.of_below (fun _ => False) hb (Nat.le_refl _)) (fun _ _ _ f => f), fun x hx => ?_⟩, h.ok, h.fit, h.most, h'.bel, h'.le, fun x hx => ?_⟩
  · rcases List.mem_cons.1 hx with rfl | hx
    · exact fun hf => by have := (hFl _ hf).2; dsimp only at this; omega
    · exact hA x hx
  · rcases List.mem_cons.1 hx with rfl | hx
    · exact hX
    · exact h'.box x hx
theorem Run.less (h : Run Pc B w1 w pb most A l) : Run Pc B w1 w pb most [] l := by
  obtain ⟨F, hd, hA⟩ := h.dir
  exact ⟨⟨F, hd, fun x hx => (by cases hx)⟩, h.ok, h.fit, h.most, h.bel, h.le, fun x hx => (by cases hx)⟩
theorem Run.step (C : CacheC Pc) {F : Nat → Prop} (h : Run Pc B w1 w pb most A l) (hd : Pc B w pb F most l) (hA : ∀ x ∈ A, ¬ F x.1) (hp : PcPost Pc B w pb F most l' v e w') (hok : Ok most l') (hf : Fits l') : e = .returned v ∧ Run Pc B w1 w' pb most A l' := by
  obtain ⟨he, F', h1, h2, t⟩ := hp
  have hF := C.lt hd
  have hlt : ∀ x ∈ A, x.1 < w.heap.size := fun x hx => (Array.getElem?_eq_some_iff.1 (h.box x hx)).1
  refine ⟨he, ⟨F', h1, fun x hx hf' => ?_⟩, hok, hf, h.most, h.bel.trans (t.below (fun k hk => Nat.le_trans h.le (hF k hk).1) h.bel.size), h.le, fun x hx => (t.block _ (hlt x hx) (hA x hx)).trans (h.box x hx)⟩
  rcases h2 _ hf' with g | g
  · exact hA x hx g
  · have := hlt x hx; omega
theorem Run.get (C : CacheC Pc) (h : Run Pc B w1 w pb most A l) (hb : b.fit) : Calls Try.prog 8 #[.pointer (some ⟨pb, 0, none⟩), blkV b] w fun e w' => e = .returned (.tuple #[.string (bs (textOf l b)), .bool (hasB l b)]) ∧ Run Pc B w1 w' pb most A (getS l b) := by
  obtain ⟨F, hd, hA⟩ := h.dir
  exact (C.get hd h.ok h.most.2 h.fit hb).mono fun e w' hp => h.step C hd hA hp (ok_get h.ok b) (fits_get h.fit b)
theorem Run.put (C : CacheC Pc) (h : Run Pc B w1 w pb most A l) (hb : b.fit) {s : List UInt8} (hs : s.length ≤ 9223372036854775807) : Calls Try.prog 10 #[.pointer (some ⟨pb, 0, none⟩), blkV b, .string (bs s)] w fun e w' => e = .returned (.tuple #[]) ∧ Run Pc B w1 w' pb most A (putS most l b s) := by
  obtain ⟨F, hd, hA⟩ := h.dir
  exact (C.put hd h.ok h.most.1 h.most.2 h.fit hb hs).mono fun e w' hp => h.step C hd hA hp (ok_put h.ok b s) (fits_put h.fit hb hs)
theorem Run.drop (C : CacheC Pc) (h : Run Pc B w1 w pb most A l) {seg : Int} (hs : -9223372036854775808 ≤ seg ∧ seg ≤ 9223372036854775807) : Calls Try.prog 12 #[.pointer (some ⟨pb, 0, none⟩), .int .i64 seg] w fun e w' => e = .returned (.int .i64 ((l.length : Int) - ((dropS l seg).length : Int))) ∧ Run Pc B w1 w' pb most A (dropS l seg) := by
  obtain ⟨F, hd, hA⟩ := h.dir
  exact (C.drop hd h.ok h.most.2 h.fit hs).mono fun e w' hp => h.step C hd hA hp (ok_drop h.ok seg) (fits_drop h.fit seg)
theorem Run.blocks (C : CacheC Pc) (h : Run Pc B w1 w pb most A l) : Calls Try.prog 15 #[.pointer (some ⟨pb, 0, none⟩)] w fun e w' => ∃ v, e = .returned v ∧ Bks w' w.heap.size v (l.map Prod.fst) ∧ Below w.heap.size w w' := by
  obtain ⟨F, hd, hA⟩ := h.dir
  exact C.blocks hd h.ok h.most.2 h.fit
theorem run_new (C : CacheC Pc) {F : Nat → Prop} {w2 : World} (hm : 1 ≤ most ∧ most ≤ 64) (hd : Pc w1.heap.size w2 pb F most []) (hb : Below w1.heap.size w1 w2) : Run Pc w1.heap.size w1 w2 pb most [] [] := ⟨⟨F, hd, fun x hx => (by cases hx)⟩, ok_nil _, fits_nil, hm, hb, Nat.le_refl _, fun x hx => (by cases hx)⟩
end
def aB : Bk := ⟨1, 2⟩
def zB : Bk := ⟨0, 0⟩
theorem aFit : aB.fit := ⟨⟨by decide, by decide⟩, ⟨by decide, by decide⟩⟩
theorem zFit : zB.fit := ⟨⟨by decide, by decide⟩, ⟨by decide, by decide⟩⟩

set_option maxHeartbeats 1000000 in
set_option maxRecDepth 100000 in
theorem awakeL_any {Pc : Nat → World → Nat → (Nat → Prop) → Nat → List It → Prop} (C : CacheC Pc) (w : World) : Calls Try.prog 5 #[] w fun e w' => e = .returned (.bool true) ∧ Below w.heap.size w w' := by
  have HC := Lib.hid C
  clear C
  go_enter Try.func5, Try.ntmps5
  go_wp2_with fail
  refine (show Calls Try.prog 6 #[.int .i64 1] w _ from HC.out.newYes 1 w (by omega) (by omega)).mono ?_
  rintro e w1 ⟨pb, F, rfl, h1, b1⟩
  have HR := Lib.hid (run_new HC.out ⟨by omega, by omega⟩ h1 b1)
  clear h1 b1
  go_wp2_with fail
  have hba := (Below.refl w1.heap.size w1).alloc (Nat.le_refl _) (.cells #[.int .i64 1, .int .i64 2] 32)
  have HR2 := Lib.hid (HR.out.add HC.out hba (heap_alloc_new w1 (.cells #[.int .i64 1, .int .i64 2] 32)) (Nat.le_refl _))
  obtain ⟨xb, hxb⟩ : ∃ xb, xb = w1.heap.size := ⟨_, rfl⟩
  rw [← hxb] at HR2 ⊢
  generalize World.alloc w1 _ = w2 at *
  clear hba hxb HR
  refine (show Calls Try.prog 10 #[.pointer (some ⟨pb, 0, none⟩), .agg #[.int .i64 1, .int .i64 2], .string ⟨#[120]⟩] w2 _ from HR2.out.put HC.out (b := aB) aFit (s := [120]) (by simp)).mono ?_
  rintro e w3 ⟨rfl, h3⟩
  have HR3 := Lib.hid h3
  have hcl := fun t => cell_of_row w3 xb t _ _ (0, 0) (h3.box _ (List.mem_cons_self ..))
  have e0 := hcl 0; have e1 := hcl 1
  simp only [List.getElem?_toArray, List.getElem?_cons_succ, List.getElem?_cons_zero] at e0 e1
  clear h3 hcl HR2
  go_wp2_with fail
  refine (show Calls Try.prog 8 #[.pointer (some ⟨pb, 0, none⟩), .agg #[.int .i64 1, .int .i64 2]] w3 _ from HR3.out.get HC.out (b := aB) aFit).mono ?_
  rintro e w4 ⟨rfl, h4⟩
  rw [show textOf (putS 1 [] aB [120]) aB = [120] from rfl, show hasB (putS 1 [] aB [120]) aB = true from rfl, show bs [120] = (⟨#[120]⟩ : ByteArray) from rfl]
  have HR4 := Lib.hid h4
  have hcl := fun t => cell_of_row w4 xb t _ _ (0, 0) (h4.box _ (List.mem_cons_self ..))
  have e0' := hcl 0; have e1' := hcl 1
  simp only [List.getElem?_toArray, List.getElem?_cons_succ, List.getElem?_cons_zero] at e0' e1'
  clear h4 hcl HR3 e0 e1
  go_wp2_with fail
  refine (show Calls Try.prog 10 #[.pointer (some ⟨pb, 0, none⟩), .agg #[.int .i64 0, .int .i64 0], .string ⟨#[121]⟩] w4 _ from HR4.out.put HC.out (b := zB) zFit (s := [121]) (by simp)).mono ?_
  rintro e w5 ⟨rfl, h5⟩
  have HR5 := Lib.hid h5
  have hcl := fun t => cell_of_row w5 xb t _ _ (0, 0) (h5.box _ (List.mem_cons_self ..))
  have e0 := hcl 0; have e1 := hcl 1
  simp only [List.getElem?_toArray, List.getElem?_cons_succ, List.getElem?_cons_zero] at e0 e1
  clear h5 hcl HR4 e0' e1'
  go_wp2_with fail
  refine (show Calls Try.prog 8 #[.pointer (some ⟨pb, 0, none⟩), .agg #[.int .i64 1, .int .i64 2]] w5 _ from HR5.out.get HC.out (b := aB) aFit).mono ?_
  rintro e w6 ⟨rfl, h6⟩
  have hH : hasB (putS 1 (getS (putS 1 [] aB [120]) aB) zB [121]) aB = false := rfl
  have hL6 : getS (putS 1 (getS (putS 1 [] aB [120]) aB) zB [121]) aB = [(zB, [121])] := rfl
  rw [hH]
  rw [hL6] at h6
  generalize bs (textOf _ _) = tx
  have HR6 := Lib.hid h6
  clear h6 hH hL6 HR5 e0 e1
  go_wp2_with fail
  refine (HR6.out.blocks HC.out).mono ?_
  rintro e w7 ⟨v, rfl, hv, b7⟩
  obtain ⟨va, vc, rfl⟩ := slice_form hv
  have HR7 := Lib.hid (HR6.out.old HC.out b7)
  clear hv b7 HR6
  rw [show (List.map Prod.fst [(zB, ([121] : List UInt8))]).length = 1 from rfl]
  go_wp2_with fail
  refine (show Calls Try.prog 12 #[.pointer (some ⟨pb, 0, none⟩), .int .i64 0] w7 _ from HR7.out.drop HC.out (seg := 0) ⟨by omega, by omega⟩).mono ?_
  rintro e w8 ⟨rfl, h8⟩
  have hd8 : ((([(zB, [121])] : List It).length : Int) - ((dropS [(zB, [121])] 0).length : Int)) = 1 := rfl
  rw [hd8]
  have HR8 := Lib.hid h8.bel
  clear h8 hd8 HR7
  go_wp2_with fail
  go_ret
  exact ⟨rfl, HR8.out⟩
end Go.Proofs.Ytbndhhlekfdppaa.L
