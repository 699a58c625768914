/- New, Script, Calls. -/
import Derived.Test.YtadfajeiihonfaaMfate
namespace Go.Proofs.Ytadfajeiihonfaa
open Go.RowKit Go.Maps Go.Shelf

/-- A remote that lies in the blocks F, among those from B on. -/
def RkS (B : Nat) (w : World) (pb : Nat) (F : Nat → Prop) (S : Rs) : Prop := ∃ mb sv, Rk B w pb mb sv S ∧ ∀ k, foot pb mb sv k ↔ F k

/-- What is behind a call: its answer, the remote, what has turned. -/
def RkPost (B pb : Nat) (F : Nat → Prop) (S' : Rs) (r : Value) (w : World) (e : Ending) (w' : World) : Prop :=
  e = .returned r ∧ ∃ F', RkS B w' pb F' S' ∧ (∀ k, F' k → F k ∨ w.heap.size ≤ k) ∧ Turn F w w'

section
variable {B pb : Nat} {w w' : World} {F G : Nat → Prop} {S S' : Rs}
theorem RkS.ok (h : RkS B w pb F S) : Ok S := by obtain ⟨_, _, h, _⟩ := h; exact h.ok
theorem RkS.lt (h : RkS B w pb F S) {k : Nat} (hk : F k) : B ≤ k ∧ k < w.heap.size := by
  obtain ⟨_, _, h, hF⟩ := h
  exact h.footLt ((hF k).2 hk)
theorem RkS.kept (h : RkS B w pb F S) (t : Turn G w w') (hG : ∀ k, k < w.heap.size → F k → ¬ G k) : RkS B w' pb F S := by
  obtain ⟨mb, sv, h, hF⟩ := h
  exact ⟨mb, sv, h.kept t (fun k hk hm => hG k hk ((hF k).1 hm)), hF⟩
theorem RkS.below (h : RkS B w pb F S) (hb : Below w.heap.size w w') : RkS B w' pb F S := h.kept (Turn.of_below (fun _ => False) hb (Nat.le_refl _)) (fun _ _ _ f => f)
theorem RkS.size (h : RkS B w pb F S) : B ≤ w.heap.size := by obtain ⟨_, _, h, _⟩ := h; exact h.base.2.2.2

/-- A step, seen from outside. -/
theorem RkS.step (h : RkS B w pb F S) {r : Value} {fn : Nat} {args : Array Value} (hc : ∀ mb sv, Rk B w pb mb sv S → Calls Try.prog fn args w fun e w' => e = .returned r ∧ RkStep B pb mb sv w S' w') : Calls Try.prog fn args w (RkPost B pb F S' r w) := by
  obtain ⟨mb, sv, h, hF⟩ := h
  refine (hc mb sv h).mono ?_
  rintro e w' ⟨rfl, sv', h', hf, t⟩
  refine ⟨rfl, foot pb mb sv', ⟨mb, sv', h', fun _ => Iff.rfl⟩, fun k hk => ?_, t.mono (fun k _ hk => (hF k).1 hk)⟩
  rcases hf k hk with hk | hk
  · exact Or.inl ((hF k).1 hk)
  · exact Or.inr hk
end

/-! ### Calls -/
theorem calls_any {B pb : Nat} {w : World} {F : Nat → Prop} {S : Rs} (h : RkS B w pb F S) :
    Calls Try.prog 20 #[.pointer (some ⟨pb, 0, none⟩)] w fun e w' => e = .returned (.int .i64 S.n) ∧ w = w' := by
  obtain ⟨mb, sv, h, _⟩ := h
  obtain ⟨c0, c1, c2, fz⟩ := h.cells
  clear fz
  have hlt := h.lt.1
  go_enter Try.func20, Try.ntmps20
  go_wp2
  go_ret
  exact ⟨rfl, rfl⟩

/-! ### New -/
def newS : Rs := ⟨[], [], 0⟩
theorem ok_new : Ok newS := ⟨List.Pairwise.nil, (fun _ h => by cases h), by simp [newS], by simp [newS], (fun _ h => by cases h)⟩

def newPost (w : World) (e : Ending) (w' : World) : Prop := ∃ pb F, e = .returned (.pointer (some ⟨pb, 0, none⟩)) ∧ RkS w.heap.size w' pb F newS ∧ (∀ k, F k → w.heap.size ≤ k) ∧ Below w.heap.size w w'

theorem new_any (w : World) : Calls Try.prog 7 #[] w (newPost w) := by
  have hmm := @run_makeMap Try.prog
  go_enter Try.func7, Try.ntmps7
  go_wp2
  have hD : Rk w.heap.size ((w.alloc (.map #[] 0)).alloc (.cells #[.map (some w.heap.size), .slice none 0 0, .int .i64 0] 48)) (w.heap.size + 1) w.heap.size (.slice none 0 0) newS := by
    have hm : (w.alloc (.map #[] 0)).ownsMap Try.prog 9 heldR w.heap.size 0 (.map []) := World.ownsMap_made w _ _ _
    have hsz : (w.alloc (.map #[] 0)).heap.size = w.heap.size + 1 := by simp
    refine ⟨?_, ⟨.map [], hm.alloc _, rfl, fun c hc => (by cases hc), fun n hn => (by simp [Maps.has] at hn)⟩, ⟨none, 0, rfl, Nat.le_refl _, by unfold maxLen; omega, fun _ => rfl, fun A hA => (by cases hA)⟩,
      ⟨by omega, Nat.le_refl _, by omega, by simp; omega⟩, ok_new⟩
    have := heap_alloc_new (w.alloc (.map #[] 0)) (.cells #[.map (some w.heap.size), .slice none 0 0, .int .i64 0] 48)
    rw [hsz] at this
    rw [this]
    simp [newS]
  go_ret
  refine ⟨w.heap.size + 1, _, rfl, ⟨_, _, hD, fun _ => Iff.rfl⟩, fun k hk => ?_, ((Below.refl _ _).alloc (Nat.le_refl _) _).alloc (by simp) _⟩
  exact (hD.footLt hk).1

/-! ### Script -/
/-- Numbers in a slice that came in. -/
def IntsAt (w : World) (a : Option Addr) (l : List Int) : Prop := ∀ i y, l[i]? = some y → ∃ b off, a = some ⟨b, off, none⟩ ∧ b < w.heap.size ∧ w.cell? ⟨b, off + i, none⟩ = some (.int .i64 y)

theorem cloneI_any (a : Option Addr) (l : List Int) (c : Nat) (w : World) (h : IntsAt w a l) (hb : l.length ≤ 17592186044416) :
    Calls Try.prog 31 #[.slice a l.length c] w fun e w' => ∃ v', e = .returned v' ∧ w'.ownsRow w.heap.size 3 1 v' l.length (l.map (Value.int .i64)) ∧ Below w.heap.size w w' := by
  cases a with
  | none =>
    refine (Any.slices_Clone_int_nil laysCloneI l.length c w).mono ?_
    rintro e w' ⟨rfl, rfl⟩
    have : l = [] := by
      cases l with
      | nil => rfl
      | cons y r => obtain ⟨b, off, e, _⟩ := h 0 y rfl; cases e
    subst this
    exact ⟨_, rfl, World.ownsRow_nil _ _ _ _, Below.refl _ _⟩
  | some A =>
    by_cases hz : l = []
    · subst hz
      refine (Any.slices_Clone_int_zero laysCloneI A c w).mono ?_
      rintro e w' ⟨v', rfl, h1, _, h3⟩
      exact ⟨v', rfl, h1, h3⟩
    obtain ⟨b, off, s⟩ := A
    obtain rfl : s = none := by
      obtain ⟨y, r, rfl⟩ : ∃ y r, l = y :: r := List.exists_cons_of_ne_nil hz
      obtain ⟨b', off', e, _⟩ := h 0 y rfl
      cases e
      rfl
    refine (Any.slices_Clone_int laysCloneI b off l.length c l w (Nat.le_refl _) (by omega) (fun j hj => ?_)).mono ?_
    · obtain ⟨b', off', e, _, hc⟩ := h j l[j] (List.getElem?_eq_getElem hj)
      cases e
      rw [hc]
      simp [List.getD, hj]
    · rintro e w' ⟨v', rfl, h1, _, h3⟩
      rw [List.take_length] at h1
      exact ⟨v', rfl, h1, h3⟩

def setS (S : Rs) (l : List Int) : Rs := { S with sc := l }

/-- A row that the program owns is a script. -/
theorem sc_of_owns {B B' : Nat} {w : World} {v : Value} {l : List Int} {pb mb : Nat} (h : w.ownsRow B' 3 1 v l.length (l.map (Value.int .i64))) (hB : B ≤ B') (hp : pb < B') (hm : mb < B') : Sc B w pb mb v l := by
  rcases owns_cases h with ⟨rfl, h0, _⟩ | ⟨g, cap, cur, rfl, hBg, hgl, hg, hcap, hcm, hs, hl, hcur, hcell, _, _⟩
  · obtain rfl : l = [] := List.eq_nil_of_length_eq_zero h0
    exact ⟨none, 0, rfl, Nat.le_refl _, by unfold maxLen; omega, fun _ => rfl, fun A hA => (by cases hA)⟩
  · refine ⟨_, cap, rfl, hcap, hcm, (fun e => by cases e), fun A hA => ?_⟩
    cases hA
    refine ⟨g, 0, rfl, by omega, hgl, by omega, by omega, fun i y hy => ?_⟩
    have hi : i < l.length := (List.getElem?_eq_some_iff.1 hy).1
    rw [Nat.zero_add, hcell i hi, List.getElem?_map, hy]
    rfl

theorem script_any {B pb mb : Nat} {sv : Value} {S : Rs} {w : World} (h : Rk B w pb mb sv S) (a : Option Addr) (l : List Int) (c : Nat) (hl : IntsAt w a l) (hb : l.length ≤ 17592186044416) (hr : ∀ y ∈ l, -9223372036854775808 ≤ y ∧ y ≤ 9223372036854775807) :
    Calls Try.prog 19 #[.pointer (some ⟨pb, 0, none⟩), .slice a l.length c] w fun e w' => e = .returned (.tuple #[]) ∧ RkStep B pb mb sv w (setS S l) w' := by
  have hc := Lib.hid (cloneI_any a l c w hl hb)
  have hlt := h.lt.1
  have H := Lib.hid h; clear h
  have HR := Lib.hid hr; clear hr hl
  go_enter Try.func19, Try.ntmps19
  go_wp2_with fail
  refine hc.out.mono ?_
  rintro e w1 ⟨v, rfl, hown, hb1⟩
  have h1 := H.out.below hb1
  have hsc : Sc B w1 pb mb v l := sc_of_owns hown H.out.base.2.2.2 H.out.lt.1 H.out.lt.2
  obtain ⟨va, vc, rfl⟩ : ∃ va vc, v = .slice va l.length vc := by obtain ⟨va, vc, e, _⟩ := hsc; exact ⟨va, vc, e⟩
  obtain ⟨c0, c1, c2, fz⟩ := h1.cells
  have f1 := fz 1
  clear fz
  have ht := turn_head w1 pb 1 (.slice va l.length vc)
  have hstep : RkStep B pb mb sv w (setS S l) (w1.setCell ⟨pb, 1, none⟩ (.slice va l.length vc)) := by
    refine ⟨.slice va l.length vc, h1.head (sc' := l) (n' := S.n) ht (h1.setAt 1 _) (hsc.kept (by simp [World.setCell]) (fun k off n c hk e => ht.block k hk (fun ek => ?_))) { H.out.ok with nums := HR.out }, fun k hk => ?_, (Turn.of_below _ hb1 (Nat.le_refl _)).trans (ht.mono (fun k _ e => Or.inl e))⟩
    · have hin := hown.lt
      obtain ⟨_, _, e', _, _, _, hA⟩ := hsc
      rw [e'] at e
      injection e with e1
      obtain ⟨g, o, eA, _, _, hp, _⟩ := hA _ e1
      injection eA with eg
      exact hp (eg ▸ ek)
    · rcases hk with rfl | rfl | ⟨o, n, c', e⟩
      · exact Or.inl (Or.inl rfl)
      · exact Or.inl (Or.inr (Or.inl rfl))
      · right
        rcases owns_cases hown with ⟨e0, _, _⟩ | ⟨g, cap, cur, e0, hBg, _⟩
        · rw [e0] at e; cases e
        · rw [e0] at e
          injection e with e1
          injection e1 with e1
          injection e1 with e1
          omega
  have HS := Lib.hid hstep
  clear hstep hsc hown ht h1
  go_wp2_with fail
  go_end0
  exact ⟨rfl, HS.out⟩
end Go.Proofs.Ytadfajeiihonfaa
