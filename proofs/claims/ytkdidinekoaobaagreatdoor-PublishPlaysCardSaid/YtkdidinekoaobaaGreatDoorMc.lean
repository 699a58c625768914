/- Merged out of 2 texts, in build order: Mawake, Mwhole. -/
import Derived.Test.YtkdidinekoaobaaGreatDoorMb
import Derived.Test.YtkdidinekoaobaaGreatDoorBb

/- The first, small test of every law of layer 7. -/
namespace Go.Proofs.YtkdidinekoaobaaGreatDoor.M
open Go.RowKit Go.Maps
set_option linter.unusedVariables false

theorem script_m {B pb : Nat} {S : Rs} {w : World} {F : Nat → Prop} (h : RkS B w pb F S) (a : Option Addr) (l : List Int) (c : Nat) (hl : IntsAt w a l) (hb : l.length ≤ 17592186044416) (hr : ∀ y ∈ l, -9223372036854775808 ≤ y ∧ y ≤ 9223372036854775807) :
    Calls Tryz.prog 20 #[.pointer (some ⟨pb, 0, none⟩), .slice a l.length c] w (RkPost B pb F (setS S l) (.tuple #[]) w) :=
  h.step (fun mb sv hk => script_any hk a l c hl hb hr)

def sA1 : Rs := ⟨[], [2, 1], 0⟩
def sA2 : Rs := ⟨[⟨[97], [120]⟩], [1], 1⟩
def sA3 : Rs := ⟨[⟨[97], [120]⟩], [], 2⟩
def sA4 : Rs := ⟨[⟨[97], [120]⟩], [], 3⟩
def sA5 : Rs := ⟨[⟨[97], [120]⟩], [], 4⟩
theorem aw1 : setS newS [2, 1] = sA1 := rfl
theorem aw2 : takes sA1 (lays sA1.obs [97] [120]) = sA2 ∧ errOf sA1 0 = 9 := ⟨rfl, rfl⟩
theorem aw3 : takes sA2 (lays sA2.obs [98] [121]) = sA3 ∧ errOf sA2 0 = 9 := ⟨rfl, rfl⟩
theorem aw4 : used sA3 = sA4 ∧ bytesIf sA3 (getB sA3.obs [97]) = [120] ∧ errOf sA3 (getE sA3.obs [97]) = 0 := ⟨rfl, rfl, rfl⟩
theorem aw5 : used sA4 = sA5 ∧ bytesIf sA4 (getB sA4.obs [98]) = [] ∧ errOf sA4 (getE sA4.obs [98]) = 5 := ⟨rfl, rfl, rfl⟩
theorem aw6 : errOf sA5 (newE sA5.obs [97]) = 7 := rfl

/-- Numbers in a new block. -/
theorem ints_lit {w : World} {g : Nat} {l : List Int} {T : TypeId} (h : w.heap[g]? = some (.cells (l.map (Value.int .i64)).toArray T (0, 0))) : IntsAt w (some ⟨g, 0, none⟩) l := fun i y hy =>
  ⟨g, 0, rfl, (Array.getElem?_eq_some_iff.1 h).1, by rw [Nat.zero_add, cell_of_row w g i _ _ (0, 0) h]; simp [hy]⟩
end Go.Proofs.YtkdidinekoaobaaGreatDoor.M

/- RemoteWhole: the walk. -/
namespace Go.Proofs.YtkdidinekoaobaaGreatDoor.M
open Go.RowKit Go.Maps
set_option linter.unusedVariables false

/-- A remote somewhere among the blocks from B on. -/
def RkB (B : Nat) (w : World) (pb : Nat) (S : Rs) : Prop := ∃ F, RkS B w pb F S
theorem RkPost.b {B pb : Nat} {F : Nat → Prop} {S S' : Rs} {r : Value} {w : World} (h : RkS B w pb F S) {e : Ending} {w' : World} (k : RkPost B pb F S' r w e w') : e = .returned r ∧ RkB B w' pb S' ∧ Below B w w' := by
  obtain ⟨rfl, F', h', hF, t⟩ := k
  exact ⟨rfl, ⟨F', h'⟩, t.below (fun k hk => (h.lt hk).1) h.size⟩

section
variable {B pb : Nat} {S : Rs} {w : World} {n b : List UInt8} (h : RkB B w pb S) (hn : n.length ≤ maxLen) (hc : S.n < 1000000000000)
include h hn hc
theorem put_b (hf : S.obs.length < 1000000000) {S' : Rs} {x : Int} (hS : takes S (lays S.obs n b) = S' ∧ errOf S 0 = x) : Calls Tryz.prog 21 #[.pointer (some ⟨pb, 0, none⟩), .string (bs n), .string (bs b)] w fun e w' => e = .returned (.int .i64 x) ∧ RkB B w' pb S' ∧ Below B w w' := by
  obtain ⟨rfl, rfl⟩ := hS
  obtain ⟨F, h⟩ := h
  exact (put_m h hn hc hf).mono fun _ _ k => RkPost.b h k
theorem putNew_b (hf : S.obs.length < 1000000000) {S' : Rs} {x : Int} (hS : takes S (newL S.obs n b) = S' ∧ errOf S (newE S.obs n) = x) : Calls Tryz.prog 75 #[.pointer (some ⟨pb, 0, none⟩), .string (bs n), .string (bs b)] w fun e w' => e = .returned (.int .i64 x) ∧ RkB B w' pb S' ∧ Below B w w' := by
  obtain ⟨rfl, rfl⟩ := hS
  obtain ⟨F, h⟩ := h
  exact (putNew_m h hn hc hf).mono fun _ _ k => RkPost.b h k
theorem get_b {S' : Rs} {t : List UInt8} {x : Int} (hS : used S = S' ∧ bytesIf S (getB S.obs n) = t ∧ errOf S (getE S.obs n) = x) : Calls Tryz.prog 45 #[.pointer (some ⟨pb, 0, none⟩), .string (bs n)] w fun e w' => e = .returned (.tuple #[.string (bs t), .int .i64 x]) ∧ RkB B w' pb S' ∧ Below B w w' := by
  obtain ⟨rfl, rfl, rfl⟩ := hS
  obtain ⟨F, h⟩ := h
  exact (get_m h hn hc).mono fun _ _ k => RkPost.b h k
end

theorem calls_b {B pb : Nat} {w : World} {S : Rs} (h : RkB B w pb S) : Calls Tryz.prog 25 #[.pointer (some ⟨pb, 0, none⟩)] w fun e w' => e = .returned (.int .i64 S.n) ∧ w = w' := by
  obtain ⟨F, h⟩ := h
  exact calls_any h

/-- A script of one fate, out of a new block. -/
theorem script_one {B pb : Nat} {w : World} {S : Rs} (h : RkB B w pb S) (f : Int) (hf : -9223372036854775808 ≤ f ∧ f ≤ 9223372036854775807) :
    Calls Tryz.prog 20 #[.pointer (some ⟨pb, 0, none⟩), .slice (some ⟨w.heap.size, 0, none⟩) 1 1] (w.alloc (.cells #[.int .i64 f] 3)) fun e w' => e = .returned (.tuple #[]) ∧ RkB B w' pb (setS S [f]) ∧ Below B w w' := by
  obtain ⟨F, h⟩ := h
  have hb : Below w.heap.size w (w.alloc (.cells #[.int .i64 f] 3)) := (Below.refl _ w).alloc (Nat.le_refl _) _
  have h1 := h.below hb
  refine (script_m h1 (some ⟨w.heap.size, 0, none⟩) [f] 1 (ints_lit (heap_alloc_new w (.cells #[.int .i64 f] 3))) (by simp) (by simpa using hf)).mono fun e w' k => ?_
  obtain ⟨e1, h2, b2⟩ := RkPost.b h1 k
  exact ⟨e1, h2, (hb.mono h.size).trans b2⟩
end Go.Proofs.YtkdidinekoaobaaGreatDoor.M
