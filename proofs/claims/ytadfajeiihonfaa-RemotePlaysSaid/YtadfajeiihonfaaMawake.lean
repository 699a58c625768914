/- The first, small test of every law of layer 7. -/
import Derived.Test.YtadfajeiihonfaaMcalls
namespace Go.Proofs.Ytadfajeiihonfaa
open Go.RowKit Go.Maps
set_option linter.unusedVariables false

theorem script_m {B pb : Nat} {S : Rs} {w : World} {F : Nat → Prop} (h : RkS B w pb F S) (a : Option Addr) (l : List Int) (c : Nat) (hl : IntsAt w a l) (hb : l.length ≤ 17592186044416) (hr : ∀ y ∈ l, -9223372036854775808 ≤ y ∧ y ≤ 9223372036854775807) :
    Calls Try.prog 19 #[.pointer (some ⟨pb, 0, none⟩), .slice a l.length c] w (RkPost B pb F (setS S l) (.tuple #[]) w) :=
  h.step (fun mb sv hk => script_any hk a l c hl hb hr)

def sA1 : Rs := ⟨[], [2, 1], 0⟩
def sA2 : Rs := ⟨[⟨[97], [120]⟩], [1], 1⟩
def sA3 : Rs := ⟨[⟨[97], [120]⟩], [], 2⟩
def sA4 : Rs := ⟨[⟨[97], [120]⟩], [], 3⟩
def sA5 : Rs := ⟨[⟨[97], [120]⟩], [], 4⟩
theorem aw1 : setS newS [2, 1] = sA1 := rfl
theorem aw2 : takes sA1 (lays sA1.obs [97] [120]) = sA2 ∧ errOf sA1 0 = 9 := ⟨rfl, rfl⟩
theorem aw3 : takes sA2 (lays sA2.obs [98] [121]) = sA3 ∧ errOf sA2 0 = 9 := ⟨rfl, rfl⟩
theorem aw4 : used sA3 = sA4 ∧ bytesIf sA3 (getB sA3.obs [97]) = [120] ∧ errOf sA3 (getE sA3.obs [97]) = 0 := ⟨rfl, rfl, rfl⟩
theorem aw5 : used sA4 = sA5 ∧ bytesIf sA4 (getB sA4.obs [98]) = [] ∧ errOf sA4 (getE sA4.obs [98]) = 5 := ⟨rfl, rfl, rfl⟩
theorem aw6 : errOf sA5 (newE sA5.obs [97]) = 7 := rfl

/-- Numbers in a new block. -/
theorem ints_lit {w : World} {g : Nat} {l : List Int} {T : TypeId} (h : w.heap[g]? = some (.cells (l.map (Value.int .i64)).toArray T (0, 0))) : IntsAt w (some ⟨g, 0, none⟩) l := fun i y hy =>
  ⟨g, 0, rfl, (Array.getElem?_eq_some_iff.1 h).1, by rw [Nat.zero_add, cell_of_row w g i _ _ (0, 0) h]; simp [hy]⟩

set_option maxHeartbeats 2000000 in
set_option maxRecDepth 100000 in
theorem awake_any (w : World) : Calls Try.prog 6 #[] w fun e w' => e = .returned (.bool true) ∧ Below w.heap.size w w' := by
  have hL : ∀ n : Nat, n ≤ 2 → n ≤ maxLen := fun n hn => by unfold maxLen; omega
  go_enter Try.func6, Try.ntmps6
  go_wp2_with fail
  refine (new_any w).mono ?_
  rintro e w1 ⟨pb, F, rfl, h1, hF, hb1⟩
  go_wp2_with fail
  have g1 : RkS w.heap.size (w1.alloc (.cells #[.int .i64 2, .int .i64 1] 3)) pb F newS := h1.below ((Below.refl _ w1).alloc (Nat.le_refl _) _)
  have s1 := h1.size
  have hba : Below w.heap.size w (w1.alloc (.cells #[.int .i64 2, .int .i64 1] 3)) := hb1.alloc s1 _
  refine (script_m g1 (some ⟨w1.heap.size, 0, none⟩) [2, 1] 2 (ints_lit (heap_alloc_new w1 (.cells #[.int .i64 2, .int .i64 1] 3))) (by simp) (by simp)).mono ?_
  rintro e w2 ⟨rfl, F2, h2, hF2, t2⟩
  rw [aw1] at h2
  have s2 : w.heap.size ≤ w2.heap.size := h2.size
  have e2 : Below w.heap.size w w2 := hba.trans (t2.below hF (by simp; omega))
  have hF2' : ∀ k, F2 k → w.heap.size ≤ k := fun k hk => (h2.lt hk).1
  go_wp2_with fail
  have c3 := put_m (n := [97]) (b := [120]) h2 (hL 1 (by omega)) (by simp [sA1]) (by simp [sA1])
  rw [aw2.1, aw2.2] at c3
  refine c3.mono ?_
  rintro e w3 ⟨rfl, F3, h3, hF3, t3⟩
  clear c3
  have e3 : Below w.heap.size w w3 := e2.trans (t3.below hF2' s2)
  have s3 : w.heap.size ≤ w3.heap.size := h3.size
  have hF3' : ∀ k, F3 k → w.heap.size ≤ k := fun k hk => (h3.lt hk).1
  go_wp2_with fail
  have c4 := put_m (n := [98]) (b := [121]) h3 (hL 1 (by omega)) (by simp [sA2]) (by simp [sA2])
  rw [aw3.1, aw3.2] at c4
  refine c4.mono ?_
  rintro e w4 ⟨rfl, F4, h4, hF4, t4⟩
  clear c4
  have e4 : Below w.heap.size w w4 := e3.trans (t4.below hF3' s3)
  have s4 : w.heap.size ≤ w4.heap.size := h4.size
  have hF4' : ∀ k, F4 k → w.heap.size ≤ k := fun k hk => (h4.lt hk).1
  go_wp2_with fail
  have c5 := get_m (n := [97]) h4 (hL 1 (by omega)) (by simp [sA3])
  rw [aw4.1, aw4.2.1, aw4.2.2] at c5
  refine c5.mono ?_
  rintro e w5 ⟨rfl, F5, h5, hF5, t5⟩
  clear c5
  have e5 : Below w.heap.size w w5 := e4.trans (t5.below hF4' s4)
  have s5 : w.heap.size ≤ w5.heap.size := h5.size
  have hF5' : ∀ k, F5 k → w.heap.size ≤ k := fun k hk => (h5.lt hk).1
  go_wp2_with fail
  have c6 := get_m (n := [98]) h5 (hL 1 (by omega)) (by simp [sA4])
  rw [aw5.1, aw5.2.1, aw5.2.2] at c6
  refine c6.mono ?_
  rintro e w6 ⟨rfl, F6, h6, hF6, t6⟩
  clear c6
  have e6 : Below w.heap.size w w6 := e5.trans (t6.below hF5' s5)
  have s6 : w.heap.size ≤ w6.heap.size := h6.size
  have hF6' : ∀ k, F6 k → w.heap.size ≤ k := fun k hk => (h6.lt hk).1
  rw [show bs [120] = ⟨#[120]⟩ from rfl]
  go_wp2_with fail
  refine (calls_any h6).mono ?_
  rintro e w7 ⟨rfl, rfl⟩
  rw [show sA5.n = 4 from rfl]
  go_wp2_with fail
  have c8 := putNew_m (n := [97]) (b := [122]) h6 (hL 1 (by omega)) (by simp [sA5]) (by simp [sA5])
  rw [aw6] at c8
  refine c8.mono ?_
  rintro e w8 ⟨rfl, F8, h8, hF8, t8⟩
  clear c8
  have e8 : Below w.heap.size w w8 := e6.trans (t8.below hF6' s6)
  go_wp2_with fail
  go_ret
  exact ⟨rfl, e8⟩
end Go.Proofs.Ytadfajeiihonfaa
