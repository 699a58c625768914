/- What the closure of package hint's entries returns, and what it does to the two variables that it captures. -/
import Derived.Test.YtdifecclldkhpaaHbytes
namespace Go.Proofs.Ytdifecclldkhpaa
open Go.RowKit

/-- Nothing that was there has turned; the first two new blocks are the variables that the closure captures: the bytes that are left, and whether all went well. -/
def Sb (w0 : World) (s : List UInt8) (ok : Bool) (W : World) : Prop :=
  Below w0.heap.size w0 W ∧ W.heap[w0.heap.size]? = some (.cells #[.string (bs s)] 9 (0, 0)) ∧ W.heap[w0.heap.size + 1]? = some (.cells #[.bool ok] 4 (0, 0))

/-- No block from B on has turned. -/
def Past (B : Nat) (W W' : World) : Prop := W.heap.size ≤ W'.heap.size ∧ ∀ j, B ≤ j → j < W.heap.size → W'.heap[j]? = W.heap[j]?

theorem Past.refl (B : Nat) (W : World) : Past B W W := ⟨Nat.le_refl _, fun _ _ _ => rfl⟩
theorem Past.trans {B : Nat} {W W' W'' : World} (h : Past B W W') (h2 : Past B W' W'') : Past B W W'' :=
  ⟨Nat.le_trans h.1 h2.1, fun j hj hlt => (h2.2 j hj (Nat.lt_of_lt_of_le hlt h.1)).trans (h.2 j hj hlt)⟩
theorem Past.below {B : Nat} {W W' : World} (h : Below W.heap.size W W') : Past B W W' := ⟨h.size, fun j _ hlt => h.block j hlt⟩
theorem Past.store {B : Nat} {W : World} {a : Addr} (ha : a.block < B) (v : Value) : Past B W (W.setCell a v) :=
  ⟨by simp, fun j hj _ => Below.heap_setCell _ _ _ _ (by omega)⟩
theorem Past.own {B : Nat} {W W' : World} (h : Past B W W') {n : Nat} {e : TypeId} {size : Nat} {v : Value} {xs : List Value} (ho : W.ownsRow B e size v n xs) : W'.ownsRow B e size v n xs := by
  have hl := ho.lt
  refine ⟨ho.1, ?_⟩
  rcases ho.2 with hn | ⟨g, cap, cur, rfl, hbg, hg, rest⟩
  · exact .inl hn
  · exact .inr ⟨g, cap, cur, rfl, hbg, by rw [h.2 g (hl g rfl).1 (hl g rfl).2]; exact hg, rest⟩

section
variable {w0 W W' : World} {s : List UInt8} {ok : Bool}
theorem Sb.lt (h : Sb w0 s ok W) : w0.heap.size + 1 < W.heap.size := lt_of_block h.2.2
theorem Sb.call (h : Sb w0 s ok W) (b : Below W.heap.size W W') : Sb w0 s ok W' := by
  have hl := h.lt
  have hz := b.size
  exact ⟨h.1.trans (b.mono h.1.size), by rw [b.block _ (by omega)]; exact h.2.1, by rw [b.block _ hl]; exact h.2.2⟩
theorem Sb.drew (h : Sb w0 s ok W) : Sb w0 s ok W.drew := ⟨h.1.drew, h.2⟩
theorem Sb.alloc (h : Sb w0 s ok W) (o : Obj) : Sb w0 s ok (W.alloc o) := h.call ((Below.refl _ _).alloc (Nat.le_refl _) _)
theorem Sb.cells (h : Sb w0 s ok W) : W.cell? ⟨w0.heap.size, 0, none⟩ = some (.string (bs s)) ∧ W.cell? ⟨w0.heap.size + 1, 0, none⟩ = some (.bool ok) ∧ W.frozen? ⟨w0.heap.size, 0, none⟩ = false ∧ W.frozen? ⟨w0.heap.size + 1, 0, none⟩ = false :=
  ⟨cell_of_one h.2.1, cell_of_one h.2.2, free_of_one h.2.1, free_of_one h.2.2⟩
theorem Sb.put (h : Sb w0 s ok W) (t : List UInt8) : Sb w0 t ok (W.setCell ⟨w0.heap.size, 0, none⟩ (.string (bs t))) :=
  ⟨h.1.setCell (p := ⟨w0.heap.size, 0, none⟩) (Nat.le_refl _) _, one_setCell h.2.1, by rw [Below.heap_setCell _ _ _ _ (by show w0.heap.size + 1 ≠ w0.heap.size; omega)]; exact h.2.2⟩
theorem Sb.set (h : Sb w0 s ok W) (b : Bool) : Sb w0 s b (W.setCell ⟨w0.heap.size + 1, 0, none⟩ (.bool b)) :=
  ⟨h.1.setCell (p := ⟨w0.heap.size + 1, 0, none⟩) (Nat.le_succ _) _, by rw [Below.heap_setCell _ _ _ _ (by show w0.heap.size ≠ w0.heap.size + 1; omega)]; exact h.2.1, one_setCell h.2.2⟩
theorem Sb.keep (h : Sb w0 s ok W) (b : Below w0.heap.size w0 W') (k : W'.heap[w0.heap.size]? = W.heap[w0.heap.size]?) (k2 : W'.heap[w0.heap.size + 1]? = W.heap[w0.heap.size + 1]?) : Sb w0 s ok W' := ⟨b, by rw [k]; exact h.2.1, by rw [k2]; exact h.2.2⟩
end

/-- What the closure leaves. -/
def NmPost (w0 : World) (most : Nat) (s : List UInt8) (ok : Bool) (W : World) (e : Ending) (W' : World) : Prop :=
  e = .returned (.int .u64 (((nm most s).1 : Nat) : Int)) ∧ Sb w0 (nm most s).2.1 (ok && (nm most s).2.2) W' ∧ Past (w0.heap.size + 2) W W'

theorem NmPost.no {w0 : World} {most : Nat} {s : List UInt8} {ok : Bool} {W W' : World} (h : nm most s = (0, s, false)) (hb : Sb w0 s ok W') (hp : Past (w0.heap.size + 2) W W') :
    NmPost w0 most s ok W (.returned (.int .u64 0)) (W'.setCell ⟨w0.heap.size + 1, 0, none⟩ (.bool false)) := by
  refine ⟨by rw [h]; rfl, ?_, hp.trans (Past.store (by show w0.heap.size + 1 < w0.heap.size + 2; omega) _)⟩
  rw [h, Bool.and_false]
  exact hb.set false
theorem NmPost.yes {w0 : World} {most n : Nat} {s r : List UInt8} {ok : Bool} {W W' : World} (h : nm most s = (n, r, true)) (hb : Sb w0 s ok W') (hp : Past (w0.heap.size + 2) W W') :
    NmPost w0 most s ok W (.returned (.int .u64 (n : Int))) (W'.setCell ⟨w0.heap.size, 0, none⟩ (.string (bs r))) := by
  refine ⟨by rw [h], ?_, hp.trans (Past.store (by show w0.heap.size < w0.heap.size + 2; omega) _)⟩
  rw [h, Bool.and_true]
  exact hb.put r

theorem takes_of (s : List UInt8) (hs : s.length ≤ 9223372036854775807) (n : Nat) (r : List UInt8) (e : Nat) (h : tk s = (n, r, e)) (w : World) :
    Calls Try.prog 57 #[.string (bs s)] w fun x w' => x = .returned (.tuple #[.int .u64 (n : Nat), .string (bs r), .int .i64 (e : Nat)]) ∧ Below w.heap.size w w' :=
  take_of (bs s) (by rw [bs_size]; exact hs) n r e (by rw [bs_list]; exact h) w

set_option maxRecDepth 100000 in
set_option maxHeartbeats 400000 in
theorem number_any (w0 : World) (most : Nat) (s : List UInt8) (ok : Bool) (W : World) (h : Sb w0 s ok W) (hs : s.length ≤ 9223372036854775807) :
    Calls Try.prog 56 #[.int .u64 (most : Int), .pointer (some ⟨w0.heap.size, 0, none⟩), .pointer (some ⟨w0.heap.size + 1, 0, none⟩)] W (NmPost w0 most s ok W) := by
  obtain ⟨n, r, er, ht⟩ : ∃ n r e, tk s = (n, r, e) := ⟨_, _, _, rfl⟩
  have H1 := Lib.hid fun w => takes_of s hs n r er ht w
  obtain ⟨c0, c1, f0, f1⟩ := h.cells
  have HS := Lib.hid h
  by_cases he : er = 0
  · subst he
    have hn := (tk_rest_le _ ht).1
    have hnm : n ≤ 18446744073709551615 := by unfold M64 at hn; omega
    by_cases hb : most < n
    · have HE := Lib.hid (nm_big ht hb)
      have hbi : (most : Int) < (n : Int) := by omega
      clear h ht hn hb
      generalize hS : bs s = S at *
      generalize hR : bs r = R at *
      clear hS hR
      go_enter Try.func56, Try.ntmps56
      go_wp2_with fail
      (with_reducible refine (H1.out _).mono ?_)
      rintro e w1 ⟨rfl, b1⟩
      have S1 := HS.out.call b1
      have P1 : Past (w0.heap.size + 2) W w1 := Past.below b1
      obtain ⟨d0, d1, e0, e1⟩ := S1.cells
      have HS1 := Lib.hid S1
      have HP1 := Lib.hid P1
      clear S1 P1 b1
      go_wp2_with fail
      go_ret
      exact NmPost.no HE.out HS1.out HP1.out
    · have HE := Lib.hid (nm_yes ht (by omega : n ≤ most))
      have hbi : ¬ (most : Int) < (n : Int) := by omega
      clear h ht hn hb
      generalize hS : bs s = S at *
      generalize hR : bs r = R at *
      have HRR := Lib.hid hR
      clear hS hR
      go_enter Try.func56, Try.ntmps56
      go_wp2_with fail
      (with_reducible refine (H1.out _).mono ?_)
      rintro e w1 ⟨rfl, b1⟩
      have S1 := HS.out.call b1
      have P1 : Past (w0.heap.size + 2) W w1 := Past.below b1
      obtain ⟨d0, d1, e0, e1⟩ := S1.cells
      have HS1 := Lib.hid S1
      have HP1 := Lib.hid P1
      clear S1 P1 b1
      go_wp2_with fail
      go_ret
      rw [← HRR.out]
      exact NmPost.yes HE.out HS1.out HP1.out
  · have HE := Lib.hid (nm_err (most := most) ht he)
    have hb0 : ((er : Int) != 0) = true := by rw [bne_iff_ne]; omega
    clear h ht
    generalize hS : bs s = S at *
    generalize hR : bs r = R at *
    clear hS hR
    go_enter Try.func56, Try.ntmps56
    go_wp2_with fail
    (with_reducible refine (H1.out _).mono ?_)
    rintro e w1 ⟨rfl, b1⟩
    have S1 := HS.out.call b1
    have P1 : Past (w0.heap.size + 2) W w1 := Past.below b1
    obtain ⟨d0, d1, e0, e1⟩ := S1.cells
    have HS1 := Lib.hid S1
    have HP1 := Lib.hid P1
    clear S1 P1 b1
    go_wp2_with fail
    go_ret
    exact NmPost.no HE.out HS1.out HP1.out

theorem number_of {w0 : World} {most : Nat} {s r : List UInt8} {n : Nat} {ok k : Bool} (m : Int) (hm : m = (most : Int)) (hn : nm most s = (n, r, k)) (W : World) (h : Sb w0 s ok W) (hs : s.length ≤ 9223372036854775807) :
    Calls Try.prog 56 #[.int .u64 m, .pointer (some ⟨w0.heap.size, 0, none⟩), .pointer (some ⟨w0.heap.size + 1, 0, none⟩)] W fun e W' => e = .returned (.int .u64 (n : Int)) ∧ Sb w0 r (ok && k) W' ∧ Past (w0.heap.size + 2) W W' := by
  subst hm
  refine (number_any w0 most s ok W h hs).mono ?_
  intro e W' hp
  unfold NmPost at hp
  rwa [hn] at hp

end Go.Proofs.Ytdifecclldkhpaa
