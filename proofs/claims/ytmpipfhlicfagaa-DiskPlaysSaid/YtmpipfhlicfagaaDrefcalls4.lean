/- The document's disk: its calls, further: Read, Size, Fuse, New, Strings. -/
import Derived.Test.YtmpipfhlicfagaaDrefcalls3
namespace Go.Proofs.Ytmpipfhlicfagaa
open Go.RowKit
set_option linter.unusedVariables false

theorem bs_mid (s : List UInt8) (i j : Nat) : (bs s).extract i (i + j) = bs ((s.drop i).take j) := by
  apply ByteArray.ext
  apply Array.ext'
  simp [bs, List.take_drop]

theorem slice_mid (s : List UInt8) (i j : Nat) (hij : i + j ≤ s.length) (W : World) :
    (Instr.slice 9 (.string (bs s)) (some (.int .i64 (i : Int))) (some (.int .i64 ((i : Int) + (j : Int)))) none).run Try.prog W = .ok (.string (bs ((s.drop i).take j))) W := by
  rw [run_slice_string (P := Try.prog) (w := W) 9 (bs s) .i64 .i64 (i : Int) ((i : Int) + (j : Int)) (by kernel_rfl) (by omega) (by omega) (by rw [bs_size]; omega), Int.toNat_natCast, show ((i : Int) + (j : Int)).toNat = i + j by omega, bs_mid]

set_option maxHeartbeats 2000000 in
theorem refread_any {B qb : Nat} {lv : Value} {S : St} {w : World} {n : List UInt8} {off m : Int} (h : Rf B w qb lv S) (ho1 : -9223372036854775808 ≤ off) (ho2 : off ≤ 9223372036854775807) (hm1 : -9223372036854775808 ≤ m) (hm2 : m ≤ 9223372036854775807) (hcs : S.fs.length < 1000000000) :
    Calls Try.prog 27 #[.pointer (some ⟨qb, 0, none⟩), .string (bs n), .int .i64 off, .int .i64 m] w fun e w' => e = .returned (.tuple #[.string (bs (rdB S n off m)), .int .i64 (rdE S n off m)]) ∧ w = w' := by
  cases hf : find S.fs n with
  | none =>
    have e1 : rdB S n off m = [] := by simp [rdB, hf]
    have e2 : rdE S n off m = 5 := by simp [rdE, hf]
    rw [e1, e2]
    have hat := refat_no h hf hcs
    clear hf e1 e2
    go_enter Try.func27, Try.ntmps27
    go_wp2_with fail
    refine hat.mono ?_
    rintro e w1 ⟨rfl, rfl⟩
    go_wp2_with fail
    go_ret2
    exact ⟨rfl, rfl⟩
  | some f =>
    obtain ⟨i0, hi, hfn⟩ := find_at hf
    have hat := refat_yes h hi hfn hcs
    have hfm := (find_mem hf).1
    have hfl := len_le h.good hfm
    have hszi : ((bs f.bt).size : Int) = f.bt.length := by rw [bs_size]
    have HSZ := Lib.hid hszi
    have hsz : (bs f.bt).size ≤ 1048576 := by rw [bs_size]; exact hfl
    clear hszi
    obtain ⟨c0, c1, c2, c3, fz⟩ := h.cells
    clear fz
    obtain ⟨a, cap, hv⟩ := files_form h.row
    subst hv
    obtain ⟨g, hg, _, hgl, d0, d1, d2⟩ := files_at h.row hi
    subst hg
    have hil : i0 < S.fs.length := (List.getElem?_eq_some_iff.1 hi).1
    by_cases hin : 0 ≤ off ∧ 0 ≤ m ∧ m ≤ f.bt.length - off
    · have e1 : rdB S n off m = (f.bt.drop off.toNat).take m.toNat := by simp only [rdB, hf]; rw [if_pos hin]
      have e2 : rdE S n off m = 0 := by simp only [rdE, hf]; rw [if_pos hin]
      rw [e1, e2]
      clear hf e1 e2 hi
      obtain ⟨hi1, hi2, hi3⟩ := hin
      obtain ⟨i, rfl⟩ : ∃ i : Nat, off = (i : Int) := ⟨off.toNat, by omega⟩
      obtain ⟨j, rfl⟩ : ∃ j : Nat, m = (j : Int) := ⟨m.toNat, by omega⟩
      have hij : i + j ≤ f.bt.length := by omega
      have hsl := slice_mid f.bt i j hij
      have T1 : (i : Int).toNat = i := Int.toNat_natCast i
      have T2 : (j : Int).toNat = j := Int.toNat_natCast j
      rw [T1, T2]
      clear T1 T2
      have r1 : (i : Int) ≤ ((bs f.bt).size : Int) := by rw [HSZ.out]; omega
      have r2 : (j : Int) ≤ ((bs f.bt).size : Int) - (i : Int) := by rw [HSZ.out]; omega
      clear ho1 hm1 hi1 hi2 hi3
      go_enter Try.func27, Try.ntmps27
      go_wp2_with fail
      refine hat.mono ?_
      rintro e w1 ⟨rfl, rfl⟩
      go_wp2_with fail
      go_ret2
      exact ⟨rfl, rfl⟩
    · have e1 : rdB S n off m = [] := by simp only [rdB, hf]; rw [if_neg hin]
      have e2 : rdE S n off m = 1 := by simp only [rdE, hf]; rw [if_neg hin]
      rw [e1, e2]
      clear hf e1 e2 hi
      by_cases h0 : off < 0
      · clear hin
        go_enter Try.func27, Try.ntmps27
        go_wp2_with fail
        refine hat.mono ?_
        rintro e w1 ⟨rfl, rfl⟩
        go_wp2_with fail
        go_ret2
        exact ⟨rfl, rfl⟩
      · have h0' : 0 ≤ off := by omega
        by_cases h1 : m < 0
        · clear hin h0
          go_enter Try.func27, Try.ntmps27
          go_wp2_with fail
          refine hat.mono ?_
          rintro e w1 ⟨rfl, rfl⟩
          go_wp2_with fail
          go_ret2
          exact ⟨rfl, rfl⟩
        · have h1' : 0 ≤ m := by omega
          by_cases h2 : ((bs f.bt).size : Int) < off
          · clear hin h0 h1
            go_enter Try.func27, Try.ntmps27
            go_wp2_with fail
            refine hat.mono ?_
            rintro e w1 ⟨rfl, rfl⟩
            go_wp2_with fail
            go_ret2
            exact ⟨rfl, rfl⟩
          · have h2' : off ≤ ((bs f.bt).size : Int) := by omega
            have h3 : ((bs f.bt).size : Int) - off < m := by rw [HSZ.out]; omega
            clear hin h0 h1 h2
            go_enter Try.func27, Try.ntmps27
            go_wp2_with fail
            refine hat.mono ?_
            rintro e w1 ⟨rfl, rfl⟩
            go_wp2_with fail
            go_ret2
            exact ⟨rfl, rfl⟩

theorem refsize_any {B qb : Nat} {lv : Value} {S : St} {w : World} {n : List UInt8} (h : Rf B w qb lv S) (hcs : S.fs.length < 1000000000) :
    Calls Try.prog 31 #[.pointer (some ⟨qb, 0, none⟩), .string (bs n)] w fun e w' => e = .returned (.tuple #[.int .i64 (szN S n), .int .i64 (szE S n)]) ∧ w = w' := by
  cases hf : find S.fs n with
  | none =>
    have e1 : szN S n = 0 := by simp [szN, hf]
    have e2 : szE S n = 5 := by simp [szE, hf]
    rw [e1, e2]
    have hat := refat_no h hf hcs
    clear hf e1 e2
    go_enter Try.func31, Try.ntmps31
    go_wp2_with fail
    refine hat.mono ?_
    rintro e w1 ⟨rfl, rfl⟩
    go_wp2_with fail
    go_ret2
    exact ⟨rfl, rfl⟩
  | some f =>
    obtain ⟨i0, hi, hfn⟩ := find_at hf
    have hat := refat_yes h hi hfn hcs
    have hfm := (find_mem hf).1
    have hfl := len_le h.good hfm
    have e1 : szN S n = ((bs f.bt).size : Nat) := by simp [szN, hf, bs_size]
    have e2 : szE S n = 0 := by simp [szE, hf]
    rw [e1, e2]
    have hsz : (bs f.bt).size ≤ 1048576 := by rw [bs_size]; exact hfl
    obtain ⟨c0, c1, c2, c3, fz⟩ := h.cells
    clear fz
    obtain ⟨a, cap, hv⟩ := files_form h.row
    subst hv
    obtain ⟨g, hg, _, hgl, d0, d1, d2⟩ := files_at h.row hi
    subst hg
    have hil : i0 < S.fs.length := (List.getElem?_eq_some_iff.1 hi).1
    clear hf e1 e2 hi
    go_enter Try.func31, Try.ntmps31
    go_wp2_with fail
    refine hat.mono ?_
    rintro e w1 ⟨rfl, rfl⟩
    go_wp2_with fail
    go_ret2
    exact ⟨rfl, rfl⟩

theorem good_fuS {S : St} (h : Good S) (n : Int) (hn : n ≤ 9223372036854775807) : Good (fuS S n) := by
  obtain ⟨g1, g2, g3, g4, g5, g6⟩ := h
  exact ⟨g1, g2, g3, g4, g5, by simp only [fuS]; omega⟩

theorem reffuse_any {B qb : Nat} {lv : Value} {S : St} {w : World} (h : Rf B w qb lv S) (n : Int) (h1 : -9223372036854775808 ≤ n) (h2 : n ≤ 9223372036854775807) :
    Calls Try.prog 20 #[.pointer (some ⟨qb, 0, none⟩), .int .i64 n] w (RfPost B qb lv (fuS S n) (.tuple #[]) w) := by
  obtain ⟨c0, c1, c2, c3, fz⟩ := h.cells
  have f2 := fz 2
  have HS := Lib.hid (h.setAt 2 (.int .i64 (max n (-1))))
  clear fz
  go_enter Try.func20, Try.ntmps20
  go_wp2
  go_end0
  refine rfpost_same (h.head (S' := fuS S n) (turn_head w qb 2 _) HS.out ?_ h.base.2.1 (good_fuS h.good n h2)) (turn_head w qb 2 _)
  exact owns_kept h.row (fun g hg => Below.heap_setCell _ _ _ _ (fun e => h.base.2.1 (by rw [hg, e])))

theorem refnew_no (room : Int) (w : World) (h : room < 0 ∨ 1048576 < room) (h1 : -9223372036854775808 ≤ room) (h2 : room ≤ 9223372036854775807) :
    Calls Try.prog 8 #[.int .i64 room] w fun e w' => e = .returned (.tuple #[.pointer none, .int .i64 1]) ∧ w = w' := by
  by_cases h0 : room < 0
  · clear h
    go_enter Try.func8, Try.ntmps8
    go_wp2
    go_ret2
    exact ⟨rfl, rfl⟩
  · have h3 : 1048576 < room := by omega
    have h4 : 0 ≤ room := by omega
    clear h
    go_enter Try.func8, Try.ntmps8
    go_wp2
    go_ret2
    exact ⟨rfl, rfl⟩

theorem refnew_yes (room : Int) (w : World) (h0 : 0 ≤ room) (h1 : room ≤ 1048576) : Calls Try.prog 8 #[.int .i64 room] w fun e w' =>
    e = .returned (.tuple #[.pointer (some ⟨w.heap.size, 0, none⟩), .int .i64 0]) ∧ Rf w.heap.size w' w.heap.size (.slice none 0 0) ⟨room, [], -1, false⟩ ∧ Below w.heap.size w w' := by
  have HR := Lib.hid h1
  go_enter Try.func8, Try.ntmps8
  go_wp2
  go_ret2
  refine ⟨rfl, ⟨heap_alloc_new w _, World.ownsRow_nil _ _ _ _, ⟨Nat.le_refl _, by simp [Value.ownBlock], by simp⟩, ⟨List.Pairwise.nil, fun f hf => (by cases hf), fun f hf => (by cases hf), by simp [total]; exact h0, HR.out, ⟨by simp, by simp⟩⟩⟩, (Below.refl _ _).alloc (Nat.le_refl _) _⟩

/-- Two rows of the same names are the same. -/
theorem strings_same {w : World} {Ba Bb : Nat} {a b : Option Addr} {ca cb : Nat} {ns : List (List UInt8)} (ha : w.ownsRow Ba 9 1 (.slice a ns.length ca) ns.length (strs ns)) (hb : w.ownsRow Bb 9 1 (.slice b ns.length cb) ns.length (strs ns)) (hn : ns.length < 1000000000) :
    Calls Try.prog 24 #[.slice a ns.length ca, .slice b ns.length cb] w fun e w' => e = .returned (.bool true) ∧ Below w.heap.size w w' := by
  obtain ⟨L, hL⟩ : ∃ L, L = ns.length := ⟨_, rfl⟩
  rw [← hL] at ha hb hn ⊢
  have HL := Lib.hid hL; have HA := Lib.hid ha; have HB := Lib.hid hb
  clear hL ha hb
  go_enter Try.func24, Try.ntmps24
  go_wp2
  go_loopg [5] L (fun g it wr => ∃ (i q : Nat), i + g = L ∧ it = .int .i64 i ∧ wr = w.drewN q)
  case atStart => exact ⟨0, 0, by omega, rfl, rfl⟩
  case round =>
    obtain ⟨i, q, hi, rfl, rfl⟩ := hrel
    by_cases hlt : i < L
    · obtain ⟨n, hn'⟩ : ∃ n, ns[i]? = some n := ⟨ns[i]'(by have := HL.out; omega), List.getElem?_eq_getElem _⟩
      have hcell : ∀ {B : Nat} {a : Option Addr} {c : Nat}, w.ownsRow B 9 1 (.slice a L c) L (strs ns) → ∃ g, a = some ⟨g, 0, none⟩ ∧ w.cell? ⟨g, i, none⟩ = some (.string (bs n)) := by
        intro B a c h
        rcases owns_cases h with ⟨_, h0, _⟩ | ⟨g, cap', cur, hv, _, _, _, _, _, _, _, _, hce, _⟩
        · omega
        · injection hv with e1 e2 e3
          exact ⟨g, e1, by rw [hce i hlt, strs_at, hn']; rfl⟩
      obtain ⟨ga, hga, da⟩ := hcell HA.out
      obtain ⟨gb, hgb, db⟩ := hcell HB.out
      subst hga hgb
      clear hcell hn'
      go_wp2
      go_quiet (fail)
      go_wp2
      go_roundg (gk - 1)
      case measure => omega
      case rel => exact ⟨i + 1, _, by omega, by go_num, rfl⟩
    · obtain rfl : i = L := by omega
      go_wp2
      go_ret
      exact ⟨rfl, ⟨rfl, rfl, rfl, Nat.le_refl _, fun _ _ => rfl⟩⟩
end Go.Proofs.Ytmpipfhlicfagaa
