/- The calls of a disk, further: Cut, Read. -/
import Derived.Test.YtmpipfhlicfagaaDcalls2
namespace Go.Proofs.Ytmpipfhlicfagaa
open Go.RowKit Go.Maps

theorem elemU8 : Try.prog.elem 62 = 5 := by kernel_rfl
theorem sizeU8 (w : World) : (Go.sizeOf 5).run Try.prog w = .ok 1 w := by kernel_rfl

/-- A piece of a slice that begins at its row's beginning. -/
theorem cut_run (a : Option Addr) (ha : ∀ x, a = some x → ∃ g, x = ⟨g, 0, none⟩) (l cap k : Nat) (hk : k ≤ cap) (W : World) :
    (Instr.slice 62 (.slice a l cap) none (some (.int .i64 (k : Int))) none).run Try.prog W = .ok (.slice a k cap) W := by
  rw [run_slice_h (P := Try.prog) (t := 62) (ht := by kernel_rfl) (kh := .i64) (h := (k : Int)) (h0 := by omega) (h2 := by omega), elemU8, sizeU8]
  have e : (if cap = 0 then a else a.map (·.add (0 * 1))) = a := by
    split
    · rfl
    · cases a with
      | none => rfl
      | some x => obtain ⟨g, rfl⟩ := ha x rfl; simp [Addr.add]
  simp [Result.andThen, sliced, e]

theorem owns_addr {B : Nat} {w : World} {e : TypeId} {a : Option Addr} {l n cap : Nat} {xs : List Value} (h : w.ownsRow B e 1 (.slice a l cap) n xs) : (∀ x, a = some x → ∃ g, x = ⟨g, 0, none⟩) ∧ l = n ∧ n ≤ cap ∧ cap ≤ maxLen := by
  rcases owns_cases h with ⟨hv, h0, _⟩ | ⟨g, cap', cur, hv, _, _, _, h1, h2, _⟩
  · injection hv with e1 e2 e3
    subst e1 e2 e3 h0
    exact ⟨(fun x hx => by cases hx), rfl, Nat.le_refl _, by unfold maxLen; omega⟩
  · injection hv with e1 e2 e3
    subst e1 e2 e3
    exact ⟨(fun x hx => by cases hx; exact ⟨g, rfl⟩), rfl, h1, h2⟩

theorem owns_take {B : Nat} {w : World} {e : TypeId} {a : Option Addr} {l cap k : Nat} {xs : List Value} (h : w.ownsRow B e 1 (.slice a l cap) l xs) (hk : k ≤ l) : w.ownsRow B e 1 (.slice a k cap) k (xs.take k) := by
  rcases owns_cases h with ⟨hv, h0, hx⟩ | ⟨g, cap', cur, hv, hB, _, hg, h1, h2, hs, hl, hc, _⟩
  · injection hv with e1 e2 e3
    subst e1 e3 h0 hx
    obtain rfl : k = 0 := by omega
    exact World.ownsRow_nil _ _ _ _
  · injection hv with e1 e2 e3
    subst e1 e3
    refine owns_of_cells hB hg hs (by omega) h2 (by rw [List.length_take]; omega) (fun j hj => ?_)
    rw [List.getElem?_take, if_pos hj, hc j (by omega)]

theorem bytes_take (l : List UInt8) (k : Nat) : (bytesOf l).take k = bytesOf (l.take k) := by simp [bytesOf]

def ctPost (B pb : Nat) (F : Nat → Prop) (S : St) (n : List UInt8) (m : Int) (w : World) : Ending → World → Prop := DkPost B pb F (ctS S n m) (.int .i64 (ctE S n m)) w

set_option maxHeartbeats 1000000 in
theorem cut_any {B pb : Nat} {S : St} {w : World} {F : Nat → Prop} {n : List UInt8} {m : Int} (h : DkS B w pb F S) (hn : n.length ≤ maxLen) (hm1 : -9223372036854775808 ≤ m) (hm2 : m ≤ 9223372036854775807) (hcs : S.fs.length < 1000000000) :
    Calls Try.prog 17 #[.pointer (some ⟨pb, 0, none⟩), .string (bs n), .int .i64 m] w (DkPost B pb F (ctS S n m) (.int .i64 (ctE S n m)) w) := by
  obtain ⟨mb, nv, u, cs, h, hF⟩ := h
  obtain ⟨c0, c1, c2, c3, c4, fz⟩ := h.cells
  clear fz
  cases hf : find S.fs n with
  | none =>
    have e1 : ctS S n m = S := by simp [ctS, hf]
    have e2 : ctE S n m = 5 := by simp [ctE, hf]
    have hl := (h.map.look_no (h.hasNot hf) hn).2
    rw [e1, e2]
    clear hf e1 e2
    go_enter Try.func17, Try.ntmps17
    go_wp2_with (first | (at_lookup; refine wpList_lookup_run _ rfl _ _ _ _ rfl _ _ rfl rfl (.tuple #[.agg #[.slice none 0 0, .int .i64 0], .bool false]) hl ?_) | fail)
    go_ret
    exact post_still h hF ((Turn.refl _ _).alloc _)
  | some f =>
    obtain ⟨v, hc, hfn⟩ := h.has hf
    subst hfn
    obtain ⟨a, cap, hv⟩ := h.form _ hc
    have hbl := len_le h.good (find_mem hf).1
    dsimp only at hv
    subst hv
    have hl := (h.map.look_yes hc hn).2
    by_cases hin : 0 ≤ m ∧ m ≤ f.bt.length
    · obtain ⟨k, rfl⟩ : ∃ k : Nat, m = (k : Int) := ⟨m.toNat, by omega⟩
      have hkl : k ≤ f.bt.length := by omega
      by_cases hbu : burns S = true
      · have e1 : ctS S f.nm k = puts (burnt S) { f with bt := f.bt.take k, sure := min f.sure k } := by simp only [ctS, hf, hbu, hin]; simp
        have e2 : ctE S f.nm k = 0 := by simp only [ctE, hf, hbu, hin]; simp
        rw [e1, e2]
        have HB := Lib.hid hbu
        have hrow := h.rows _ hc (fun f => f)
        have hsure := h.good.sure f (find_mem hf).1
        obtain ⟨fn, fb, fk⟩ := f
        dsimp only at hbl hkl hrow hsure ⊢
        obtain ⟨ha, _, hlc, hcm⟩ := owns_addr hrow
        have hcut := cut_run a ha fb.length cap k (by omega)
        clear hf e1 e2 hbu hin hm1 hm2
        go_enter Try.func17, Try.ntmps17
        go_wp2_with (first | (at_lookup; refine wpList_lookup_run _ rfl _ _ _ _ rfl _ _ rfl rfl (.tuple #[.agg #[.slice a fb.length cap, .int .i64 fk], .bool true]) hl ?_) | fail)
        refine (burn_is (h.alloc _) HB.out).mono ?_
        rintro e w1 ⟨rfl, u', h1, t1⟩
        have bw : w1.heap[w.heap.size]? = some (.cells #[.slice a fb.length cap, .int .i64 fk] 64 (0, 0)) := by
          rw [t1.block w.heap.size (by simp) (fun e => by have := h.lt.1; omega)]
          exact heap_alloc_new w _
        have x0 : w1.cell? ⟨w.heap.size, 0, none⟩ = some (.slice a fb.length cap) := by rw [cell_of_row w1 _ 0 _ _ (0, 0) bw]; rfl
        have x1 : w1.cell? ⟨w.heap.size, 1, none⟩ = some (.int .i64 fk) := by rw [cell_of_row w1 _ 1 _ _ (0, 0) bw]; rfl
        have y0 : w1.frozen? ⟨w.heap.size, 0, none⟩ = false := by simp [World.frozen?, bw]
        have y1 : w1.frozen? ⟨w.heap.size, 1, none⟩ = false := by simp [World.frozen?, bw]
        clear bw
        go_wp2_with fail
        rw [show min (fk : Int) (k : Int) = ((min fk k : Nat) : Int) by omega]
        have tA : Turn F w w1 := ((Turn.refl _ w).alloc _).trans (t1.mono (fun k _ hk => by rw [hk]; exact (hF pb).1 (Or.inl (Or.inl rfl))))
        have t2 : Turn (fun k => k = w.heap.size) w1 ((w1.setCell ⟨w.heap.size, 0, none⟩ (.slice a k cap)).setCell ⟨w.heap.size, 1, none⟩ (.int .i64 (min fk k : Nat))) :=
          ((Turn.refl (fun k => k = w.heap.size) w1).setCell (p := ⟨w.heap.size, 0, none⟩) rfl _).setCell (p := ⟨w.heap.size, 1, none⟩) rfl _
        have h2 := h1.kept t2 (fun k hk hm e => by
          have : k < w.heap.size := by
            rcases hm with hm | ⟨c, hc, _, hm⟩
            · exact (h.footLt (Or.inl hm)).2
            · exact (h.footLt (Or.inr ⟨c, hc, hm⟩)).2
          omega)
        have hx := h2.putIn hc ⟨⟨fn, fb.take k, min fk k⟩, .slice a k cap⟩ rfl (by
          have := owns_take (h2.rows _ hc (fun f => f)) hkl
          rw [bytes_take] at this
          dsimp only
          rw [List.length_take, Nat.min_eq_left hkl]
          exact this) (fun g hg => by cases a <;> simp_all [Value.ownBlock]) (by dsimp only; rw [List.length_take]; omega) (by dsimp only; rw [List.length_take]; omega)
        refine (put_any (h2.weaken (fun _ f => f.elim)) hx (by rw [h.len]; omega)).mono ?_
        rintro e w4 hp
        obtain ⟨rfl, hp'⟩ := id hp
        go_wp2_with fail
        go_ret
        exact post_put hF (tA.then t2 (fun i hi => Or.inr (by rw [hi]; exact Nat.le_refl _))) hp rfl (fun g hg => Or.inl ((hF g).1 (Or.inr ⟨_, hc, by cases a <;> simp_all [Value.ownBlock]⟩)))
      · have hbu' : burns S = false := by simpa using hbu
        have e1 : ctS S f.nm k = burnt S := by simp only [ctS, hf, hbu, hin]; simp
        have e2 : ctE S f.nm k = 8 := by simp only [ctE, hf, hbu, hin]; simp
        rw [e1, e2]
        have HB := Lib.hid hbu'
        obtain ⟨fn, fb, fk⟩ := f
        dsimp only at hbl hkl ⊢
        clear hf e1 e2 hbu hbu' hin hm1 hm2
        go_enter Try.func17, Try.ntmps17
        go_wp2_with (first | (at_lookup; refine wpList_lookup_run _ rfl _ _ _ _ rfl _ _ rfl rfl (.tuple #[.agg #[.slice a fb.length cap, .int .i64 fk], .bool true]) hl ?_) | fail)
        refine (burn_is (h.alloc _) HB.out).mono ?_
        rintro e w1 ⟨rfl, u', h1, t1⟩
        go_wp2_with fail
        go_ret
        exact post_same h1 hF (((Turn.refl _ w).alloc _).trans t1)
    · have e1 : ctS S f.nm m = S := by simp only [ctS, hf]; rw [if_neg hin]
      have e2 : ctE S f.nm m = 1 := by simp only [ctE, hf]; rw [if_neg hin]
      rw [e1, e2]
      obtain ⟨fn, fb, fk⟩ := f
      dsimp only at hbl hin ⊢
      clear hf e1 e2
      by_cases h0 : m < 0
      · clear hin
        go_enter Try.func17, Try.ntmps17
        go_wp2_with (first | (at_lookup; refine wpList_lookup_run _ rfl _ _ _ _ rfl _ _ rfl rfl (.tuple #[.agg #[.slice a fb.length cap, .int .i64 fk], .bool true]) hl ?_) | fail)
        go_ret
        exact post_still h hF ((Turn.refl _ _).alloc _)
      · have hgt : (fb.length : Int) < m := by omega
        clear hin
        go_enter Try.func17, Try.ntmps17
        go_wp2_with (first | (at_lookup; refine wpList_lookup_run _ rfl _ _ _ _ rfl _ _ rfl rfl (.tuple #[.agg #[.slice a fb.length cap, .int .i64 fk], .bool true]) hl ?_) | fail)
        go_ret
        exact post_still h hF ((Turn.refl _ _).alloc _)

/-- A piece of a row of bytes, as a string. -/
theorem piece_run {B : Nat} {w : World} {a : Option Addr} {cap : Nat} {fb : List UInt8} (h : w.ownsRow B 5 1 (.slice a fb.length cap) fb.length (bytesOf fb)) (i j : Nat) (hij : i + j ≤ fb.length) :
    ∃ A c, (∀ W, (Instr.slice 62 (.slice a fb.length cap) (some (.int .i64 (i : Int))) (some (.int .i64 ((i : Int) + (j : Int)))) none).run Try.prog W = .ok (.slice A j c) W) ∧
      (∀ W, (∀ g, (Value.slice a fb.length cap).ownBlock = some g → W.heap[g]? = w.heap[g]?) → (convert 62 9 (.slice A j c)).run Try.prog W = .ok (.string (bs ((fb.drop i).take j))) W) := by
  obtain ⟨ha, _, hlc, hcm⟩ := owns_addr h
  have hs : ∀ W, (Instr.slice 62 (.slice a fb.length cap) (some (.int .i64 (i : Int))) (some (.int .i64 ((i : Int) + (j : Int)))) none).run Try.prog W = .ok (sliced a i (i + j) cap 1) W := fun W => by
    rw [run_slice_lh (P := Try.prog) (t := 62) (ht := by kernel_rfl) (kl := .i64) (kh := .i64) (l := (i : Int)) (h := (i : Int) + (j : Int)) (h0 := by omega) (h1 := by omega) (h2 := by omega), elemU8, sizeU8]
    simp only [Result.andThen]
    rw [Int.toNat_natCast, show ((i : Int) + (j : Int)).toNat = i + j by omega]
  rcases owns_cases h with ⟨hv, h0, hx⟩ | ⟨g, cap', cur, hv, hB, hlt, hg, h1, h2, hsz, hl, hc, hcell, _⟩
  · injection hv with e1 e2 e3
    subst e1 e3
    have hi : i = 0 := by omega
    have hj : j = 0 := by omega
    subst hi hj
    refine ⟨none, 0, fun W => ?_, fun W _ => ?_⟩
    · rw [hs W]; simp [sliced]
    · have := run_convert_bytes_nil (P := Try.prog) W 62 5 (by kernel_rfl) (by kernel_rfl) 0 0 9 (by kernel_rfl)
      rw [this]
      simp; rfl
  · injection hv with e1 e2 e3
    subst e1 e3
    refine ⟨if cap = i then some ⟨g, 0, none⟩ else some ⟨g, i, none⟩, cap - i, fun W => ?_, fun W hW => ?_⟩
    · rw [hs W]
      unfold sliced
      rw [show i + j - i = j by omega]
      by_cases hci : cap = i
      · rw [if_pos hci, if_pos hci]
      · rw [if_neg hci, if_neg hci]; simp [Addr.add]; omega
    · have hL : ((fb.drop i).take j).length = j := by rw [List.length_take, List.length_drop]; omega
      have key : ∀ A : Addr, (∀ t, t < j → A.add t = ⟨g, i + t, none⟩) → (convert 62 9 (.slice (some A) j (cap - i))).run Try.prog W = .ok (.string (bs ((fb.drop i).take j))) W := by
        intro A hA
        have := run_convert_bytes_back W 62 9 5 A (cap - i) ((fb.drop i).take j) (by kernel_rfl) (by kernel_rfl) (by kernel_rfl) (P := Try.prog) (fun t ht => by
          rw [hL] at ht
          rw [hA t ht, cell_of_row W g (i + t) cur 5 (0, 0) (by rw [hW g rfl]; exact hg), hc (i + t) (by omega)]
          have hlt' : i + t < fb.length := by omega
          simp [bytesOf, hlt'])
        rw [hL] at this
        exact this
      by_cases hci : cap = i
      · rw [if_pos hci]
        exact key _ (fun t ht => by omega)
      · rw [if_neg hci]
        exact key _ (fun t _ => by rw [Addr.add_lit])

def rdPost (S : St) (n : List UInt8) (off m : Int) (w : World) (e : Ending) (w' : World) : Prop := e = .returned (.tuple #[.string (bs (rdB S n off m)), .int .i64 (rdE S n off m)]) ∧ Below w.heap.size w w'

set_option maxHeartbeats 2000000 in
theorem read_any {B pb : Nat} {S : St} {w : World} {F : Nat → Prop} {n : List UInt8} {off m : Int} (h : DkS B w pb F S) (hn : n.length ≤ maxLen) (ho1 : -9223372036854775808 ≤ off) (ho2 : off ≤ 9223372036854775807) (hm1 : -9223372036854775808 ≤ m) (hm2 : m ≤ 9223372036854775807) :
    Calls Try.prog 26 #[.pointer (some ⟨pb, 0, none⟩), .string (bs n), .int .i64 off, .int .i64 m] w (rdPost S n off m w) := by
  obtain ⟨mb, nv, u, cs, h, hF⟩ := h
  obtain ⟨c0, c1, c2, c3, c4, fz⟩ := h.cells
  clear fz
  cases hf : find S.fs n with
  | none =>
    have e1 : rdB S n off m = [] := by simp [rdB, hf]
    have e2 : rdE S n off m = 5 := by simp [rdE, hf]
    have hl := (h.map.look_no (h.hasNot hf) hn).2
    unfold rdPost
    rw [e1, e2]
    clear hf e1 e2
    go_enter Try.func26, Try.ntmps26
    go_wp2_with (first | (at_lookup; refine wpList_lookup_run _ rfl _ _ _ _ rfl _ _ rfl rfl (.tuple #[.agg #[.slice none 0 0, .int .i64 0], .bool false]) hl ?_) | fail)
    go_ret2
    exact ⟨rfl, (Below.refl _ _).alloc (Nat.le_refl _) _⟩
  | some f =>
    obtain ⟨v, hc, hfn⟩ := h.has hf
    subst hfn
    obtain ⟨a, cap, hv⟩ := h.form _ hc
    have hbl := len_le h.good (find_mem hf).1
    dsimp only at hv
    subst hv
    have hl := (h.map.look_yes hc hn).2
    have hrow := h.rows _ hc (fun f => f)
    unfold rdPost
    by_cases hin : 0 ≤ off ∧ 0 ≤ m ∧ m ≤ f.bt.length - off
    · have e1 : rdB S f.nm off m = (f.bt.drop off.toNat).take m.toNat := by simp only [rdB, hf]; rw [if_pos hin]
      have e2 : rdE S f.nm off m = 0 := by simp only [rdE, hf]; rw [if_pos hin]
      rw [e1, e2]
      obtain ⟨fn, fb, fk⟩ := f
      dsimp only at hbl hrow hin ⊢
      clear hf e1 e2
      obtain ⟨hi1, hi2, hi3⟩ := hin
      obtain ⟨i, rfl⟩ : ∃ i : Nat, off = (i : Int) := ⟨off.toNat, by omega⟩
      obtain ⟨j, rfl⟩ : ∃ j : Nat, m = (j : Int) := ⟨m.toNat, by omega⟩
      have hij : i + j ≤ fb.length := by omega
      obtain ⟨A, c, hsl, hcv⟩ := piece_run hrow i j hij
      have hcv' := hcv (w.alloc (.cells #[.slice a fb.length cap, .int .i64 fk] 64)) (fun g hg => Below.heap_alloc _ _ _ (h.apart _ hc g hg).2.2.2.2.1)
      clear hcv
      have T1 : (i : Int).toNat = i := Int.toNat_natCast i
      have T2 : (j : Int).toNat = j := Int.toNat_natCast j
      rw [T1, T2]
      clear T1 T2
      clear ho1 hm1 hi1 hi2
      go_enter Try.func26, Try.ntmps26
      go_wp2_with (first | (at_lookup; refine wpList_lookup_run _ rfl _ _ _ _ rfl _ _ rfl rfl (.tuple #[.agg #[.slice a fb.length cap, .int .i64 fk], .bool true]) hl ?_) | fail)
      go_ret2
      exact ⟨rfl, (Below.refl _ _).alloc (Nat.le_refl _) _⟩
    · have e1 : rdB S f.nm off m = [] := by simp only [rdB, hf]; rw [if_neg hin]
      have e2 : rdE S f.nm off m = 1 := by simp only [rdE, hf]; rw [if_neg hin]
      rw [e1, e2]
      obtain ⟨fn, fb, fk⟩ := f
      dsimp only at hbl hrow hin ⊢
      clear hf e1 e2 hrow
      by_cases h0 : off < 0
      · clear hin
        go_enter Try.func26, Try.ntmps26
        go_wp2_with (first | (at_lookup; refine wpList_lookup_run _ rfl _ _ _ _ rfl _ _ rfl rfl (.tuple #[.agg #[.slice a fb.length cap, .int .i64 fk], .bool true]) hl ?_) | fail)
        go_ret2
        exact ⟨rfl, (Below.refl _ _).alloc (Nat.le_refl _) _⟩
      · by_cases h1 : m < 0
        · have h0' : 0 ≤ off := by omega
          clear hin
          go_enter Try.func26, Try.ntmps26
          go_wp2_with (first | (at_lookup; refine wpList_lookup_run _ rfl _ _ _ _ rfl _ _ rfl rfl (.tuple #[.agg #[.slice a fb.length cap, .int .i64 fk], .bool true]) hl ?_) | fail)
          go_ret2
          exact ⟨rfl, (Below.refl _ _).alloc (Nat.le_refl _) _⟩
        · have h0' : 0 ≤ off := by omega
          have h1' : 0 ≤ m := by omega
          have h2 : (fb.length : Int) - off < m := by omega
          clear hin
          go_enter Try.func26, Try.ntmps26
          go_wp2_with (first | (at_lookup; refine wpList_lookup_run _ rfl _ _ _ _ rfl _ _ rfl rfl (.tuple #[.agg #[.slice a fb.length cap, .int .i64 fk], .bool true]) hl ?_) | fail)
          go_ret2
          exact ⟨rfl, (Below.refl _ _).alloc (Nat.le_refl _) _⟩
end Go.Proofs.Ytmpipfhlicfagaa
