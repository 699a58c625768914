/- What a directory tells of whatever key, and what a call leaves of it; the document's calls for whatever key. -/
import Derived.Test.YtbjginlhgedjdaaDoorKdel
namespace Go.Proofs.YtbjginlhgedjdaaDoor.K
open Go.RowKit
set_option linter.unusedVariables false

open Classical in
/-- Is a key there? -/
noncomputable def hasB (S : Dr) (k : List UInt8) : Bool := decide (∃ i v, Has S i k v)
open Classical in
/-- Its place. -/
noncomputable def idx (S : Dr) (k : List UInt8) : Nat := if h : ∃ i v, Has S i k v then h.choose else 0
open Classical in
/-- What is told of it. -/
noncomputable def locOf (S : Dr) (k : List UInt8) : Lc := if h : ∃ v i, Has S i k v then h.choose else noLoc
noncomputable def farN (S : Dr) (k : List UInt8) : Nat := if hasB S k = true then dist S.length (hm k S.length) (idx S k) else 0
noncomputable def putS (S : Dr) (k : List UInt8) (l : Lc) : Dr := if hasB S k = true then S.set (idx S k) (some (k, l)) else lay hm (room hm S) (k, l)
noncomputable def delS (S : Dr) (k : List UInt8) : Dr := if hasB S k = true then del hm S (idx S k) else S

open Classical in
theorem has_cases (S : Dr) (k : List UInt8) : (hasB S k = true ∧ ∃ i v, Has S i k v) ∨ (hasB S k = false ∧ ∀ i v, ¬ Has S i k v) := by
  by_cases h : ∃ i v, Has S i k v
  · exact Or.inl ⟨by unfold hasB; exact decide_eq_true h, h⟩
  · exact Or.inr ⟨by unfold hasB; exact decide_eq_false h, fun i v hv => h ⟨i, v, hv⟩⟩
section
variable {S : Dr} {k : List UInt8} {v : Lc} {i : Nat}
open Classical in
theorem hasB_yes (h : Has S i k v) : hasB S k = true := by unfold hasB; exact decide_eq_true ⟨i, v, h⟩
open Classical in
theorem hasB_no (h : ∀ i v, ¬ Has S i k v) : hasB S k = false := by unfold hasB; exact decide_eq_false (fun ⟨i, v, hv⟩ => h i v hv)
theorem idx_is (ho : One S) (h : Has S i k v) : idx S k = i := by
  have hx : ∃ i v, Has S i k v := ⟨i, v, h⟩
  unfold idx
  rw [dif_pos hx]
  obtain ⟨v', h'⟩ := hx.choose_spec
  exact ho _ _ _ _ _ h' h
theorem locOf_is (ho : One S) (h : Has S i k v) : locOf S k = v := by
  have hx : ∃ v i, Has S i k v := ⟨v, i, h⟩
  unfold locOf
  rw [dif_pos hx]
  obtain ⟨i', h'⟩ := hx.choose_spec
  have := ho _ _ _ _ _ h' h
  subst this
  exact (has_one h' h).2
theorem locOf_no (h : ∀ i v, ¬ Has S i k v) : locOf S k = noLoc := by
  unfold locOf
  rw [dif_neg (fun ⟨v, i, hv⟩ => h i v hv)]
theorem farN_is (ho : One S) (h : Has S i k v) : farN S k = dist S.length (hm k S.length) i := by
  unfold farN; rw [if_pos (hasB_yes h), idx_is ho h]
theorem farN_no (h : ∀ i v, ¬ Has S i k v) : farN S k = 0 := by unfold farN; rw [hasB_no h]; rfl
theorem putS_yes (ho : One S) (h : Has S i k v) (l : Lc) : putS S k l = S.set i (some (k, l)) := by unfold putS; rw [if_pos (hasB_yes h), idx_is ho h]
theorem putS_no (h : ∀ i v, ¬ Has S i k v) (l : Lc) : putS S k l = lay hm (room hm S) (k, l) := by unfold putS; rw [hasB_no h]; rfl
theorem delS_yes (ho : One S) (h : Has S i k v) : delS S k = del hm S i := by unfold delS; rw [if_pos (hasB_yes h), idx_is ho h]
theorem delS_no (h : ∀ i v, ¬ Has S i k v) : delS S k = S := by unfold delS; rw [hasB_no h]; rfl
end

/-- A directory of a short script. -/
structure Fit (n : Nat) (S : Dr) : Prop where
  ok : Ok hm S
  cn : cnt S ≤ n
  keys : ∀ s ∈ sre S, s.1.length ≤ 1000
  few : S.length ≤ 512
theorem fit_new : Fit 0 (none' 8) := by
  have he : sre (none' 8 : Dr) = [] := List.length_eq_zero_iff.1 (by rw [sre_len, cnt_none'])
  exact ⟨ok_new, by rw [cnt_none']; exact Nat.le_refl _, fun s hs => by rw [he] at hs; simp at hs, by simp [none']⟩
theorem pow_few {p n : Nat} (h : 2 ^ p < 2 * (n + 1)) (hn : n < 150) : 2 * 2 ^ p ≤ 512 := by
  rcases Nat.lt_or_ge 8 p with hp | hp
  · have : 2 ^ 9 ≤ 2 ^ p := Nat.pow_le_pow_right (by omega) hp
    omega
  · have : 2 ^ p ≤ 2 ^ 8 := Nat.pow_le_pow_right (by omega) hp
    omega
theorem room_few {n : Nat} {S : Dr} (h : Fit n S) (hn : n < 150) : (room hm S).length ≤ 512 := by
  unfold room
  split
  · rename_i hlt
    obtain ⟨p, _, e⟩ := h.ok.pow
    rw [(grow_facts homeLt h.ok.inv h.ok.pos).2.1, e]
    rw [e] at hlt
    exact pow_few hlt (by have := h.cn; omega)
  · exact h.few
theorem fit_put {n : Nat} {S : Dr} (h : Fit n S) (hn : n < 150) {k : List UInt8} (hk : k.length ≤ 1000) (l : Lc) : Fit (n + 1) (putS S k l) ∧ sre (putS S k l) = ins Prod.fst (wo Prod.fst (sre S) k) (k, l) := by
  have hmem : ∀ s ∈ ins Prod.fst (wo Prod.fst (sre S) k) (k, l), s.1.length ≤ 1000 := fun s hs => by
    rcases mem_ins.1 hs with rfl | hs
    · exact hk
    · exact h.keys _ (mem_wo.1 hs).1
  rcases has_cases S k with ⟨_, i, v, hi⟩ | ⟨_, hno⟩
  · rw [putS_yes h.ok.inv.one hi]
    obtain ⟨h1, h2, h3⟩ := ok_set (v' := l) h.ok hi
    exact ⟨⟨h1, by rw [h3]; exact Nat.le_succ_of_le h.cn, by rw [h2]; exact hmem, by rw [List.length_set]; exact h.few⟩, h2⟩
  · rw [putS_no hno]
    obtain ⟨h1, h2, h3⟩ := ok_put homeLt h.ok (s := (k, l)) hno
    have hw : wo Prod.fst (sre S) k = sre S := wo_id (fun c hc e => by
      obtain ⟨k', v'⟩ := c
      obtain ⟨i, hi⟩ := sre_mem.1 hc
      rw [show k' = k from e] at hi
      exact hno _ _ hi)
    rw [hw] at hmem ⊢
    exact ⟨⟨h1, by rw [h3]; have := h.cn; omega, by rw [h2]; exact hmem, by rw [lay_len]; exact room_few h hn⟩, h2⟩
theorem fit_del {n : Nat} {S : Dr} (h : Fit n S) (k : List UInt8) : Fit n (delS S k) ∧ sre (delS S k) = wo Prod.fst (sre S) k := by
  rcases has_cases S k with ⟨_, i, v, hi⟩ | ⟨_, hno⟩
  · rw [delS_yes h.ok.inv.one hi]
    obtain ⟨h1, h2, h3⟩ := ok_del homeLt h.ok hi
    have hl := (del_inv homeLt h.ok.inv hi h.ok.less).2.1
    exact ⟨⟨h1, by have := h.cn; omega, fun s hs => by rw [h2] at hs; exact h.keys _ (mem_wo.1 hs).1, by rw [hl]; exact h.few⟩, h2⟩
  · rw [delS_no hno]
    refine ⟨h, (wo_id (fun c hc e => ?_)).symm⟩
    obtain ⟨k', v'⟩ := c
    obtain ⟨i, hi⟩ := sre_mem.1 hc
    rw [show k' = k from e] at hi
    exact hno _ _ hi
theorem Fit.mono {n m : Nat} {S : Dr} (h : Fit n S) (hm' : n ≤ m) : Fit m S := ⟨h.ok, Nat.le_trans h.cn hm', h.keys, h.few⟩
theorem has_mem {S : Dr} {k : List UInt8} : hasB S k = true ↔ ∃ v, (k, v) ∈ sre S := by
  constructor
  · intro h
    rcases has_cases S k with ⟨_, i, v, hi⟩ | ⟨h0, _⟩
    · exact ⟨v, sre_mem.2 ⟨i, hi⟩⟩
    · rw [h] at h0; cases h0
  · rintro ⟨v, hv⟩
    obtain ⟨i, hi⟩ := sre_mem.1 hv
    exact hasB_yes hi
theorem loc_mem {S : Dr} (ho : One S) {k : List UInt8} {v : Lc} (h : (k, v) ∈ sre S) : locOf S k = v := by
  obtain ⟨i, hi⟩ := sre_mem.1 h
  exact locOf_is ho hi
theorem farN_lt {n : Nat} {S : Dr} (h : Fit n S) (k : List UInt8) : farN S k < S.length ∧ (hasB S k = true → farN S k < cnt S) ∧ (hasB S k = false → farN S k = 0) := by
  have hp := h.ok.pos
  rcases has_cases S k with ⟨hb, i, v, hi⟩ | ⟨hb, hno⟩
  · rw [farN_is h.ok.inv.one hi, hb]
    exact ⟨dist_lt (homeLt _ _ hp) (has_lt hi), fun _ => far_lt homeLt h.ok.inv hi, fun e => (by cases e)⟩
  · rw [farN_no hno, hb]
    exact ⟨hp, fun e => (by cases e), fun _ => rfl⟩

/-! ### The document's calls -/
section
variable {B qb gb n : Nat} {S : Dr} {w : World} {k : List UInt8}
theorem refget_any (h : Rk B w qb gb S) (hf : Fit n S) : Calls Tryd.prog 13 #[.pointer (some ⟨qb, 0, none⟩), .string (bs k)] w fun e w' => e = .returned (.tuple #[locV (locOf S k), .bool (hasB S k)]) ∧ Below w.heap.size w w' := by
  rcases has_cases S k with ⟨hb, i, v, hi⟩ | ⟨hb, hno⟩
  · rw [hb, locOf_is hf.ok.inv.one hi]; exact refget_yes h hf.ok.inv.one hi
  · rw [hb, locOf_no hno]; exact refget_no h hno
theorem reffar_any (h : Rk B w qb gb S) (hf : Fit n S) (hk : k.length ≤ 1000) : Calls Tryd.prog 20 #[.pointer (some ⟨qb, 0, none⟩), .string (bs k)] w fun e w' => e = .returned (.tuple #[.int .i64 ((farN S k : Nat) : Int), .bool (hasB S k)]) ∧ Below w.heap.size w w' := by
  rcases has_cases S k with ⟨hb, i, v, hi⟩ | ⟨hb, hno⟩
  · rw [hb, farN_is hf.ok.inv.one hi]; exact reffar_yes h hf.ok.inv.one hi (by unfold maxLen; omega)
  · rw [hb, farN_no hno]; exact (reffar_no h hno).mono (fun e w' ⟨h1, h2⟩ => ⟨h1, h2 ▸ Below.refl _ _⟩)
theorem keys_max (hf : Fit n S) : ∀ s ∈ sre S, s.1.length ≤ maxLen := fun s hs => by have := hf.keys s hs; unfold maxLen; omega
theorem refput_any (h : Rk B w qb gb S) (hf : Fit n S) (hn : n < 150) (hk : k.length ≤ 1000) (l : Lc) : Calls Tryd.prog 11 #[.pointer (some ⟨qb, 0, none⟩), .string (bs k), locV l] w (RkPost B w qb gb (putS S k l) (.tuple #[])) := by
  rcases has_cases S k with ⟨hb, i, v, hi⟩ | ⟨hb, hno⟩
  · rw [putS_yes hf.ok.inv.one hi]; exact refput_yes h hf.ok.inv.one hi
  · rw [putS_no hno]; exact refput_new h hf.ok hno (by unfold maxLen; omega) (keys_max hf) (by have := room_few hf hn; omega)
theorem refdel_any (h : Rk B w qb gb S) (hf : Fit n S) : Calls Tryd.prog 15 #[.pointer (some ⟨qb, 0, none⟩), .string (bs k)] w (RkPost B w qb gb (delS S k) (.bool (hasB S k))) := by
  rcases has_cases S k with ⟨hb, i, v, hi⟩ | ⟨hb, hno⟩
  · rw [hb, delS_yes hf.ok.inv.one hi]; exact refdel_yes h hf.ok hi (keys_max hf)
  · rw [hb, delS_no hno]
    refine (refdel_no h hno).mono ?_
    rintro e w' ⟨rfl, rfl⟩
    exact ⟨rfl, gb, h, Or.inl rfl, Turn.refl _ _⟩
end

/-! ### What is asked of the program's directory -/
/-- What is behind a call that turns it. -/
def PdPost (Pd : Nat → World → Nat → (Nat → Prop) → Dr → Prop) (B : Nat) (w : World) (pb : Nat) (F : Nat → Prop) (S' : Dr) (v : Value) (e : Ending) (w' : World) : Prop :=
  e = .returned v ∧ ∃ F', Pd B w' pb F' S' ∧ (∀ k, F' k → F k ∨ w.heap.size ≤ k) ∧ Turn F w w'
/-- The keys from one on, and what is told of them. -/
def fromE (S : Dr) (k : List UInt8) : List (Ent Lc) := (sre S).filter (fun s => !lt s.1 k)
/-- The cells of positions. -/
def lflat : List Lc → List Value
  | [] => []
  | l :: r => .int .i64 l.seg :: .int .i64 l.off :: .int .i64 l.len :: .int .u64 l.seq :: lflat r
def Locs (w : World) (B : Nat) (v : Value) (l : List Lc) : Prop := w.ownsRow B 31 4 v l.length (lflat l)
structure DirC (Pd : Nat → World → Nat → (Nat → Prop) → Dr → Prop) : Prop where
  lt : ∀ {B w pb F S}, Pd B w pb F S → ∀ k, F k → B ≤ k ∧ k < w.heap.size
  base : ∀ {B w pb F S}, Pd B w pb F S → B ≤ w.heap.size
  kept : ∀ {B w w' pb F G S}, Pd B w pb F S → Turn G w w' → (∀ k, k < w.heap.size → F k → ¬ G k) → Pd B w' pb F S
  new : ∀ w, Ml w.heap.size w → Calls Tryd.prog 8 #[] w fun e w' => ∃ pb F, e = .returned (.pointer (some ⟨pb, 0, none⟩)) ∧ Pd w.heap.size w' pb F (none' 8) ∧ Below w.heap.size w w'
  put : ∀ {B w pb F S n k}, Pd B w pb F S → Ml B w → Fit n S → n < 150 → k.length ≤ 1000 → ∀ l, Calls Tryd.prog 10 #[.pointer (some ⟨pb, 0, none⟩), .string (bs k), locV l] w (PdPost Pd B w pb F (putS S k l) (.tuple #[]))
  get : ∀ {B w pb F S n k}, Pd B w pb F S → Ml B w → Fit n S → k.length ≤ 1000 → Calls Tryd.prog 12 #[.pointer (some ⟨pb, 0, none⟩), .string (bs k)] w fun e w' => e = .returned (.tuple #[locV (locOf S k), .bool (hasB S k)]) ∧ Below w.heap.size w w'
  del : ∀ {B w pb F S n k}, Pd B w pb F S → Ml B w → Fit n S → k.length ≤ 1000 → Calls Tryd.prog 14 #[.pointer (some ⟨pb, 0, none⟩), .string (bs k)] w (PdPost Pd B w pb F (delS S k) (.bool (hasB S k)))
  len : ∀ {B w pb F S n}, Pd B w pb F S → Fit n S → Calls Tryd.prog 17 #[.pointer (some ⟨pb, 0, none⟩)] w fun e w' => e = .returned (.int .i64 ((cnt S : Nat) : Int)) ∧ Below w.heap.size w w'
  cap : ∀ {B w pb F S n}, Pd B w pb F S → Fit n S → Calls Tryd.prog 18 #[.pointer (some ⟨pb, 0, none⟩)] w fun e w' => e = .returned (.int .i64 ((S.length : Nat) : Int)) ∧ Below w.heap.size w w'
  far : ∀ {B w pb F S n k}, Pd B w pb F S → Ml B w → Fit n S → k.length ≤ 1000 → Calls Tryd.prog 19 #[.pointer (some ⟨pb, 0, none⟩), .string (bs k)] w fun e w' => e = .returned (.tuple #[.int .i64 ((farN S k : Nat) : Int), .bool (hasB S k)]) ∧ Below w.heap.size w w'
  keys : ∀ {B w pb F S n k}, Pd B w pb F S → Ml B w → Fit n S → n ≤ 150 → k.length ≤ 1000 → Calls Tryd.prog 21 #[.pointer (some ⟨pb, 0, none⟩), .string (bs k)] w fun e w' =>
    ∃ kv lv, e = .returned (.tuple #[kv, lv]) ∧ Strs w' w.heap.size kv ((fromE S k).map Prod.fst) ∧ Locs w' w.heap.size lv ((fromE S k).map Prod.snd) ∧ Below w.heap.size w w'
end Go.Proofs.YtbjginlhgedjdaaDoor.K
