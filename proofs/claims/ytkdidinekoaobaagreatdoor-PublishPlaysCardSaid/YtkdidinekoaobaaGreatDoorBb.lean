/- Merged out of 6 texts, in build order: Bord, Dbits, Bmem, Bopens, Brow, Bsink. -/
import Derived.Sort.Walk0
import Derived.Test.YtkdidinekoaobaaGreatDoorVb
import Derived.Maps.OwnSet
import Derived.Deep.Upon
import Derived.Sort.EncStr
import Derived.Deep.Slices
import Derived.Lib.SmallJoins
import Derived.OpenShut
import Derived.ChangeOld
import Derived.Deep.AppendSrc
import Derived.Deep.RegionHeld3
import Derived.Maps.AppendAt
import Derived.OwnWalkIn
import Derived.StillTail

/- Plain facts on rows by rising names: one put in, one taken away. Nothing of the program is used here. -/
namespace Go.Proofs.YtkdidinekoaobaaGreatDoor

/-- Does the one name stand before the other? -/
def lt (a b : List UInt8) : Bool := Op.bytesLess a b
theorem lt_iff (a b : List UInt8) : lt a b = true ↔ a < b := by unfold lt; rw [bytesLess_eq]; simp
theorem lt_irrefl (a : List UInt8) : lt a a = false := by
  cases h : lt a a
  · rfl
  · exact absurd ((lt_iff a a).1 h) (List.lt_irrefl a)
theorem lt_trans {a b c : List UInt8} (h : lt a b = true) (k : lt b c = true) : lt a c = true := (lt_iff a c).2 (List.lt_trans ((lt_iff a b).1 h) ((lt_iff b c).1 k))
theorem lt_asymm {a b : List UInt8} (h : lt a b = true) : lt b a = false := by
  cases k : lt b a
  · rfl
  · have := lt_trans h k; rw [lt_irrefl] at this; cases this
theorem lt_ne {a b : List UInt8} (h : lt a b = true) : a ≠ b := fun e => by rw [e, lt_irrefl] at h; cases h
theorem lt_total {a b : List UInt8} (h : lt a b = false) (hne : a ≠ b) : lt b a = true := by
  have h' : ¬ a < b := fun e => by rw [(lt_iff a b).2 e] at h; cases h
  rw [lt_iff]
  rcases List.le_iff_lt_or_eq.1 (List.not_lt.1 h') with g | g
  · exact g
  · exact absurd g.symm hne

/-! ### rows by rising names -/
section
variable {α β : Type} (k : α → List UInt8)

/-- By rising names, none twice. -/
def Up (l : List α) : Prop := l.Pairwise (fun a b => lt (k a) (k b) = true)

/-- All but the one of this name. -/
def wo (l : List α) (n : List UInt8) : List α := l.filter (fun c => !(k c == n))

/-- With one more, in its place. -/
def ins (l : List α) (x : α) : List α := l.takeWhile (fun c => lt (k c) (k x)) ++ x :: l.dropWhile (fun c => lt (k c) (k x))

/-- How many stand ahead of a name. -/
def pos (l : List α) (n : List UInt8) : Nat := (l.takeWhile (fun c => lt (k c) n)).length

variable {k}

theorem mem_wo {l : List α} {n : List UInt8} {c : α} : c ∈ wo k l n ↔ c ∈ l ∧ k c ≠ n := by simp [wo]
theorem mem_ins {l : List α} {x c : α} : c ∈ ins k l x ↔ c = x ∨ c ∈ l := by
  unfold ins
  have := List.takeWhile_append_dropWhile (p := fun c => lt (k c) (k x)) (l := l)
  rw [List.mem_append, List.mem_cons]
  constructor
  · rintro (h | h | h)
    · exact Or.inr (List.takeWhile_subset _ h)
    · exact Or.inl h
    · exact Or.inr ((List.dropWhile_suffix _).subset h)
  · rintro (h | h)
    · exact Or.inr (Or.inl h)
    · rw [← this, List.mem_append] at h
      rcases h with h | h
      · exact Or.inl h
      · exact Or.inr (Or.inr h)

theorem up_wo {l : List α} (h : Up k l) (n : List UInt8) : Up k (wo k l n) := h.filter _

theorem up_tail {x : α} {l : List α} (h : Up k (x :: l)) : Up k l := (List.pairwise_cons.1 h).2
theorem up_head {x c : α} {l : List α} (h : Up k (x :: l)) (hc : c ∈ l) : lt (k x) (k c) = true := (List.pairwise_cons.1 h).1 c hc

theorem up_ins {x : α} : ∀ {l : List α}, Up k l → (∀ c ∈ l, k c ≠ k x) → Up k (ins k l x)
  | [], _, _ => by simp [ins, Up]
  | y :: r, h, hne => by
    by_cases hy : lt (k y) (k x) = true
    · have ih := up_ins (x := x) (up_tail h) (fun c hc => hne c (List.mem_cons_of_mem _ hc))
      have e : ins k (y :: r) x = y :: ins k r x := by simp [ins, hy]
      rw [e]
      refine List.pairwise_cons.2 ⟨fun c hc => ?_, ih⟩
      rcases mem_ins.1 hc with rfl | hc
      · exact hy
      · exact up_head h hc
    · have hy' : lt (k y) (k x) = false := by simpa using hy
      have e : ins k (y :: r) x = x :: y :: r := by simp [ins, hy']
      rw [e]
      have hx := lt_total hy' (hne y (List.mem_cons_self ..))
      refine List.pairwise_cons.2 ⟨fun c hc => ?_, h⟩
      rcases List.mem_cons.1 hc with rfl | hc
      · exact hx
      · exact lt_trans hx (up_head h hc)

theorem length_ins (l : List α) (x : α) : (ins k l x).length = l.length + 1 := by
  have := congrArg List.length (List.takeWhile_append_dropWhile (p := fun c => lt (k c) (k x)) (l := l))
  rw [List.length_append] at this
  rw [ins, List.length_append, List.length_cons]
  omega

theorem wo_id {l : List α} {n : List UInt8} (h : ∀ c ∈ l, k c ≠ n) : wo k l n = l := by
  unfold wo
  rw [List.filter_eq_self]
  intro c hc
  simp [h c hc]

theorem map_wo (f : β → α) (l : List β) (n : List UInt8) : (wo (fun b => k (f b)) l n).map f = wo k (l.map f) n := by
  unfold wo
  rw [List.filter_map]
  rfl

theorem map_ins (f : β → α) (l : List β) (x : β) : (ins (fun b => k (f b)) l x).map f = ins k (l.map f) (f x) := by
  unfold ins
  rw [List.map_append, List.map_cons, List.takeWhile_map, List.dropWhile_map]
  rfl

theorem up_map (f : β → α) (l : List β) : Up k (l.map f) ↔ Up (fun b => k (f b)) l := by
  unfold Up
  rw [List.pairwise_map]

/-- Where a name stands, there it is found. -/
theorem up_split {c : α} : ∀ {l : List α}, Up k l → c ∈ l → ∃ t, l = l.takeWhile (fun d => lt (k d) (k c)) ++ c :: t ∧ l.dropWhile (fun d => lt (k d) (k c)) = c :: t ∧ (∀ d ∈ t, lt (k c) (k d) = true)
  | y :: r, h, hc => by
    rcases List.mem_cons.1 hc with rfl | hc
    · refine ⟨r, ?_, ?_, fun d hd => up_head h hd⟩
      · simp [lt_irrefl]
      · simp [lt_irrefl]
    · have hy := up_head h hc
      obtain ⟨t, h1, h2, h3⟩ := up_split (up_tail h) hc
      refine ⟨t, ?_, ?_, h3⟩
      · rw [List.takeWhile_cons, if_pos hy, List.cons_append, ← h1]
      · rw [List.dropWhile_cons, if_pos hy, h2]

theorem up_inj {c d : α} : ∀ {l : List α}, Up k l → c ∈ l → d ∈ l → k c = k d → c = d
  | y :: r, h, hc, hd, e => by
    rcases List.mem_cons.1 hc with rfl | hc <;> rcases List.mem_cons.1 hd with rfl | hd
    · rfl
    · exact absurd e (lt_ne (up_head h ‹_›))
    · exact absurd e.symm (lt_ne (up_head h ‹_›))
    · exact up_inj (up_tail h) hc hd e

theorem mem_takeWhile_lt {l : List α} {n : List UInt8} {c : α} (hc : c ∈ l.takeWhile (fun d => lt (k d) n)) : lt (k c) n = true := by
  have := List.all_takeWhile (p := fun d => lt (k d) n) (l := l)
  rw [List.all_eq_true] at this
  exact this c hc

theorem cut_at {l A B : List α} (h : l = A ++ B) : l.take A.length = A ∧ l.drop A.length = B := by
  subst h; simp

/-- One is taken away: what stood ahead, and what stood behind. -/
theorem wo_at {l : List α} {c : α} (h : Up k l) (hc : c ∈ l) : wo k l (k c) = l.take (pos k l (k c)) ++ l.drop (pos k l (k c) + 1) := by
  obtain ⟨t, h1, _, h3⟩ := up_split h hc
  have e1 : wo k l (k c) = l.takeWhile (fun d => lt (k d) (k c)) ++ t := by
    conv => lhs; rw [h1]
    unfold wo
    rw [List.filter_append, List.filter_cons]
    have a1 : (l.takeWhile (fun d => lt (k d) (k c))).filter (fun d => !(k d == k c)) = l.takeWhile (fun d => lt (k d) (k c)) := by
      rw [List.filter_eq_self]
      intro d hd
      have := lt_ne (mem_takeWhile_lt hd)
      simp [this]
    have a2 : t.filter (fun d => !(k d == k c)) = t := by
      rw [List.filter_eq_self]
      intro d hd
      have := (lt_ne (h3 d hd)).symm
      simp [this]
    rw [a1, a2]
    simp
  have e2 : pos k l (k c) = (l.takeWhile (fun d => lt (k d) (k c))).length := rfl
  have e3 : l.drop (pos k l (k c) + 1) = t := by
    rw [← List.drop_drop, e2, (cut_at h1).2]; rfl
  rw [e1, e3, e2, (cut_at h1).1]

/-- One more, in its place: what stood ahead, it, and what stood from there on. -/
theorem ins_at (l : List α) (x : α) : ins k l x = l.take (pos k l (k x)) ++ [x] ++ l.drop (pos k l (k x)) := by
  have e := List.takeWhile_append_dropWhile (p := fun c => lt (k c) (k x)) (l := l)
  have e2 : pos k l (k x) = (l.takeWhile (fun d => lt (k d) (k x))).length := rfl
  rw [e2, (cut_at e.symm).1, (cut_at e.symm).2, ins]
  simp

theorem pos_le (l : List α) (n : List UInt8) : pos k l n ≤ l.length := (List.takeWhile_sublist _).length_le

theorem pos_lt {l : List α} {c : α} (h : Up k l) (hc : c ∈ l) : pos k l (k c) < l.length := by
  obtain ⟨t, h1, _, _⟩ := up_split h hc
  have := congrArg List.length h1
  rw [List.length_append, List.length_cons] at this
  unfold pos
  omega

theorem pos_before {l : List α} {n : List UInt8} {t : Nat} {c : α} (ht : t < pos k l n) (hc : l[t]? = some c) : lt (k c) n = true := by
  have e := List.takeWhile_append_dropWhile (p := fun c => lt (k c) n) (l := l)
  rw [← e, List.getElem?_append_left ht] at hc
  exact mem_takeWhile_lt (List.mem_of_getElem? hc)

theorem pos_behind {n : List UInt8} : ∀ {l : List α}, Up k l → ∀ {t : Nat} {c : α}, pos k l n ≤ t → l[t]? = some c → lt (k c) n = false
  | y :: r, h, t, c, ht, hc => by
    by_cases hy : lt (k y) n = true
    · have e : pos k (y :: r) n = pos k r n + 1 := by simp [pos, hy]
      rw [e] at ht
      obtain ⟨t', rfl⟩ : ∃ t', t = t' + 1 := ⟨t - 1, by omega⟩
      exact pos_behind (t := t') (up_tail h) (by omega) (by simpa using hc)
    · have hy' : lt (k y) n = false := by simpa using hy
      cases t with
      | zero => simp at hc; subst hc; exact hy'
      | succ t =>
        simp at hc
        have := up_head h (List.mem_of_getElem? hc)
        cases g : lt (k c) n
        · rfl
        · rw [lt_trans this g] at hy'; cases hy'

/-- The names, when one that is there is put in anew. -/
theorem keys_again {l : List α} {c x : α} (h : Up k l) (hc : c ∈ l) (hx : k x = k c) : (ins k (wo k l (k c)) x).map k = l.map k := by
  obtain ⟨t, h1, h2, h3⟩ := up_split h hc
  have e1 : wo k l (k c) = l.takeWhile (fun d => lt (k d) (k c)) ++ t := by
    have e2 : pos k l (k c) = (l.takeWhile (fun d => lt (k d) (k c))).length := rfl
    have e3 : l.drop (pos k l (k c) + 1) = t := by
      rw [← List.drop_drop, e2, (cut_at h1).2]; rfl
    rw [wo_at h hc, e3, e2, (cut_at h1).1]
  have hall : ∀ d ∈ l.takeWhile (fun d => lt (k d) (k c)), lt (k d) (k x) = true := fun d hd => by rw [hx]; exact mem_takeWhile_lt hd
  have hno : ∀ d ∈ t, lt (k d) (k x) = false := fun d hd => by rw [hx]; exact lt_asymm (h3 d hd)
  have t1 : (l.takeWhile (fun d => lt (k d) (k c)) ++ t).takeWhile (fun d => lt (k d) (k x)) = l.takeWhile (fun d => lt (k d) (k c)) := by
    rw [List.takeWhile_append_of_pos hall]
    cases t with
    | nil => simp
    | cons a t => simp [hno a (List.mem_cons_self ..)]
  have t2 : (l.takeWhile (fun d => lt (k d) (k c)) ++ t).dropWhile (fun d => lt (k d) (k x)) = t := by
    rw [List.dropWhile_append_of_pos hall]
    cases t with
    | nil => simp
    | cons a t => simp [hno a (List.mem_cons_self ..)]
  rw [ins, e1, t1, t2]
  conv => rhs; rw [h1]
  simp [hx]

theorem again_mid {c x : α} (hx : k x = k c) : ∀ (A : List α) (t : List α), Up k (A ++ c :: t) → ins k (wo k (A ++ c :: t) (k c)) x = A ++ x :: t
  | [], t, h => by
    have hw : wo k (c :: t) (k c) = t := by
      unfold wo
      rw [List.filter_cons, if_neg (by simp), List.filter_eq_self]
      intro d hd
      have := (lt_ne (up_head h hd)).symm
      simp [this]
    rw [List.nil_append, hw]
    cases t with
    | nil => simp [ins]
    | cons d t =>
      have hd : lt (k d) (k x) = false := by rw [hx]; exact lt_asymm (up_head h (List.mem_cons_self ..))
      simp [ins, hd]
  | a :: A, t, h => by
    have ha : lt (k a) (k c) = true := up_head (l := A ++ c :: t) h (by simp)
    have ih := again_mid hx A t (up_tail (l := A ++ c :: t) h)
    have hne := lt_ne ha
    have e1 : wo k (a :: (A ++ c :: t)) (k c) = a :: wo k (A ++ c :: t) (k c) := by
      unfold wo
      rw [List.filter_cons, if_pos (by simp [hne])]
    have hax : lt (k a) (k x) = true := by rw [hx]; exact ha
    rw [List.cons_append, e1]
    have e2 : ins k (a :: wo k (A ++ c :: t) (k c)) x = a :: ins k (wo k (A ++ c :: t) (k c)) x := by simp [ins, hax]
    rw [e2, ih, List.cons_append]
end
end Go.Proofs.YtkdidinekoaobaaGreatDoor

/- Bytes as a Go string: in a seat that has package varint, too. -/

/- Blocks and rows that the program owns; what a call leaves as it was. -/
namespace Go.Proofs.YtkdidinekoaobaaGreatDoor
open Go.RowKit

/-! ### blocks -/
theorem block_setCells (b : Nat) (e : TypeId) : ∀ (vs : List Value) (o : Nat) (w : World) (cur : Array Value), w.heap[b]? = some (.cells cur e (0, 0)) → o + vs.length ≤ cur.size →
    ∃ cur', (w.setCells b o vs).heap[b]? = some (.cells cur' e (0, 0)) ∧ cur'.size = cur.size ∧ ∀ j, cur'[j]? = if o ≤ j ∧ j < o + vs.length then vs[j - o]? else cur[j]?
  | [], o, w, cur, h, _ => ⟨cur, h, rfl, fun j => by rw [if_neg (by simp only [List.length_nil]; omega)]⟩
  | v :: r, o, w, cur, h, hs => by
    rw [List.length_cons] at hs
    obtain ⟨cur', h1, h2, h3⟩ := block_setCells b e r (o + 1) (w.setCell ⟨b, o, none⟩ v) (cur.setIfInBounds o v) (heap_setCell_same w b o cur e v h) (by simp; omega)
    refine ⟨cur', h1, by rw [h2]; simp, fun j => ?_⟩
    rw [h3 j, List.length_cons]
    by_cases hj : j = o
    · subst hj
      rw [if_neg (by omega), if_pos (by omega)]
      simp [Array.getElem?_setIfInBounds]
      omega
    · by_cases hin : o + 1 ≤ j ∧ j < o + 1 + r.length
      · rw [if_pos hin, if_pos (by omega)]
        obtain ⟨i, rfl⟩ : ∃ i, j = o + 1 + i := ⟨j - (o + 1), by omega⟩
        rw [show o + 1 + i - (o + 1) = i by omega, show o + 1 + i - o = i + 1 by omega]
        simp
      · rw [if_neg hin, if_neg (by omega)]
        rw [Array.getElem?_setIfInBounds, if_neg (by omega)]

theorem grown_setCells (b : Nat) : ∀ (vs : List Value) (o : Nat) (w : World), w.grownBy (w.setCells b o vs) (some b)
  | [], _, w => ⟨rfl, rfl, rfl, Nat.le_refl _, fun _ _ _ => rfl⟩
  | v :: r, o, w => (⟨rfl, rfl, rfl, by simp [World.setCell], fun k _ hk => Below.heap_setCell _ _ _ _ (fun e => hk (by rw [e]))⟩ : w.grownBy (w.setCell ⟨b, o, none⟩ v) (some b)).trans (grown_setCells b r (o + 1) _)

theorem grown_drewN (q : Nat) (w : World) (r : Option Nat) : w.grownBy (w.drewN q) r := ⟨rfl, rfl, rfl, Nat.le_refl _, fun _ _ _ => rfl⟩

theorem owns_of_cells {w : World} {B g cap n : Nat} {e : TypeId} {cur : Array Value} {xs : List Value} (hB : B ≤ g) (hg : w.heap[g]? = some (.cells cur e (0, 0))) (hs : cur.size = cap) (hn : n ≤ cap) (hc : cap ≤ maxLen) (hx : xs.length = n)
    (h : ∀ j, j < n → cur[j]? = xs[j]?) : w.ownsRow B e 1 (.slice (some ⟨g, 0, none⟩) n cap) n xs := by
  refine ⟨by omega, Or.inr ⟨g, cap, cur, rfl, hB, hg, hn, hc, by omega, ?_⟩⟩
  apply List.ext_getElem?
  intro j
  rw [List.getElem?_take, Nat.mul_one]
  by_cases hj : j < n
  · rw [if_pos hj, ← h j hj]; simp
  · rw [if_neg hj, List.getElem?_eq_none (by omega)]

/-- What a row of one-cell elements is: nil, or a block. -/
theorem owns_cases {w : World} {B n : Nat} {e : TypeId} {v : Value} {xs : List Value} (h : w.ownsRow B e 1 v n xs) :
    (v = .slice none 0 0 ∧ n = 0 ∧ xs = []) ∨ ∃ g cap cur, v = .slice (some ⟨g, 0, none⟩) n cap ∧ B ≤ g ∧ g < w.heap.size ∧ w.heap[g]? = some (.cells cur e (0, 0)) ∧ n ≤ cap ∧ cap ≤ maxLen ∧ cur.size = cap ∧ xs.length = n ∧
      (∀ j, j < n → cur[j]? = xs[j]?) ∧ (∀ j, j < n → w.cell? ⟨g, j, none⟩ = xs[j]?) ∧ (∀ j, j < cap → (w.cell? ⟨g, j, none⟩).isSome = true) ∧ (∀ j, w.frozen? ⟨g, j, none⟩ = false) := by
  obtain ⟨hl, h⟩ := h
  rw [Nat.mul_one] at hl
  rcases h with ⟨rfl, rfl⟩ | ⟨g, cap, cur, rfl, hB, hg, hn, hc, hs, ht⟩
  · exact Or.inl ⟨rfl, rfl, List.eq_nil_of_length_eq_zero (by omega)⟩
  · rw [Nat.mul_one] at hs ht
    have hcell : ∀ j, w.cell? ⟨g, j, none⟩ = cur[j]? := fun j => cell_of_row w g j cur e (0, 0) hg
    have hcur : ∀ j, j < n → cur[j]? = xs[j]? := fun j hj => by rw [← ht, List.getElem?_take, if_pos hj]; simp
    refine Or.inr ⟨g, cap, cur, rfl, hB, (Array.getElem?_eq_some_iff.1 hg).1, hg, hn, hc, hs, hl, hcur, fun j hj => by rw [hcell, hcur j hj], fun j hj => ?_, fun j => ?_⟩
    · rw [hcell, Array.getElem?_eq_getElem (by omega)]; rfl
    · simp [World.frozen?, hg]

/-! ### names -/
def strs (ns : List (List UInt8)) : List Value := ns.map fun n => .string (bs n)
theorem strs_len (ns : List (List UInt8)) : (strs ns).length = ns.length := by simp [strs]
theorem strs_at (ns : List (List UInt8)) (j : Nat) : (strs ns)[j]? = ns[j]?.map fun n => .string (bs n) := by simp [strs]
theorem strs_one (ns : List (List UInt8)) : ∀ v ∈ strs ns, v.oneCell' = true := by
  intro v hv
  simp only [strs, List.mem_map] at hv
  obtain ⟨n, _, rfl⟩ := hv
  rfl
theorem bs_toList (l : List UInt8) : (bs l).toList = l := by rw [Lib.toList_data]; rfl
theorem encStr_bs (n : List UInt8) : encStr n = Value.string (bs n) := rfl

/-- Of the blocks that were there none but those of F has turned. -/
structure Turn (F : Nat → Prop) (w w' : World) : Prop where
  os : w'.os = w.os
  tape : w'.tape = w.tape
  output : w'.output = w.output
  size : w.heap.size ≤ w'.heap.size
  block : ∀ k, k < w.heap.size → ¬ F k → w'.heap[k]? = w.heap[k]?

theorem Turn.refl (F : Nat → Prop) (w : World) : Turn F w w := ⟨rfl, rfl, rfl, Nat.le_refl _, fun _ _ _ => rfl⟩
theorem Turn.mono {F G : Nat → Prop} {w w' : World} (h : Turn F w w') (hG : ∀ k, k < w.heap.size → F k → G k) : Turn G w w' := ⟨h.os, h.tape, h.output, h.size, fun k hk hn => h.block k hk (fun hf => hn (hG k hk hf))⟩
theorem Turn.trans {F : Nat → Prop} {a b c : World} (h : Turn F a b) (k : Turn F b c) : Turn F a c :=
  ⟨k.os.trans h.os, k.tape.trans h.tape, k.output.trans h.output, Nat.le_trans h.size k.size, fun i hi hn => (k.block i (Nat.lt_of_lt_of_le hi h.size) hn).trans (h.block i hi hn)⟩
/-- .. behind one whose blocks are among the first one's, or new. -/
theorem Turn.then {F G : Nat → Prop} {a b c : World} (h : Turn F a b) (k : Turn G b c) (hG : ∀ i, G i → F i ∨ a.heap.size ≤ i) : Turn F a c :=
  ⟨k.os.trans h.os, k.tape.trans h.tape, k.output.trans h.output, Nat.le_trans h.size k.size, fun i hi hn => (k.block i (Nat.lt_of_lt_of_le hi h.size) (fun hg => (hG i hg).elim hn (fun h => by omega))).trans (h.block i hi hn)⟩
theorem Turn.drew {F : Nat → Prop} {a w : World} (h : Turn F a w) (n : Nat) : Turn F a (w.drewN n) := h.trans ⟨rfl, rfl, rfl, Nat.le_refl _, fun _ _ _ => rfl⟩
theorem Turn.alloc {F : Nat → Prop} {a w : World} (h : Turn F a w) (o : Obj) : Turn F a (w.alloc o) := h.trans ⟨rfl, rfl, rfl, by simp, fun k hk _ => Below.heap_alloc _ _ _ hk⟩
theorem Turn.setCell {F : Nat → Prop} {a w : World} (h : Turn F a w) {p : Addr} (hp : F p.block) (v : Value) : Turn F a (w.setCell p v) :=
  h.trans ⟨rfl, rfl, rfl, by simp [World.setCell], fun k _ hn => Below.heap_setCell _ _ _ _ (fun e => hn (e ▸ hp))⟩
theorem Turn.setNew {F : Nat → Prop} {a w : World} (h : Turn F a w) {p : Addr} (hp : a.heap.size ≤ p.block) (v : Value) : Turn F a (w.setCell p v) :=
  h.then (G := fun k => a.heap.size ≤ k) ⟨rfl, rfl, rfl, by simp [World.setCell], fun k _ hn => Below.heap_setCell _ _ _ _ (fun e => hn (by rw [e]; exact hp))⟩ (fun i hi => Or.inr hi)
theorem Turn.grown {F : Nat → Prop} {a w w' : World} {row : Option Nat} (h : Turn F a w) (hg : w.grownBy w' row) (hr : ∀ k, row = some k → F k ∨ a.heap.size ≤ k) : Turn F a w' :=
  ⟨hg.os.trans h.os, hg.tape.trans h.tape, hg.output.trans h.output, Nat.le_trans h.size hg.size, fun i hi hn =>
    (hg.block i (Nat.lt_of_lt_of_le hi h.size) (fun e => (hr i e.symm).elim hn (fun h => by omega))).trans (h.block i hi hn)⟩
theorem Turn.below {F : Nat → Prop} {w w' : World} {B : Nat} (h : Turn F w w') (hF : ∀ k, F k → B ≤ k) (hB : B ≤ w.heap.size) : Below B w w' := ⟨h.os, h.tape, h.output, h.size, fun k hk => h.block k (by omega) (fun hf => by have := hF k hf; omega)⟩
theorem Turn.of_below {w w' : World} {B : Nat} (F : Nat → Prop) (h : Below B w w') (hB : w.heap.size ≤ B) : Turn F w w' := ⟨h.os, h.tape, h.output, h.size, fun k hk _ => h.block k (by omega)⟩

theorem owns_kept {w w' : World} {B n size : Nat} {e : TypeId} {v : Value} {xs : List Value} (h : w.ownsRow B e size v n xs) (hk : ∀ g, v.ownBlock = some g → w'.heap[g]? = w.heap[g]?) : w'.ownsRow B e size v n xs := by
  refine ⟨h.1, ?_⟩
  rcases h.2 with hn | ⟨g, cap, cur, rfl, hb, hg, r⟩
  · exact Or.inl hn
  · exact Or.inr ⟨g, cap, cur, rfl, hb, by rw [hk g rfl]; exact hg, r⟩

/-- A delete, where its run is known. -/
theorem wpList_delete_run {P : Program} (w : World) {ops : Array Oper} {rest : List Oper} {o : Oper} {a : Act} {Q : Exit → Act → World → Prop}
    (hg : o.guard = none) (m x : Operand) (t k : TypeId) (hop : o.op = Op.call { callee := Callee.builtin Builtin.delete, args := #[m, x], argTypes := #[t, k] }) (mv key : Value) (hm : a.eval m = mv) (hx : a.eval x = key) (w' : World)
    (hr : ∀ ty, (Builtin.delete_ #[t, k] ty #[mv, key]).run P w = .ok (.tuple #[]) w') (hK : wpList P ops Q rest (a.put o.dst (.tuple #[])) w') : wpList P ops Q (o :: rest) a w := by
  refine wpList_plain hg fun K' hK' => ?_
  unfold Oper.wp
  simp [execOp, hop, resolve, invoke, builtin, hm, hx, hr, Result.andThen]
  exact hK' _ _ hK
/-- An append, where its run is known. -/
theorem wpList_append_run {P : Program} (w : World) {ops : Array Oper} {rest : List Oper} {o : Oper} {a : Act} {Q : Exit → Act → World → Prop}
    (hg : o.guard = none) (s x : Operand) (t tx : TypeId) (hop : o.op = .call { callee := .builtin .append, args := #[s, x], argTypes := #[t, tx] }) (sv xv : Value) (hs : a.eval s = sv) (hx : a.eval x = xv) (v' : Value) (w' : World)
    (hr : ∀ ty, (Builtin.append_ #[t, tx] ty #[sv, xv]).run P w = .ok v' w') (hK : wpList P ops Q rest (a.put o.dst v') w') : wpList P ops Q (o :: rest) a w := by
  refine wpList_plain hg fun K' hK' => ?_
  unfold Oper.wp execOp
  simp only [hop, resolve, invoke, builtin, Sem.run_bind, Sem.run_pure, Result.andThen_ok, List.map_toArray, List.map_cons, List.map_nil, hs, hx, hr]
  exact hK' _ _ hK
end Go.Proofs.YtkdidinekoaobaaGreatDoor

/- Slices of strings, of bools, of integers that come in. -/
namespace Go.Proofs.YtkdidinekoaobaaGreatDoor
open Go.RowKit Go.ChangeShapes Go.WideShapes Go.Joins Go.Deep
open Go.ChangeMaps (open_string)

set_option linter.unusedVariables false

/-- Values in a slice that came in. -/
def Vals (w : World) (a : Option Addr) (vs : List Value) : Prop := ∀ i (h : i < vs.length), ∃ b off, a = some ⟨b, off, none⟩ ∧ b < w.heap.size ∧ w.cell? ⟨b, off + i, none⟩ = some vs[i]
theorem Vals.at {w w' : World} {B : Nat} {a : Option Addr} {vs : List Value} (h : Vals w a vs) (hb : Below B w w') (hB : w.heap.size ≤ B) (i : Nat) (v : Value) (hv : vs[i]? = some v) : ∃ b off, a = some ⟨b, off, none⟩ ∧ w'.cell? ⟨b, off + i, none⟩ = some v := by
  obtain ⟨hi, e⟩ := List.getElem?_eq_some_iff.1 hv
  subst e
  obtain ⟨b, off, h1, h2, h3⟩ := h i hi
  exact ⟨b, off, h1, by rw [hb.cell (p := ⟨b, off + i, none⟩) (Nat.lt_of_lt_of_le h2 hB)]; exact h3⟩

theorem later_at {B : Nat} {w w' : World} {g o : Nat} {v : Value} (hb : Below B w w') (h : w.cell? ⟨g, o, none⟩ = some v) (hg : g < B) : w'.cell? ⟨g, o, none⟩ = some v := by
  rw [hb.cell (p := ⟨g, o, none⟩) hg]; exact h

theorem laidOut : laidOutB Tryz.prog = true := by kernel_rfl
theorem len_size (b : ByteArray) : b.data.toList.length = b.size := Array.length_toList

theorem wf_i64 {n : Int} (h : (Lit.int .i64 n).wf = true) : -9223372036854775808 ≤ n ∧ n ≤ 9223372036854775807 := by
  have h' : IntKind.i64.min ≤ n ∧ n ≤ IntKind.i64.max := by simpa [Lit.wf] using h
  have e1 : IntKind.i64.min = -9223372036854775808 := by decide
  have e2 : IntKind.i64.max = 9223372036854775807 := by decide
  omega

section
variable {H : Type} {enc : TypeId × Value → H} {W : World}

theorem vals_of {a : Addr} {n : Nat} {vs : List Value} (hn : vs.length = n) (h : ∀ i (hi : i < vs.length), W.cell? (a.add i) = some vs[i]) : Vals W (some a) vs := by
  intro i hi
  have hc := h i hi
  obtain ⟨b, off, spot⟩ := a
  have hs : spot = none := by simpa [Addr.add] using World.cell?_spot (h 0 (by omega))
  subst hs
  rw [Addr.add_lit] at hc
  exact ⟨b, off, rfl, World.block_lt_of_cell? _ _ hc, hc⟩

theorem open_strsin {t : TypeId} (ht : Tryz.prog.underlying t = some (.slice 9)) {a : Option Addr} {len cap : Nat} {d : DataW H} {p : List MemPlace}
    (h : DataW.Trod enc Tryz.prog W 0 (fun _ => true) true t (.slice a len cap) d p) : ∃ l : List (List UInt8), l.length = len ∧ len ≤ maxLen ∧ Vals W a (strs l) ∧ ∀ b ∈ l, b.length ≤ 9223372036854775807 := by
  obtain ⟨fuel, hf⟩ := h
  rcases open_slice1 ht (by kernel_rfl) hf with ⟨hcs, _⟩ | ⟨x, l, c, m, n, V, D, Pl, hcs, _, hl, hm, hmm, _, hi⟩
  · simp [Value.cells] at hcs
    obtain ⟨rfl, rfl, rfl⟩ := hcs
    exact ⟨[], rfl, by unfold maxLen; omega, fun i h => by simp [strs] at h, fun r hr => by simp at hr⟩
  · simp [Value.cells] at hcs
    obtain ⟨rfl, rfl, rfl⟩ := hcs
    simp only [if_true] at hmm
    subst hmm
    have hex : ∀ i, i < len → ∃ s : List UInt8, V i = .string (bs s) ∧ s.length ≤ 9223372036854775807 := fun i hil => by
      obtain ⟨s, h1, h2, h3⟩ := DataW.trod_string Tryz.underlying9 (hi i (by omega)).2
      refine ⟨s.data.toList, by rw [bs_of]; simpa using h1, ?_⟩
      have := len_size s
      unfold maxLen at h3
      omega
    obtain ⟨f, hf2⟩ := choose_lt hex
    refine ⟨(List.range len).map f, by simp, by omega, vals_of (n := len) (by simp [strs]) (fun i hi2 => ?_), fun r hr => ?_⟩
    · have hil : i < len := by simpa [strs] using hi2
      rw [(hi i (by omega)).1, (hf2 i hil).1]
      simp [strs]
    · obtain ⟨i, hi3, rfl⟩ := List.mem_map.1 hr
      exact (hf2 i (List.mem_range.1 hi3)).2

theorem open_boolsin {t : TypeId} (ht : Tryz.prog.underlying t = some (.slice 4)) {a : Option Addr} {len cap : Nat} {d : DataW H} {p : List MemPlace}
    (h : DataW.Trod enc Tryz.prog W 0 (fun _ => true) true t (.slice a len cap) d p) : ∃ l : List Bool, l.length = len ∧ len ≤ maxLen ∧ Vals W a (l.map Value.bool) ∧ True := by
  obtain ⟨fuel, hf⟩ := h
  rcases open_slice1 ht (by kernel_rfl) hf with ⟨hcs, _⟩ | ⟨x, l, c, m, n, V, D, Pl, hcs, _, hl, hm, hmm, _, hi⟩
  · simp [Value.cells] at hcs
    obtain ⟨rfl, rfl, rfl⟩ := hcs
    exact ⟨[], rfl, by unfold maxLen; omega, fun i h => by simp at h, trivial⟩
  · simp [Value.cells] at hcs
    obtain ⟨rfl, rfl, rfl⟩ := hcs
    simp only [if_true] at hmm
    subst hmm
    have hex : ∀ i, i < len → ∃ s : Bool, V i = .bool s := fun i hil => by
      obtain ⟨s, h1, h2⟩ := DataW.trod_bool Tryz.underlying4 (hi i (by omega)).2
      exact ⟨s, by simpa using h1⟩
    obtain ⟨f, hf2⟩ := choose_lt hex
    refine ⟨(List.range len).map f, by simp, by omega, vals_of (n := len) (by simp) (fun i hi2 => ?_), trivial⟩
    have hil : i < len := by simpa using hi2
    rw [(hi i (by omega)).1, hf2 i hil]
    simp

theorem open_intsin {t : TypeId} (ht : Tryz.prog.underlying t = some (.slice 3)) {a : Option Addr} {len cap : Nat} {fuel : Nat} {x : DataW H × List MemPlace}
    (hf : DataW.trod enc Tryz.prog W 0 (fun _ => true) true fuel t [.slice a len cap] = some x) : ∃ l : List Int, l.length = len ∧ len ≤ maxLen ∧ Vals W a (l.map (Value.int .i64)) ∧ ∀ y ∈ l, -9223372036854775808 ≤ y ∧ y ≤ 9223372036854775807 := by
  rcases open_slice1 ht (by kernel_rfl) hf with ⟨hcs, _⟩ | ⟨x, l, c, m, n, V, D, Pl, hcs, _, hl, hm, hmm, _, hi⟩
  · simp at hcs
    obtain ⟨rfl, rfl, rfl⟩ := hcs
    exact ⟨[], rfl, by unfold maxLen; omega, fun i h => by simp at h, fun y hy => by simp at hy⟩
  · simp at hcs
    obtain ⟨rfl, rfl, rfl⟩ := hcs
    simp only [if_true] at hmm
    subst hmm
    have hex : ∀ i, i < len → ∃ s : Int, V i = .int .i64 s ∧ -9223372036854775808 ≤ s ∧ s ≤ 9223372036854775807 := fun i hil => by
      obtain ⟨s, h1, h2, h3⟩ := DataW.trod_int Tryz.underlying3 (hi i (by omega)).2
      refine ⟨s, by simpa using h1, ?_⟩
      exact wf_i64 h3
    obtain ⟨f, hf2⟩ := choose_lt hex
    refine ⟨(List.range len).map f, by simp, by omega, vals_of (n := len) (by simp) (fun i hi2 => ?_), fun y hy => ?_⟩
    · have hil : i < len := by simpa using hi2
      rw [(hi i (by omega)).1, (hf2 i hil).1]
      simp
    · obtain ⟨i, hi3, rfl⟩ := List.mem_map.1 hy
      exact (hf2 i (List.mem_range.1 hi3)).2

theorem open_intsT {t : TypeId} (ht : Tryz.prog.underlying t = some (.slice 3)) {a : Option Addr} {len cap : Nat} {d : DataW H} {p : List MemPlace}
    (h : DataW.Trod enc Tryz.prog W 0 (fun _ => true) true t (.slice a len cap) d p) : ∃ l : List Int, l.length = len ∧ len ≤ maxLen ∧ Vals W a (l.map (Value.int .i64)) ∧ ∀ y ∈ l, -9223372036854775808 ≤ y ∧ y ≤ 9223372036854775807 := by
  obtain ⟨fuel, hf⟩ := h
  exact open_intsin ht (by simpa [Value.cells] using hf)
end
end Go.Proofs.YtkdidinekoaobaaGreatDoor

/- An append to a row that the program owns, of elements of any size: the row is the old one, or a new block. (As keydir's XKrow, for the layers behind it.) -/
namespace Go.Proofs.YtkdidinekoaobaaGreatDoor
open Go.RowKit
set_option linter.unusedVariables false

theorem run_append_row {P : Program} {B n m size bytes : Nat} {t e : TypeId} {i0 : TypeInfo} {z : Value} (ht : P.underlying t = some (.slice e)) (hi : P.info? e = some i0) (hz0 : i0.zero = some z) (hz1 : i0.size = size) (hz2 : i0.bytes = bytes) (hby : bytes ≤ 64) (hzs : z.cells.size = size)
    {v : Value} {xs : List Value} {w : World} (h : w.ownsRow B e size v n xs) (x : Value) (b : List Value) (hs : Src P size t x m b w) (hb : n + m ≤ 1099511627776) (hB : B ≤ w.heap.size) (ty : TypeId) :
    ∃ v' w', (Builtin.append_ #[t, t] ty #[v, x]).run P w = .ok v' w' ∧ w'.ownsRow B e size v' (n + m) (xs ++ b) ∧ w.grownBy w' v.ownBlock ∧ (v'.ownBlock = v.ownBlock ∨ v'.ownBlock = some w.heap.size) := by
  have hbl := hs.newsLen
  have hxl := h.1
  have hlen : (xs ++ b).length = (n + m) * size := by rw [List.length_append, hxl, hbl, Nat.add_mul]
  have hsrc : Src P i0.size t x m b w := by rw [hz1]; exact hs
  have hz : ∀ k, (Builtin.zeroCells z.cells k).size = k * size := fun k => by rw [size_zeroCells, hzs]
  have grow : ∀ (base : Option Addr) (cap : Nat), cap < n + m → (Builtin.firstCells i0.size n (.slice base n cap)).run P w.drew = .ok xs.toArray w.drew →
      v = .slice base n cap → ∃ v' w', (Builtin.append_ #[t, t] ty #[v, x]).run P w = .ok v' w' ∧ w'.ownsRow B e size v' (n + m) (xs ++ b) ∧ w.grownBy w' v.ownBlock ∧ (v'.ownBlock = v.ownBlock ∨ v'.ownBlock = some w.heap.size) := by
    intro base cap hcap hold hv
    have hr := run_append_grow_src (P := P) w t t ty e i0 _ ht hi hz0 base n cap xs hold x m b hsrc hcap (by omega) (growslice_fits (by omega) (by rw [hz2]; exact Nat.le_trans (Nat.mul_le_mul hb hby) (by omega)))
    have hge := grownCap_ge w (n + m) cap e
    have hgm := grownCap_le_maxLen w (n + m) cap e (by unfold maxLen; omega)
    refine ⟨_, _, by rw [hv]; exact hr, ?_, (grown_drewN 1 w _).trans (World.grownBy_alloc _ _ _), Or.inr rfl⟩
    refine ⟨hlen, Or.inr ⟨w.heap.size, _, _, rfl, hB, heap_alloc_new _ _, hge, hgm, ?_, ?_⟩⟩
    · have h1 : ∀ A : Array Value, A.size = (n + m) * size → (A ++ Builtin.zeroCells z.cells (grownCap w (n + m) cap e - (n + m))).size = grownCap w (n + m) cap e * size := fun A hA => by
        rw [Array.size_append, hz, hA, ← Nat.add_mul]
        congr 1; omega
      exact h1 _ (by simpa using hlen)
    · rw [← hlen]
      simp only [Array.toList_append]
      exact List.take_left
  rcases h.2 with ⟨rfl, rfl⟩ | ⟨g, cap, cur, rfl, hBg, hg, hcap, hcm, hsz, htake⟩
  · have hx0 : xs = [] := List.eq_nil_of_length_eq_zero (by rw [hxl]; simp)
    subst hx0
    rcases Nat.eq_zero_or_pos m with hm | hm
    · subst hm
      have hb0 : b = [] := List.eq_nil_of_length_eq_zero (by rw [hbl]; simp)
      subst hb0
      have hr := run_append_nothing w t t ty e i0 ht hi none 0 0 (Nat.le_refl _) x hsrc
      exact ⟨_, _, hr, World.ownsRow_nil _ _ _ _, ⟨rfl, rfl, rfl, Nat.le_refl _, fun _ _ _ => rfl⟩, Or.inl rfl⟩
    · exact grow none 0 (by omega) (by rw [hz1]; exact run_firstCells_none w.drew size 0 0 0) rfl
  · have hcell : ∀ j, j < n * size → w.cell? ⟨g, j, none⟩ = xs[j]? := fun j hj => h.cellAt j hj
    have hcs : n * size ≤ cap * size := Nat.mul_le_mul_right _ hcap
    by_cases hroom : n + m ≤ cap
    · have hms : n * size + m * size ≤ cap * size := by rw [← Nat.add_mul]; exact Nat.mul_le_mul_right _ hroom
      have hsome : ∀ j, j < cap * size → (w.cell? ⟨g, j, none⟩).isSome = true := fun j hj => by
        rw [cell_of_row w g j cur _ (0, 0) hg, Array.getElem?_eq_getElem (by omega)]; rfl
      have hr := run_append_room_src (P := P) w t t ty e i0 ht hi g 0 n cap x m b hsrc hroom
        (fun j hj => by rw [hz1, Nat.zero_add]; rw [hbl] at hj; exact hsome _ (by omega)) (fun j _ => by rw [Nat.zero_add]; simp [World.frozen?, hg])
      rw [hz1, Nat.zero_add] at hr
      obtain ⟨cur1, k1, k2, k3⟩ := block_setCells g e b (n * size) w cur hg (by rw [hbl]; omega)
      refine ⟨_, _, hr, ?_, grown_setCells g _ _ _, Or.inl rfl⟩
      refine ⟨hlen, Or.inr ⟨g, cap, cur1, rfl, hBg, k1, hroom, hcm, by omega, ?_⟩⟩
      apply List.ext_getElem?
      intro j
      rw [List.getElem?_take]
      by_cases hj : j < (n + m) * size
      · rw [if_pos hj, Array.getElem?_toList, k3 j]
        rw [Nat.add_mul] at hj
        by_cases hj2 : j < n * size
        · have := hcell j hj2
          rw [cell_of_row w g j cur _ (0, 0) hg] at this
          rw [if_neg (by omega), List.getElem?_append_left (by rw [hxl]; omega), this]
        · rw [if_pos (by rw [hbl]; omega), List.getElem?_append_right (by rw [hxl]; omega), hxl]
      · rw [if_neg hj, List.getElem?_eq_none (by rw [hlen]; omega)]
    · refine grow _ cap (by omega) ?_ rfl
      rw [hz1]
      refine run_firstCells_some w.drew size n ⟨g, 0, none⟩ n cap xs hxl (fun j u hu => ?_)
      have hj : j < n * size := by rw [← hxl]; exact (List.getElem?_eq_some_iff.1 hu).1
      rw [Addr.add_lit, Nat.zero_add]
      show w.cell? _ = _
      rw [hcell j hj, hu]

theorem slice_form {w : World} {B : Nat} {e : TypeId} {size : Nat} {v : Value} {n : Nat} {xs : List Value} (h : w.ownsRow B e size v n xs) : ∃ a c, v = .slice a n c := by
  rcases h with ⟨_, ⟨rfl, rfl⟩ | ⟨g, cap, cur, rfl, _, hg, _⟩⟩
  · exact ⟨none, 0, rfl⟩
  · exact ⟨_, cap, rfl⟩
/-- The cells of a row, in its block. -/
theorem row_at {w : World} {B : Nat} {e : TypeId} {size n : Nat} {a : Option Addr} {c : Nat} {xs : List Value} (h : w.ownsRow B e size (.slice a n c) n xs) (hn : 0 < n) : ∃ g, a = some ⟨g, 0, none⟩ ∧ B ≤ g ∧ g < w.heap.size ∧ ∀ j, j < n * size → w.cell? ⟨g, j, none⟩ = xs[j]? := by
  rcases h.2 with ⟨h0, h1⟩ | ⟨g, cap, cur, hv, hB, hg, _⟩
  · omega
  · cases hv
    exact ⟨g, rfl, hB, (Array.getElem?_eq_some_iff.1 hg).1, fun j hj => h.cellAt j hj⟩
theorem row_base {w : World} {B B' : Nat} {e : TypeId} {size n : Nat} {v : Value} {xs : List Value} (h : w.ownsRow B e size v n xs) (hB : B' ≤ B) : w.ownsRow B' e size v n xs := by
  obtain ⟨h1, h2⟩ := h
  refine ⟨h1, h2.imp id ?_⟩
  rintro ⟨g, cap, cur, hv, hb, r⟩
  exact ⟨g, cap, cur, hv, Nat.le_trans hB hb, r⟩
/-- A beginning of a row. -/
theorem row_take {w : World} {B : Nat} {e : TypeId} {size n : Nat} {a : Option Addr} {c : Nat} {xs : List Value} (h : w.ownsRow B e size (.slice a n c) n xs) {m : Nat} (hm : m ≤ n) : w.ownsRow B e size (.slice a m c) m (xs.take (m * size)) := by
  have hms : m * size ≤ n * size := Nat.mul_le_mul_right _ hm
  refine ⟨by rw [List.length_take, h.1]; omega, ?_⟩
  rcases h.2 with ⟨h0, h1⟩ | ⟨g, cap, cur, hv, hB, hg, hnc, hcm, hs, ht⟩
  · cases h0
    obtain rfl : m = 0 := by omega
    exact Or.inl ⟨rfl, rfl⟩
  · cases hv
    exact Or.inr ⟨g, c, cur, rfl, hB, hg, by omega, hcm, hs, by rw [← ht, List.take_take, Nat.min_eq_left hms]⟩
/-- A row, or another's, as a source of an append. -/
theorem src_row {P : Program} {w W : World} {B : Nat} {t e : TypeId} {size n : Nat} {v : Value} {xs : List Value} (ht : P.underlying t = some (.slice e)) (h : w.ownsRow B e size v n xs) (h1 : ∀ u ∈ xs, u.oneCell' = true) (hW : ∀ g, v.ownBlock = some g → W.heap[g]? = w.heap[g]?) : Src P size t v n xs W := by
  have h' := owns_kept h hW
  rcases h'.2 with ⟨rfl, rfl⟩ | ⟨g, cap, cur, rfl, _, hg, _⟩
  · have : xs = [] := List.eq_nil_of_length_eq_zero (by rw [h.1]; simp)
    subst this
    exact Src.ofNil W ht 0
  · refine Src.ofSlice W ht ⟨g, 0, none⟩ n cap xs h.1 (fun j u hu => ?_) h1
    have hj : j < n * size := by rw [← h.1]; exact (List.getElem?_eq_some_iff.1 hu).1
    rw [Addr.add_lit, Nat.zero_add, h'.cellAt j hj]; exact hu
/-- .. in a walk. -/
theorem wpList_append_row {P : Program} (w : World) {ops : Array Oper} {rest : List Oper} {o : Oper} {a : Act} {Q : Exit → Act → World → Prop}
    (hg : o.guard = none) (s x : Operand) (t : TypeId) (hop : o.op = Op.call { callee := Callee.builtin Builtin.append, args := #[s, x], argTypes := #[t, t] })
    (B : Nat) (e : TypeId) (i0 : TypeInfo) (z : Value) (size bytes : Nat) (ht : P.underlying t = some (.slice e)) (hi : P.info? e = some i0) (hz0 : i0.zero = some z) (hz1 : i0.size = size) (hz2 : i0.bytes = bytes) (hby : bytes ≤ 64) (hzs : z.cells.size = size)
    (v : Value) (n : Nat) (xs : List Value) (hs : a.eval s = v) (hown : w.ownsRow B e size v n xs) (xv : Value) (m : Nat) (b : List Value) (hx : a.eval x = xv) (hsrc : Src P size t xv m b w) (hb : n + m ≤ 1099511627776) (hB : B ≤ w.heap.size)
    (hK : ∀ a' c' w', w'.ownsRow B e size (.slice a' (n + m) c') (n + m) (xs ++ b) → w.grownBy w' v.ownBlock → ((Value.slice a' (n + m) c').ownBlock = v.ownBlock ∨ (Value.slice a' (n + m) c').ownBlock = some w.heap.size) → wpList P ops Q rest (a.put o.dst (.slice a' (n + m) c')) w') :
    wpList P ops Q (o :: rest) a w := by
  refine wpList_plain hg fun K hK' => ?_
  obtain ⟨v', w', hrun, r1, r2, r3⟩ := run_append_row ht hi hz0 hz1 hz2 hby hzs hown xv b hsrc hb hB o.type
  obtain ⟨a', c', rfl⟩ := slice_form r1
  unfold Oper.wp execOp
  simp only [hop, resolve, invoke, builtin, Sem.run_bind, Sem.run_pure, Result.andThen_ok, List.map_toArray, List.map_cons, List.map_nil, hs, hx, hrun]
  exact hK' _ _ (hK a' c' w' r1 r2 r3)
/-- .. as one step of a region that draws its order. -/
theorem step_append_row {P : Program} {ops : Array Oper} {o : Oper} {a : Act} {w : World} {K : Act → World → Prop} {Q : Exit → Act → World → Prop} {E : Prop} (hgd : o.guard = none) (s x : Operand) (t : TypeId)
    (ho : o.op = .call { callee := .builtin .append, args := #[s, x], argTypes := #[t, t] }) (B : Nat) (e : TypeId) (i0 : TypeInfo) (z : Value) (size bytes : Nat) (ht : P.underlying t = some (.slice e)) (hi : P.info? e = some i0) (hz0 : i0.zero = some z) (hz1 : i0.size = size) (hz2 : i0.bytes = bytes) (hby : bytes ≤ 64) (hzs : z.cells.size = size)
    (v : Value) (n : Nat) (xs : List Value) (hs : a.eval s = v) (hown : w.ownsRow B e size v n xs) (xv : Value) (m : Nat) (b : List Value) (hx : a.eval x = xv) (hsrc : Src P size t xv m b w) (hb : n + m ≤ 1099511627776) (hB : B ≤ w.heap.size)
    (h : ∀ a' c' w', w'.ownsRow B e size (.slice a' (n + m) c') (n + m) (xs ++ b) → Below B w w' → w.grownBy w' v.ownBlock → K (a.put o.dst (.slice a' (n + m) c')) w') :
    if Region.wanted o (yielded ops a.tmps) = true then Oper.wp P o a w K Q else E := by
  have hw : Region.wanted o (yielded ops a.tmps) = true := by simp [Region.wanted, hgd]
  rw [if_pos hw]
  obtain ⟨v', w', q1, q2, q3, q4⟩ := run_append_row ht hi hz0 hz1 hz2 hby hzs hown xv b hsrc hb hB o.type
  obtain ⟨a', c', rfl⟩ := slice_form q2
  unfold Oper.wp execOp
  simp only [ho, resolve, invoke, builtin, Sem.run_bind, Sem.run_pure, Result.andThen_ok, List.map_toArray, List.map_cons, List.map_nil, hs, hx, q1]
  exact h a' c' w' q2 ((Below.refl B w).grown q3 hB (fun k hk => (hown.lt k hk).1)) q3
/-- .. within a fence. -/
theorem wpListIn_append_row {F : Fence} {d : Nat} {P : Program} (w : World) {ops : Array Oper} {rest : List Oper} {o : Oper} {a : Act} {Q : Exit → Act → World → Prop}
    (hg : o.guard = none) (s x : Operand) (t : TypeId) (hop : o.op = Op.call { callee := Callee.builtin Builtin.append, args := #[s, x], argTypes := #[t, t] })
    (B : Nat) (e : TypeId) (i0 : TypeInfo) (z : Value) (size bytes : Nat) (ht : P.underlying t = some (.slice e)) (hi : P.info? e = some i0) (hz0 : i0.zero = some z) (hz1 : i0.size = size) (hz2 : i0.bytes = bytes) (hby : bytes ≤ 64) (hzs : z.cells.size = size)
    (v : Value) (n : Nat) (xs : List Value) (hs : a.eval s = v) (hown : w.ownsRow B e size v n xs) (ad : Addr) (m c : Nat) (b : List Value) (hx : a.eval x = .slice (some ad) m c) (hbl : b.length = m * size)
    (hc : ∀ j u, b[j]? = some u → w.cell? (ad.add j) = some u) (h1c : ∀ u ∈ b, u.oneCell' = true) (hb : n + m ≤ 1099511627776) (hB : B ≤ w.heap.size)
    (hK : ∀ v' w', w'.ownsRow B e size v' (n + m) (xs ++ b) → w.grownBy w' v.ownBlock → (v'.ownBlock = v.ownBlock ∨ v'.ownBlock = some w.heap.size) → wpListIn F d P ops Q rest (a.put o.dst v') w') :
    wpListIn F d P ops Q (o :: rest) a w := by
  refine wpListIn_plain hg fun K hK' => ?_
  obtain ⟨v', w', hrun, r1, r2, r3⟩ := run_append_row ht hi hz0 hz1 hz2 hby hzs hown (.slice (some ad) m c) b (Src.ofSlice w ht ad m c b hbl hc h1c) hb hB o.type
  unfold Oper.wpIn
  refine ⟨?_, ?_⟩
  · simp [Oper.about, hop, resolve, Target.leads, Sem.run_pure]
  · rw [Oper.semAt_plain F _ _ (by rw [hop]; intro c hc'; cases hc')]
    simp [execOp, hop, resolve, invoke, builtin, hs, hx, hrun, Result.andThen]
    exact hK' _ _ (hK v' w' r1 r2 r3)
end Go.Proofs.YtkdidinekoaobaaGreatDoor

/- A region that draws its order and whose last operation waits for all others: that one may be left to the end. -/
namespace Go.Proofs.YtkdidinekoaobaaGreatDoor
open Go
set_option linter.unusedVariables false

/-- What is to be shown ahead of the last operation. -/
def AtLast (P : Program) (ops : Array Oper) (Q : Exit → Act → World → Prop) (k : Nat) : Exit → Act → World → Prop
  | .normal, a, w => wpOp P ops Q k (fun a' w' => Q .normal a' w') a w
  | e, a, w => Q e a w

section
variable {P : Program} {ops : Array Oper} {Q : Exit → Act → World → Prop} {md : Region.Mode} {k : Nat}

theorem atLast_lets (h : LetsOut (AtLast P ops Q k)) : LetsOut Q := by
  obtain ⟨a, w, h⟩ := h
  exact ⟨a, w, h⟩

theorem operWp_last {o : Oper} {a : Act} {w : World} {K : Act → World → Prop} (h : Oper.wp P o a w K (AtLast P ops Q k)) : Oper.wp P o a w K Q := by
  unfold Oper.wp at *
  cases hr : (execOp a.eval o).run P w with
  | ok n w' =>
    rw [hr] at h
    cases n with
    | enter f args => exact Calls.mono h (fun e w'' he => by
        cases e with
        | returned v => exact he
        | panicked c => exact he
        | outgrown => exact atLast_lets he)
    | _ => exact h
  | halt x w' =>
    rw [hr] at h
    cases x <;> exact h

theorem wpOp_last {i : Nat} {a : Act} {w : World} {K : Act → World → Prop} (h : wpOp P ops (AtLast P ops Q k) i K a w) : wpOp P ops Q i K a w := by
  unfold wpOp at *
  cases ho : ops[i]? with
  | none => rw [ho] at h; exact h
  | some o =>
    rw [ho] at h
    dsimp only at h ⊢
    split
    · rename_i hw
      rw [if_pos hw] at h
      exact h.imp operWp_last (fun ⟨h1, h2⟩ => ⟨h1, atLast_lets h2⟩)
    · rename_i hw
      rw [if_neg hw] at h
      exact h

/-- Nobody waits for a later one. -/
def backB (md : Region.Mode) (ops : Array Oper) : Bool :=
  (List.range ops.size).all fun j => match ops[j]? with
    | some o => o.after.all fun e => !Region.binds md e || decide (e.on < j)
    | none => true
theorem backB_spec (h : backB md ops = true) {j : Nat} {o : Oper} (hj : ops[j]? = some o) {e} (he : e ∈ o.after) (hb : Region.binds md e = true) : e.on < j := by
  have hl : j < ops.size := (Array.getElem?_eq_some_iff.1 hj).1
  have h1 := List.all_eq_true.1 h j (List.mem_range.2 hl)
  rw [hj] at h1
  have h2 := Array.all_eq_true'.1 h1 e he
  simpa [hb] using h2

theorem ready_cases {listed : Array Bool} (hk : ops.size = k + 1) (hback : backB md ops = true) (hs : Region.sinkB md ops k = true) (hc : Region.chainB md ops k = true) (inv : HeadInv md ops k listed) :
    (∀ i, i ∈ Region.ready md ops (listed.setIfInBounds k true) → i ∈ Region.ready md ops listed ∧ i < k) ∧ (k ∈ Region.ready md ops listed → Region.ready md ops (listed.setIfInBounds k true) = []) ∧ (Region.ready md ops (listed.setIfInBounds k true) = [] → k ∈ Region.ready md ops listed) := by
  have h1 : ∀ i, i ∈ Region.ready md ops (listed.setIfInBounds k true) → i ∈ Region.ready md ops listed ∧ i < k := by
    intro i hi
    obtain ⟨hun, o, ho, hall⟩ := mem_ready.1 hi
    have hil : i < ops.size := (Array.getElem?_eq_some_iff.1 ho).1
    have hik : i ≠ k := by
      rintro rfl
      have : (listed.setIfInBounds i true).getD i true = true := by simp [inv.size, hil]
      rw [this] at hun; cases hun
    have hik' : i < k := by omega
    rw [getD_set_ne true (Ne.symm hik)] at hun
    refine ⟨mem_ready.2 ⟨hun, o, ho, fun e he hb => ?_⟩, hik'⟩
    have h2 := hall e he hb
    have h3 := backB_spec hback ho he hb
    rwa [getD_set_ne false (by omega)] at h2
  have hall : (∀ i, i < k → listed.getD i true = true) → k ∈ Region.ready md ops listed := by
    intro h
    obtain ⟨o, ho⟩ : ∃ o, ops[k]? = some o := ⟨_, Array.getElem?_eq_getElem (by omega)⟩
    refine mem_ready.2 ⟨inv.tail k (Nat.le_refl _) (by omega), o, ho, fun e he hb => ?_⟩
    have h3 := backB_spec hback ho he hb
    have h4 := h e.on h3
    have h5 : e.on < listed.size := by rw [inv.size]; omega
    simpa [h5] using h4
  refine ⟨h1, fun hkr => ?_, fun hnil => hall fun i hi => ?_⟩
  · rcases hr : Region.ready md ops (listed.setIfInBounds k true) with _ | ⟨i, r⟩
    · rfl
    · obtain ⟨hir, hik⟩ := h1 i (by rw [hr]; exact List.mem_cons_self)
      exact absurd hkr (tail_waits hs hc (by omega) inv (k - i) i rfl hik (mem_ready.1 hir).1 k (Nat.le_refl _))
  · -- the least that has not come up could come up
    cases hl : listed.getD i true with
    | true => rfl
    | false =>
      exfalso
      obtain ⟨m, ⟨hm, hml⟩, hmin⟩ : ∃ m, (m < k ∧ listed.getD m true = false) ∧ ∀ j, j < m → listed.getD j true = true := by
        clear hall h1 hnil
        induction i using Nat.strongRecOn with
        | _ i ih =>
          by_cases h : ∃ j, j < i ∧ listed.getD j true = false
          · obtain ⟨j, hj, hjl⟩ := h
            exact ih j hj (by omega) hjl
          · refine ⟨i, ⟨hi, hl⟩, fun j hj => ?_⟩
            cases hh : listed.getD j true with
            | true => rfl
            | false => exact absurd ⟨j, hj, hh⟩ h
      obtain ⟨o, ho⟩ : ∃ o, ops[m]? = some o := ⟨_, Array.getElem?_eq_getElem (by omega)⟩
      have : m ∈ Region.ready md ops (listed.setIfInBounds k true) := by
        refine mem_ready.2 ⟨by rw [getD_set_ne true (by omega)]; exact hml, o, ho, fun e he hb => ?_⟩
        have h3 := backB_spec hback ho he hb
        have h4 := hmin e.on h3
        have h5 : e.on < listed.size := by rw [inv.size]; omega
        rw [getD_set_ne false (by omega)]
        simpa [h5] using h4
      rw [hnil] at this
      cases this

theorem wpAny_last (hk : ops.size = k + 1) (hback : backB md ops = true) (hs : Region.sinkB md ops k = true) (hc : Region.chainB md ops k = true) :
    ∀ (fuel : Nat) (listed : Array Bool) (a : Act) (w : World), HeadInv md ops k listed → wpAny P md ops (AtLast P ops Q k) fuel (listed.setIfInBounds k true) a w → wpAny P md ops Q (fuel + 1) listed a w
  | 0, listed, a, w, inv, h => by
    obtain ⟨r1, r2, r3⟩ := ready_cases hk hback hs hc inv
    obtain ⟨hnil, hq⟩ := h
    have hkr := r3 hnil
    refine ⟨fun h0 => (by rw [h0] at hkr; cases hkr), fun i hi => ?_⟩
    by_cases hik : i = k
    · subst hik
      exact wpOp_mono (fun a' w' h' => ⟨hnil, h'⟩) hq
    · have := ready_mono hi hik
      rw [hnil] at this; cases this
  | fuel + 1, listed, a, w, inv, h => by
    obtain ⟨r1, r2, r3⟩ := ready_cases hk hback hs hc inv
    refine ⟨fun h0 => ?_, fun i hi => ?_⟩
    · rcases hr : Region.ready md ops (listed.setIfInBounds k true) with _ | ⟨i, r⟩
      · have := r3 hr; rw [h0] at this; cases this
      · have := (r1 i (by rw [hr]; exact List.mem_cons_self)).1
        rw [h0] at this; cases this
    · by_cases hik : i = k
      · subst hik
        have hnil := r2 hi
        exact wpOp_mono (fun a' w' h' => ⟨fun _ => h', fun j hj => by rw [hnil] at hj; cases hj⟩) (h.1 hnil)
      · have hi' := ready_mono hi hik
        have hik' := (r1 i hi').2
        have := h.2 i hi'
        refine wpOp_last (k := k) (wpOp_mono (fun a' w' h' => ?_) this)
        rw [Array.setIfInBounds_comm _ _ (Ne.symm hik)] at h'
        exact wpAny_last hk hback hs hc fuel _ a' w' (inv.set hi hik') h'

/-- THE BEGINNING: all but the last under a condition S; then the last. -/
theorem wp_region_last {id : Nat} {a : Act} {w : World} {S : World → Prop} (hm : P.follows .mixedOrders = true) (hk : ops.size = k + 1) (hback : backB .any ops = true) (hs : Region.sinkB .any ops k = true) (hc : Region.chainB .any ops k = true)
    (h : wpAnyH P .any ops (AtLast P ops Q k) S k ((Array.replicate ops.size false).setIfInBounds k true) a w.drew) : (Code.region id ops true).wp P Q a w := by
  refine wp_region_any hm ?_
  rw [hk]
  refine wpAny_last hk hback hs hc k _ a _ ⟨by simp [hk], fun j oj _ hl => (by rw [getD_replicate_false] at hl; cases hl), fun t _ ht => getD_in (by simpa using by omega) (getD_replicate_false _ _)⟩ ?_
  have := wpAny_of_held _ _ _ _ h
  rw [hk] at this
  exact this
end
end Go.Proofs.YtkdidinekoaobaaGreatDoor
