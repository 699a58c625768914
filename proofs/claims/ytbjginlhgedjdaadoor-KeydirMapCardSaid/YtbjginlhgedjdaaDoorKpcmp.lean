/- The program's order of places; the keys from one on, as they lie in the ring, and in order. -/
import Derived.Test.YtbjginlhgedjdaaDoorKpdir
import Derived.Test.YtbjginlhgedjdaaDoorKplaid
import Derived.Test.YtbjginlhgedjdaaDoorBord
namespace Go.Proofs.YtbjginlhgedjdaaDoor.K
open Go.RowKit Go.Shelf Go.Sort
set_option linter.unusedVariables false

/-! ### plain facts -/
theorem cmpB_lt : ∀ a b : List UInt8, decide (Lib.compareBytes a b < 0) = lt a b
  | [], [] => by rw [lt_irrefl]; rfl
  | [], b :: ys => by
    rw [show lt [] (b :: ys) = true from (lt_iff _ _).2 (by simp)]; rfl
  | a :: xs, [] => by
    cases h : lt (a :: xs) []
    · rfl
    · have := (lt_iff _ _).1 h; simp at this
  | a :: xs, b :: ys => by
    unfold Lib.compareBytes
    have ih := cmpB_lt xs ys
    by_cases h1 : a < b
    · rw [if_pos h1, show lt (a :: xs) (b :: ys) = true from (lt_iff _ _).2 (List.cons_lt_cons_iff.2 (Or.inl h1))]; rfl
    · rw [if_neg h1]
      by_cases h2 : b < a
      · rw [if_pos h2]
        cases h : lt (a :: xs) (b :: ys)
        · rfl
        · rcases List.cons_lt_cons_iff.1 ((lt_iff _ _).1 h) with g | ⟨g, _⟩
          · exact absurd g h1
          · subst g; exact absurd h2 (UInt8.lt_irrefl _)
      · rw [if_neg h2, ih]
        have e : a = b := UInt8.le_antisymm (UInt8.not_lt.1 h2) (UInt8.not_lt.1 h1)
        subst e
        cases h : lt xs ys
        · cases k : lt (a :: xs) (a :: ys)
          · rfl
          · rcases List.cons_lt_cons_iff.1 ((lt_iff _ _).1 k) with g | ⟨_, g⟩
            · exact absurd g h1
            · rw [(lt_iff _ _).2 g] at h; cases h
        · exact ((lt_iff _ _).2 (List.cons_lt_cons_iff.2 (Or.inr ⟨rfl, (lt_iff _ _).1 h⟩))).symm
/-- The order of places. -/
def cfE (x y : Ent Lc) : Int := Lib.compareBytes x.1 y.1
instance : Inhabited (Ent Lc) := ⟨([], noLoc)⟩
theorem ltE (x y : Ent Lc) : ltOf cfE x y = lt x.1 y.1 := by unfold ltOf cfE; exact cmpB_lt _ _
theorem swoE : SWO (ltOf cfE) where
  irrefl x := by rw [ltE]; exact lt_irrefl _
  trans x y z h1 h2 := by rw [ltE] at *; exact lt_trans h1 h2
  ntrans x y z h1 h2 := by
    rw [ltE] at *
    cases h : lt x.1 z.1
    · rfl
    · by_cases e : y.1 = x.1
      · rw [e] at h2; rw [h2] at h; cases h
      · have g := lt_total h1 (fun e' => e e'.symm)
        rw [lt_trans g h] at h2; cases h2

/-- The keys from one on, as they lie in the ring. -/
def psel (k : List UInt8) : Option (Ent Lc) → List (Ent Lc)
  | none => []
  | some s => if lt s.1 k then [] else [s]
def sel (S : Dr) (k : List UInt8) : List (Ent Lc) := S.flatMap (psel k)
theorem sel_take {S : Dr} {k : List UInt8} {i : Nat} {o : Option (Ent Lc)} (h : S[i]? = some o) : sel (S.take (i + 1)) k = sel (S.take i) k ++ psel k o := by
  unfold sel
  rw [List.take_add_one, h, List.flatMap_append]
  simp [List.flatMap]
theorem sel_all (S : Dr) (k : List UInt8) : sel (S.take S.length) k = sel S k := by rw [List.take_length]
theorem psel_len (k : List UInt8) (o : Option (Ent Lc)) : (psel k o).length ≤ 1 := by
  cases o with
  | none => simp [psel]
  | some s => simp only [psel]; split <;> simp
theorem sel_len : ∀ (S : Dr) (k : List UInt8), (sel S k).length ≤ S.length
  | [], k => by simp [sel]
  | o :: r, k => by
    have := sel_len r k
    have := psel_len k o
    unfold sel at *
    rw [List.flatMap_cons, List.length_append, List.length_cons]; omega
theorem mem_psel {k : List UInt8} {o : Option (Ent Lc)} {s : Ent Lc} : s ∈ psel k o ↔ o = some s ∧ lt s.1 k = false := by
  cases o with
  | none => simp [psel]
  | some t =>
    simp only [psel]
    cases h : lt t.1 k
    · simp only [Bool.false_eq_true, if_false, List.mem_singleton, Option.some.injEq]
      constructor
      · rintro rfl; exact ⟨rfl, h⟩
      · rintro ⟨rfl, _⟩; rfl
    · simp only [if_true, List.not_mem_nil, Option.some.injEq, false_iff]
      rintro ⟨rfl, g⟩; rw [h] at g; cases g
theorem mem_sel {S : Dr} {k : List UInt8} {s : Ent Lc} : s ∈ sel S k ↔ (∃ i, Has S i s.1 s.2) ∧ lt s.1 k = false := by
  unfold sel
  rw [List.mem_flatMap]
  constructor
  · rintro ⟨o, ho, hs⟩
    obtain ⟨rfl, h⟩ := mem_psel.1 hs
    obtain ⟨i, hi⟩ := List.mem_iff_getElem?.1 ho
    exact ⟨⟨i, hi⟩, h⟩
  · rintro ⟨⟨i, hi⟩, h⟩
    exact ⟨some s, List.mem_of_getElem? hi, mem_psel.2 ⟨rfl, h⟩⟩
theorem sel_apart {k : List UInt8} (S : Dr) (ho : One S) : (sel S k).Pairwise (fun a b => a.1 ≠ b.1) := by
  revert ho
  refine snoc_ind (p := fun S => One S → (sel S k).Pairwise (fun a b => a.1 ≠ b.1)) (fun _ => by simp [sel]) (fun S o ih ho => ?_) S
  have e : sel (S ++ [o]) k = sel S k ++ psel k o := by unfold sel; rw [List.flatMap_append]; simp
  rw [e, List.pairwise_append]
  refine ⟨ih (one_left ho), ?_, fun a ha b hb => ?_⟩
  · cases o with
    | none => simp [psel]
    | some s => simp only [psel]; split <;> simp
  · obtain ⟨⟨i, hi⟩, _⟩ := mem_sel.1 ha
    obtain ⟨rfl, _⟩ := mem_psel.1 hb
    intro e
    have h1 : Has (S ++ [some b]) i a.1 a.2 := by unfold Has; rw [List.getElem?_append_left (has_lt hi)]; exact hi
    have h2 : Has (S ++ [some b]) S.length a.1 b.2 := by unfold Has; rw [List.getElem?_append_right (Nat.le_refl _), e]; simp
    have := ho _ _ _ _ _ h1 h2
    have := has_lt hi
    omega
/-- Sorted, they are the directory's keys from one on. -/
theorem sorted_is {S : Dr} {k : List UInt8} (ho : One S) {d : Array (Ent Lc)} (hp : PermIn 0 (sel S k).toArray.size (sel S k).toArray d) (hs : SortedIn (ltOf cfE) 0 (sel S k).toArray.size d) : d.toList = (sre S).filter (fun s => !lt s.1 k) := by
  obtain ⟨h1, _, h2⟩ := hp
  have e1 : ((sel S k).toArray.extract 0 (sel S k).toArray.size).toList = sel S k := by simp
  have e2 : (d.extract 0 (sel S k).toArray.size).toList = d.toList := by rw [← h1]; simp
  rw [e1, e2] at h2
  have ha : d.toList.Pairwise (fun a b => a.1 ≠ b.1) := (h2.pairwise_iff (fun h e => h e.symm)).2 (sel_apart S ho)
  have hn : d.toList.Pairwise (fun a b => lt b.1 a.1 = false) := by
    rw [List.pairwise_iff_getElem]
    intro i j hi hj hij
    have := hs i j (Nat.zero_le _) hij (by rw [← h1]; simpa using hj)
    rw [ltE] at this
    simp only [Array.length_toList] at hi hj
    rw [getElem!_pos d i hi, getElem!_pos d j hj] at this
    simpa using this
  have hu : Up Prod.fst d.toList := (ha.and hn).imp (fun ⟨g1, g2⟩ => lt_total g2 (fun e => g1 e.symm))
  refine up_ext hu ((sre_up ho).filter _) (fun x => ?_)
  rw [h2.mem_iff, mem_sel, List.mem_filter]
  obtain ⟨k', v⟩ := x
  rw [sre_mem]
  simp

/-! ### the program's order of places -/
/-- A place as a value. -/
def placeV (s : Ent Lc) (b : Bool) : Value := .agg #[.string (bs s.1), .int .i64 s.2.seg, .int .i64 s.2.off, .int .i64 s.2.len, .int .u64 s.2.seq, .bool b]
set_option maxHeartbeats 400000 in
theorem pcompare_any (x y : Ent Lc) (b c : Bool) (W : World) : Calls Tryd.prog 41 #[placeV x b, placeV y c] W fun e w' => e = .returned (.int .i64 (cfE x y)) ∧ ∃ q os', w' = Go.Sort.grow (W.drewN q) os' := by
  have hcon := fun W' => Any.strings_Compare layCmp (bs x.1) (bs y.1) W'
  change ∀ W', Calls Tryd.prog 44 _ _ _ at hcon
  rw [show Lib.compareBytes (bs x.1).data.toList (bs y.1).data.toList = cfE x y by unfold cfE; rw [bs_list, bs_list]] at hcon
  generalize cfE x y = r at hcon ⊢
  unfold placeV
  go_enter Tryd.func41, Tryd.ntmps41
  go_wp2_with (go_at_call 44; refine (hcon _).mono ?_; rintro e w' ⟨rfl, rfl⟩)
  go_ret
  exact ⟨rfl, 0, _, by rw [alloc_eq_grow, alloc_eq_grow, grow_grow]; rfl⟩
theorem cmpLays (blk off size : Nat) (w : World) : CmpLays Tryd.prog 41 #[] (fun x : Ent Lc => slotv (some x)) 6 cfE blk off size w :=
  fun _ _ _ _ x y => pcompare_any x y true true _
end Go.Proofs.YtbjginlhgedjdaaDoor.K
