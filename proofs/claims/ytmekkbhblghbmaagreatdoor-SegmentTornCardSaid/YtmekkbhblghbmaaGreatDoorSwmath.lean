/- A disk on which batches were written to one segment: plain facts. -/
import Derived.Test.YtmekkbhblghbmaaGreatDoorSmath
import Derived.Test.YtmekkbhblghbmaaGreatDoorSref4
namespace Go.Proofs.YtmekkbhblghbmaaGreatDoor
open Go.RowKit
set_option linter.unusedVariables false

/-- A disk of the laws' own room with one file, with power. -/
def tSt (nm bt : List UInt8) (s : Nat) : D.St := ⟨262144, [⟨nm, bt, s⟩], -1, false⟩
/-- .. behind so many batches. -/
def wSt (n : Int) (l : List (List Rc)) : D.St := if l = [] then ⟨262144, [], -1, false⟩ else tSt (sN n) (cat l) 0
theorem wSt_nil (n : Int) : wSt n [] = ⟨262144, [], -1, false⟩ := rfl
theorem wSt_some (n : Int) {l : List (List Rc)} (h : l ≠ []) : wSt n l = tSt (sN n) (cat l) 0 := by unfold wSt; rw [if_neg h]
theorem wSt_few (n : Int) (l : List (List Rc)) : (wSt n l).fs.length ≤ 1 := by
  unfold wSt
  split
  · simp
  · simp [tSt]
theorem tSt_find (nm bt : List UInt8) (s : Nat) : D.find (tSt nm bt s).fs nm = some ⟨nm, bt, s⟩ := by simp [D.find, tSt]
theorem tSt_burns (nm bt : List UInt8) (s : Nat) : D.burns (tSt nm bt s) = true := rfl
theorem burnt_lit (r : Int) (fs : List D.Fl) : D.burnt ⟨r, fs, -1, false⟩ = ⟨r, fs, -1, false⟩ := rfl
theorem puts_one (nm bt b2 : List UInt8) (s s2 : Nat) : D.puts (tSt nm bt s) ⟨nm, b2, s2⟩ = tSt nm b2 s2 := by
  unfold D.puts tSt
  simp [wo, ins]
theorem tSt_left (nm bt : List UInt8) (s : Nat) : D.left (tSt nm bt s) = 262144 - bt.length := by
  unfold D.left tSt
  simp [D.total]

/-! ### Write -/
theorem ap_one {nm bt b : List UInt8} {s : Nat} (hr : D.rightName nm = true) (hl : bt.length + b.length ≤ 262144) : D.apE (tSt nm bt s) nm b = 0 ∧ D.apS (tSt nm bt s) nm b = tSt nm (bt ++ b) s := by
  have h1 : (b.length : Int) ≤ D.left (tSt nm bt s) := by rw [tSt_left]; omega
  constructor
  · unfold D.apE; rw [if_pos hr, if_pos (tSt_burns _ _ _), if_pos h1]
  · unfold D.apS D.apF
    rw [if_pos hr, if_pos ⟨tSt_burns _ _ _, h1⟩, tSt_find]
    exact puts_one nm bt (bt ++ b) s s
theorem ap_first {nm b : List UInt8} (hr : D.rightName nm = true) (hl : b.length ≤ 262144) : D.apE ⟨262144, [], -1, false⟩ nm b = 0 ∧ D.apS ⟨262144, [], -1, false⟩ nm b = tSt nm b 0 := by
  have h1 : (b.length : Int) ≤ D.left ⟨262144, [], -1, false⟩ := by show (b.length : Int) ≤ 262144 - 0; omega
  constructor
  · unfold D.apE; rw [if_pos hr, if_pos (show D.burns ⟨262144, [], -1, false⟩ = true from rfl), if_pos h1]
  · unfold D.apS D.apF
    rw [if_pos hr, if_pos ⟨(show D.burns ⟨262144, [], -1, false⟩ = true from rfl), h1⟩]
    rfl
theorem wr_step {n : Int} (hn : segOk n) {l : List (List Rc)} {b : List Rc} (hb : good b = true) (hl : (cat l).length + (fbs b).length ≤ 262144) : wrE (wSt n l) n b = 0 ∧ wrS (wSt n l) n b = wSt n (l ++ [b]) := by
  have hr := sN_right hn
  unfold wrE wrS
  rw [if_pos ⟨hn, hb⟩, if_pos ⟨hn, hb⟩, wSt_some n (l := l ++ [b]) (by simp), cat_snoc]
  cases l with
  | nil => exact ap_first hr (by simp [cat] at hl; exact hl)
  | cons x l => rw [wSt_some n (by simp)]; exact ap_one hr hl
theorem wr_on {n : Int} (hn : segOk n) {bt : List UInt8} {s : Nat} {b : List Rc} (hb : good b = true) (hl : bt.length + (fbs b).length ≤ 262144) :
    wrE (tSt (sN n) bt s) n b = 0 ∧ wrS (tSt (sN n) bt s) n b = tSt (sN n) (bt ++ fbs b) s ∧ wrL (tSt (sN n) bt s) n b = moved bt.length (hof 0 [b]) := by
  have hr := sN_right hn
  obtain ⟨h1, h2⟩ := ap_one (s := s) hr hl
  have e1 : wrE (tSt (sN n) bt s) n b = 0 := by unfold wrE; rw [if_pos ⟨hn, hb⟩]; exact h1
  refine ⟨e1, by unfold wrS; rw [if_pos ⟨hn, hb⟩]; exact h2, ?_⟩
  unfold wrL
  rw [e1, if_pos rfl, fileB_some (tSt_find _ _ _)]
theorem wr_bad {S : D.St} {n : Int} {b : List Rc} (hb : ¬ good b = true) : wrE S n b = 1 ∧ wrS S n b = S := ⟨by unfold wrE; rw [if_neg (fun h => hb h.2)], by unfold wrS; rw [if_neg (fun h => hb h.2)]⟩

/-! ### the entries of what is written behind -/
theorem rows_moved (k : Nat) : ∀ (l : List Rc) (off : Nat), rows (off + k) l = moved k (rows off l)
  | [], _ => rfl
  | r :: l, off => by
    have h := rows_moved k l (off + (enc r).length)
    rw [show off + (enc r).length + k = off + k + (enc r).length by omega] at h
    unfold rows
    rw [h]
    simp [moved, ent]
theorem hof_moved (k : Nat) : ∀ (ll : List (List Rc)) (a : Nat), hof (a + k) ll = moved k (hof a ll)
  | [], _ => rfl
  | l :: ll, a => by
    have h := hof_moved k ll (a + (fbs l).length)
    rw [show a + (fbs l).length + k = a + k + (fbs l).length by omega] at h
    unfold hof
    rw [h, show a + k + head l = a + head l + k by omega, rows_moved]
    simp [moved]

/-! ### Load -/
theorem fs_whole {ll : List (List Rc)} (h : ∀ l ∈ ll, good l = true) : fs (cat ll) = (ll, (cat ll).length) := by
  have := fs_cat ll [] h ft_nil (by omega)
  rwa [List.append_nil] at this
theorem ld_t {n : Int} (hn : segOk n) {bt : List UInt8} {s : Nat} {ll : List (List Rc)} {k : Nat} (h : fs bt = (ll, k)) : ∃ s', ldE (tSt (sN n) bt s) n = 0 ∧ ldS (tSt (sN n) bt s) n = tSt (sN n) (cat ll) s' ∧ ldL (tSt (sN n) bt s) n = hof 0 ll := by
  obtain ⟨h1, h2, h3⟩ := fs_ok h
  have hf := tSt_find (sN n) bt s
  have hle : k ≤ bt.length := by
    have := congrArg List.length h3
    rw [List.length_append] at this
    omega
  by_cases hk : k < bt.length
  · have hk' : (fs bt).2 < bt.length := by rw [h]; exact hk
    obtain ⟨e1, e2, e3⟩ := ld_torn (S := tSt (sN n) bt s) hn hf hk'
    have c1 : D.ctE (tSt (sN n) bt s) (sN n) ((fs bt).2 : Int) = 0 := by
      unfold D.ctE
      rw [hf]
      dsimp only
      rw [if_pos ⟨by omega, by omega⟩, if_pos (tSt_burns _ _ _)]
    have c2 : D.ctS (tSt (sN n) bt s) (sN n) ((fs bt).2 : Int) = tSt (sN n) (cat ll) (min s k) := by
      unfold D.ctS
      rw [hf]
      dsimp only
      rw [if_pos ⟨by omega, by omega⟩, if_pos (tSt_burns _ _ _), h]
      dsimp only
      rw [show D.burnt (tSt (sN n) bt s) = tSt (sN n) bt s from rfl, Int.toNat_natCast, puts_one]
      congr 1
      rw [h3, List.take_append_of_le_length (by omega), List.take_of_length_le (by omega)]
    dsimp only at e1 e2 e3
    refine ⟨min s k, by rw [e1, c1], by rw [e2, c2], ?_⟩
    rw [e3, c1, if_pos rfl, h]
  · have hk' : ¬ (fs bt).2 < bt.length := by rw [h]; exact hk
    obtain ⟨e1, e2, e3⟩ := ld_whole (S := tSt (sN n) bt s) hn hf hk'
    have e4 : bt = cat ll := by
      have : bt.drop k = [] := List.drop_of_length_le (by omega)
      rw [this, List.append_nil] at h3
      exact h3
    refine ⟨s, e1, by rw [e2, ← e4], ?_⟩
    rw [e3]
    dsimp only
    rw [h]

/-! ### Get -/
theorem gt_t {n : Int} (hn : segOk n) {ll : List (List Rc)} {s : Nat} (hg : ∀ l ∈ ll, good l = true) (hl : (cat ll).length ≤ 1048576) {i : Nat} (hi : i < (hof 0 ll).length) :
    gtR (tSt (sN n) (cat ll) s) n (hof 0 ll)[i] = (ll.flatten[i]'(by rw [← hof_len 0]; exact hi), 0) := by
  unfold gtR
  rw [if_pos hn, tSt_find]
  dsimp only
  rw [hat_at hg hl hi]
  rfl

/-! ### a crash -/
theorem cr_t (nm bt : List UInt8) (kept : Int) : D.crS (tSt nm bt 0) [kept] = tSt nm (bt.take (min kept.toNat bt.length)) (min kept.toNat bt.length) := by
  unfold D.crS tSt
  simp [D.crash, D.stays]

/-! ### how many bytes batches have -/
theorem cat_le : ∀ ll : List (List Rc), (∀ l ∈ ll, good l = true) → (cat ll).length ≤ 6000 * ll.length
  | [], _ => by simp [cat]
  | l :: ll, h => by
    have h1 := (fbs_len (h l (by simp))).2
    have h2 := cat_le ll (fun x hx => h x (by simp [hx]))
    rw [cat_cons, List.length_append, List.length_cons]
    omega
theorem flat_le : ∀ ll : List (List Rc), (∀ l ∈ ll, good l = true) → ll.flatten.length ≤ 16 * ll.length
  | [], _ => by simp
  | l :: ll, h => by
    have h1 := ((good_iff l).1 (h l (by simp))).1.2
    have h2 := flat_le ll (fun x hx => h x (by simp [hx]))
    rw [List.flatten_cons, List.length_append, List.length_cons]
    omega
end Go.Proofs.YtmekkbhblghbmaaGreatDoor
