/- Merged out of 15 texts, in build order: Rmath, Rbuild, Rright, Renc, Rall, Rread, Rread2, Rlist, Ropen, Ropens, Rsame, Rrefs, Rrefread, Rreflists, Rone. -/
import Derived.Test.YtmekkbhblghbmaaGreatDoorVb
import Derived.Shelf.Strings.Builder1
import Derived.Test.YtmekkbhblghbmaaGreatDoorVc
import Derived.Deep.RegionHeld3
import Derived.OpenShut
import Derived.Lib.SmallJoins
import Derived.ProofKit
import Derived.ShutString
import Derived.Deep.Slices
import Derived.ChangeOld

/- Plain facts on records as rows of bytes: what a record's bytes are, what a row of bytes begins with, that they undo one another, and that a beginning is too short. Nothing of the program is used here. -/
namespace Go.Proofs.YtmekkbhblghbmaaGreatDoor

/-- A record: number, key, value, is it gone? -/
structure Rc where
  q : Nat
  k : List UInt8
  v : List UInt8
  g : Bool

theorem Rc.ext' {a b : Rc} (h1 : a.q = b.q) (h2 : a.k = b.k) (h3 : a.v = b.v) (h4 : a.g = b.g) : a = b := by
  cases a; cases b; simp_all

def Rc.z : Rc := ⟨0, [], [], false⟩

/-- May a record be? -/
def right (r : Rc) : Bool := decide (1 ≤ r.q) && decide (r.q ≤ 1099511627776) && decide (1 ≤ r.k.length) && decide (r.k.length ≤ 40) && decide (r.v.length ≤ 300) && (!r.g || r.v.isEmpty)

theorem right_iff (r : Rc) : right r = true ↔ 1 ≤ r.q ∧ r.q ≤ 1099511627776 ∧ 1 ≤ r.k.length ∧ r.k.length ≤ 40 ∧ r.v.length ≤ 300 ∧ (r.g = true → r.v = []) := by
  unfold right
  cases r.g <;> simp [and_assoc]

/-- A text with its length ahead. -/
def txt (s : List UInt8) : List UInt8 := put s.length ++ s

/-- A record's bytes. -/
def enc (r : Rc) : List UInt8 := if r.g then put (2 * r.q + 1) ++ txt r.k else put (2 * r.q) ++ txt r.k ++ txt r.v

theorem enc_gone {r : Rc} (h : r.g = true) : enc r = put (2 * r.q + 1) ++ txt r.k := by rw [enc, if_pos h]
theorem enc_here {r : Rc} (h : r.g = false) : enc r = put (2 * r.q) ++ txt r.k ++ txt r.v := by rw [enc, if_neg (by simp [h])]

/-- What a row of bytes begins with, whether it may be or not. -/
def pt (l : List UInt8) : Rc × List UInt8 × Nat :=
  if (tk l).2.2 ≠ 0 then (Rc.z, [], (tk l).2.2)
  else if (ot (tk l).2.1).2.2 ≠ 0 then (Rc.z, [], (ot (tk l).2.1).2.2)
  else if (tk l).1 % 2 = 1 then (⟨(tk l).1 / 2, (ot (tk l).2.1).1, [], true⟩, (ot (tk l).2.1).2.1, 0)
  else (⟨(tk l).1 / 2, (ot (tk l).2.1).1, (ot (ot (tk l).2.1).2.1).1, false⟩, (ot (ot (tk l).2.1).2.1).2.1, (ot (ot (tk l).2.1).2.1).2.2)

theorem pt_num {l : List UInt8} {n : Nat} {r : List UInt8} {e : Nat} (h : tk l = (n, r, e)) (he : e ≠ 0) : pt l = (Rc.z, [], e) := by
  rw [pt, h, if_pos he]
theorem pt_key {l : List UInt8} {n : Nat} {r k s : List UInt8} {e : Nat} (h : tk l = (n, r, 0)) (h2 : ot r = (k, s, e)) (he : e ≠ 0) : pt l = (Rc.z, [], e) := by
  rw [pt, h, if_neg (by simp)]
  simp only [h2]
  rw [if_pos he]
theorem pt_gone {l : List UInt8} {n : Nat} {r k s : List UInt8} (h : tk l = (n, r, 0)) (h2 : ot r = (k, s, 0)) (hn : n % 2 = 1) : pt l = (⟨n / 2, k, [], true⟩, s, 0) := by
  rw [pt, h, if_neg (by simp)]
  simp only [h2]
  rw [if_neg (by simp), if_pos hn]
theorem pt_here {l : List UInt8} {n : Nat} {r k s v u : List UInt8} {e : Nat} (h : tk l = (n, r, 0)) (h2 : ot r = (k, s, 0)) (hn : ¬ n % 2 = 1) (h3 : ot s = (v, u, e)) : pt l = (⟨n / 2, k, v, false⟩, u, e) := by
  rw [pt, h, if_neg (by simp)]
  simp only [h2]
  rw [if_neg (by simp), if_neg hn]
  simp only [h3]

/-- The record that a row of bytes begins with. -/
def rd (l : List UInt8) : Rc × List UInt8 × Nat :=
  if (pt l).2.2 ≠ 0 then (Rc.z, [], (pt l).2.2)
  else if right (pt l).1 = true then ((pt l).1, (pt l).2.1, 0) else (Rc.z, [], 2)

theorem rd_err {l : List UInt8} {r : Rc} {s : List UInt8} {e : Nat} (h : pt l = (r, s, e)) (he : e ≠ 0) : rd l = (Rc.z, [], e) := by
  rw [rd, h, if_pos he]
theorem rd_no {l : List UInt8} {r : Rc} {s : List UInt8} (h : pt l = (r, s, 0)) (hr : right r = false) : rd l = (Rc.z, [], 2) := by
  rw [rd, h, if_neg (by simp), if_neg (by simp [hr])]
theorem rd_yes {l : List UInt8} {r : Rc} {s : List UInt8} (h : pt l = (r, s, 0)) (hr : right r = true) : rd l = (r, s, 0) := by
  rw [rd, h, if_neg (by simp), if_pos hr]

/-- What a text with its length ahead is, where it is taken. -/
theorem ot_ok {l s r : List UInt8} (h : ot l = (s, r, 0)) : l = txt s ++ r ∧ s.length < M64 := by
  rcases tk_cases l with ⟨e, _⟩ | e | ⟨n, q, e, hn, hl⟩
  · rw [ot_err e (by omega)] at h; simp at h
  · rw [ot_err e (by omega)] at h; simp at h
  · by_cases hs : q.length < n
    · rw [ot_short e hs] at h; simp at h
    · rw [ot_yes e hs] at h
      simp only [Prod.mk.injEq, and_true] at h
      obtain ⟨rfl, rfl⟩ := h
      have hlen : (q.take n).length = n := by simp; omega
      refine ⟨?_, by omega⟩
      rw [txt, hlen, List.append_assoc, List.take_append_drop]
      exact hl

theorem ot_txt {s r : List UInt8} (h : s.length < M64) : ot (txt s ++ r) = (s, r, 0) := ot_text h

theorem lt64 {n : Nat} (h : n ≤ 9223372036854775807) : n < M64 := by unfold M64; omega

/-- What was laid is read, with whatever behind it. -/
theorem rd_enc {r : Rc} (h : right r = true) (s : List UInt8) : rd (enc r ++ s) = (r, s, 0) := by
  refine rd_yes ?_ h
  obtain ⟨h1, h2, h3, h4, h5, h6⟩ := (right_iff r).1 h
  cases hg : r.g with
  | true =>
    rw [enc_gone hg, List.append_assoc]
    rw [pt_gone (tk_put (lt64 (by omega)) _) (ot_txt (lt64 (by omega))) (by omega)]
    have hv := h6 hg
    refine Prod.ext ?_ rfl
    refine Rc.ext' ?_ rfl hv.symm hg.symm
    show (2 * r.q + 1) / 2 = r.q
    omega
  | false =>
    rw [enc_here hg, List.append_assoc, List.append_assoc]
    rw [pt_here (tk_put (lt64 (by omega)) _) (ot_txt (lt64 (by omega))) (by omega) (ot_txt (lt64 (by omega)))]
    refine Prod.ext ?_ rfl
    refine Rc.ext' ?_ rfl rfl hg.symm
    show 2 * r.q / 2 = r.q
    omega

/-- What is read has just these bytes, and may be. -/
theorem rd_ok {l : List UInt8} {r : Rc} {s : List UInt8} (h : rd l = (r, s, 0)) : right r = true ∧ l = enc r ++ s := by
  obtain ⟨r', s', e', hp⟩ : ∃ r s e, pt l = (r, s, e) := ⟨_, _, _, rfl⟩
  by_cases he : e' = 0
  · subst he
    cases hr : right r' with
    | false => rw [rd_no hp hr] at h; simp at h
    | true =>
      rw [rd_yes hp hr] at h
      simp only [Prod.mk.injEq, and_true] at h
      obtain ⟨rfl, rfl⟩ := h
      refine ⟨hr, ?_⟩
      rcases tk_cases l with ⟨e, _⟩ | e | ⟨n, q, e, hn, hl⟩
      · rw [pt_num e (by omega)] at hp; simp at hp
      · rw [pt_num e (by omega)] at hp; simp at hp
      · obtain ⟨k, u, eu, ho⟩ : ∃ k u e, ot q = (k, u, e) := ⟨_, _, _, rfl⟩
        by_cases hu : eu = 0
        · subst hu
          obtain ⟨ho1, _⟩ := ot_ok ho
          by_cases hn2 : n % 2 = 1
          · rw [pt_gone e ho hn2] at hp
            simp only [Prod.mk.injEq, and_true] at hp
            obtain ⟨rfl, rfl⟩ := hp
            rw [enc_gone rfl, hl, ho1, List.append_assoc, show 2 * (n / 2) + 1 = n from by omega]
          · obtain ⟨v, x, ex, hv⟩ : ∃ k x e, ot u = (k, x, e) := ⟨_, _, _, rfl⟩
            rw [pt_here e ho hn2 hv] at hp
            simp only [Prod.mk.injEq] at hp
            obtain ⟨rfl, rfl, rfl⟩ := hp
            obtain ⟨hv1, _⟩ := ot_ok hv
            rw [enc_here rfl, hl, ho1, hv1, List.append_assoc, List.append_assoc, show 2 * (n / 2) = n from by omega]
        · rw [pt_key e ho hu] at hp; simp at hp; exact absurd hp.2.2 hu
  · rw [rd_err hp he] at h; simp at h; exact absurd h.2.2 he

theorem rd_cases (l : List UInt8) : (∃ e, e ≠ 0 ∧ e ≤ 3 ∧ rd l = (Rc.z, [], e)) ∨ ∃ r s, rd l = (r, s, 0) ∧ right r = true ∧ l = enc r ++ s := by
  obtain ⟨r, s, e, h⟩ : ∃ r s e, rd l = (r, s, e) := ⟨_, _, _, rfl⟩
  by_cases he : e = 0
  · subst he
    exact .inr ⟨r, s, h, rd_ok h⟩
  · refine .inl ?_
    obtain ⟨r', s', e', hp⟩ : ∃ r s e, pt l = (r, s, e) := ⟨_, _, _, rfl⟩
    have hot : ∀ u : List UInt8, (ot u).2.2 ≤ 3 := fun u => by
      rcases tk_cases u with ⟨e, _⟩ | e | ⟨n, q, e, _⟩
      · rw [ot_err e (by omega)]; simp
      · rw [ot_err e (by omega)]; simp
      · by_cases hs : q.length < n
        · rw [ot_short e hs]; simp
        · rw [ot_yes e hs]; simp
    have he3 : e' ≤ 3 := by
      rcases tk_cases l with ⟨e, _⟩ | e | ⟨n, q, e, _⟩
      · rw [pt_num e (by omega)] at hp; simp at hp; omega
      · rw [pt_num e (by omega)] at hp; simp at hp; omega
      · obtain ⟨k, u, eu, ho⟩ : ∃ k u e, ot q = (k, u, e) := ⟨_, _, _, rfl⟩
        have h1 := hot q
        rw [ho] at h1
        by_cases hu : eu = 0
        · subst hu
          by_cases hn2 : n % 2 = 1
          · rw [pt_gone e ho hn2] at hp; simp at hp; omega
          · obtain ⟨v, x, ex, hv⟩ : ∃ k x e, ot u = (k, x, e) := ⟨_, _, _, rfl⟩
            have h2 := hot u
            rw [hv] at h2
            rw [pt_here e ho hn2 hv] at hp; simp at hp h2; omega
        · rw [pt_key e ho hu] at hp; simp at hp h1; omega
    by_cases h0 : e' = 0
    · subst h0
      cases hr : right r' with
      | false => exact ⟨2, by omega, by omega, rd_no hp hr⟩
      | true => rw [rd_yes hp hr] at h; simp at h; omega
    · exact ⟨e', h0, he3, rd_err hp h0⟩

/-- A beginning of a record's bytes is too short. -/
theorem rd_cut {r : Rc} {k : Nat} (h : right r = true) (hk : k < (enc r).length) : rd ((enc r).take k) = (Rc.z, [], 3) := by
  obtain ⟨h1, h2, h3, h4, h5, h6⟩ := (right_iff r).1 h
  have cutTxt : ∀ (s : List UInt8) (j : Nat), s.length ≤ 300 → j < (txt s).length → ot ((txt s).take j) = ([], [], 3) := fun s j hs hj => ot_cut (lt64 (by omega)) hj
  cases hg : r.g with
  | true =>
    rw [enc_gone hg] at hk ⊢
    by_cases hp : k < (put (2 * r.q + 1)).length
    · rw [List.take_append_of_le_length (by omega)]
      exact rd_err (pt_num (tk_cut (lt64 (by omega)) hp) (by omega)) (by omega)
    · rw [List.take_append, List.take_of_length_le (by omega)]
      refine rd_err (pt_key (tk_put (lt64 (by omega)) _) (cutTxt r.k _ (by omega) ?_) (by omega)) (by omega)
      simp at hk
      omega
  | false =>
    rw [enc_here hg] at hk ⊢
    rw [List.append_assoc] at hk ⊢
    by_cases hp : k < (put (2 * r.q)).length
    · rw [List.take_append_of_le_length (by omega)]
      exact rd_err (pt_num (tk_cut (lt64 (by omega)) hp) (by omega)) (by omega)
    · rw [List.take_append, List.take_of_length_le (by omega)]
      generalize hj : k - (put (2 * r.q)).length = j
      have hj2 : j < (txt r.k ++ txt r.v).length := by simp at hk ⊢; omega
      by_cases hq : j < (txt r.k).length
      · rw [List.take_append_of_le_length (by omega)]
        exact rd_err (pt_key (tk_put (lt64 (by omega)) _) (cutTxt r.k _ (by omega) hq) (by omega)) (by omega)
      · rw [List.take_append, List.take_of_length_le (by omega)]
        refine rd_err (pt_here (tk_put (lt64 (by omega)) _) (ot_txt (lt64 (by omega))) (by omega) (cutTxt r.v _ (by omega) ?_)) (by omega)
        simp at hj2
        omega

theorem txt_len {s : List UInt8} (h : s.length ≤ 300) : (txt s).length ≤ 10 + s.length := by
  have := put_ten (lt64 (n := s.length) (by omega))
  rw [txt, List.length_append]; omega
theorem txt_pos (s : List UInt8) : 0 < (txt s).length := by
  have := put_pos s.length
  rw [txt, List.length_append]; omega

theorem enc_len {r : Rc} (h : right r = true) : 0 < (enc r).length ∧ (enc r).length ≤ 370 := by
  obtain ⟨h1, h2, h3, h4, h5, h6⟩ := (right_iff r).1 h
  have a := txt_len (s := r.k) (by omega)
  have b := txt_len (s := r.v) (by omega)
  have c := txt_pos r.k
  cases hg : r.g with
  | true =>
    have d := put_ten (lt64 (n := 2 * r.q + 1) (by omega))
    rw [enc_gone hg, List.length_append]; omega
  | false =>
    have d := put_ten (lt64 (n := 2 * r.q) (by omega))
    rw [enc_here hg, List.length_append, List.length_append]; omega

end Go.Proofs.YtmekkbhblghbmaaGreatDoor

/- What the calls of strings.Builder that the program makes do: WriteString appends, String tells all that was written. -/
namespace Go.Proofs.YtmekkbhblghbmaaGreatDoor
open Go.RowKit Go.Shelf

def bRen : Go.Shelf.Ren := ⟨fun | 169 => 110 | n => n, fun | 70 => 140 | 9 => 9 | 0 => 0 | 72 => 142 | 37 => 105 | 127 => 165 | 3 => 3 | 5 => 5 | n => n, fun | n => n⟩
theorem bLays : Go.Proofs.Lays.n169 Tryz.prog bRen := {
  mixed := by kernel_rfl
  f169 := Tryz.func110.trans (congrArg some (by kernel_rfl))
  t0 := Tryz.underlying0
  a0 := Tryz.isAgg0
  z0 := Tryz.sizeOf0
  v0 := Tryz.zeroValue0
  t3 := Tryz.underlying3
  a3 := Tryz.isAgg3
  z3 := Tryz.sizeOf3
  v3 := Tryz.zeroValue3
  t9 := Tryz.underlying9
  a9 := Tryz.isAgg9
  z9 := Tryz.sizeOf9
  v9 := Tryz.zeroValue9
  t37 := Tryz.underlying105
  a37 := Tryz.isAgg105
  z37 := Tryz.sizeOf105
  v37 := Tryz.zeroValue105
  t70 := Tryz.underlying140
  a70 := Tryz.isAgg140
  z70 := Tryz.sizeOf140
  v70 := Tryz.zeroValue140
  t72 := Tryz.underlying142
  a72 := Tryz.isAgg142
  z72 := Tryz.sizeOf142
  v72 := Tryz.zeroValue142
  t127 := Tryz.underlying165
  a127 := Tryz.isAgg165
  z127 := Tryz.sizeOf165
  v127 := Tryz.zeroValue165 }
theorem bExtra : Builder.Extra Tryz.prog bRen := {
  sizeBuilder := by kernel_rfl
  liesBuilder := by kernel_rfl
  t5 := Tryz.underlying5
  a5 := Tryz.isAgg5
  z5 := Tryz.sizeOf5
  v5 := Tryz.zeroValue5
  infoByte := by kernel_rfl
  cellsByte := by kernel_rfl
  sizeByte := by kernel_rfl
  neB5 := by decide }

/-- A builder in block b, of the call's own (from B on), that holds these bytes. -/
def Bld (B b : Nat) (l : List UInt8) (w : World) : Prop := Lib.IsBuilder 142 5 B b (Lib.byteCells l) w

theorem Bld.fresh (w : World) : Bld w.heap.size w.heap.size [] (w.alloc (.cells #[.pointer none, .slice none 0 0] 142)) := Lib.fresh_isBuilder _ _ w

theorem bstring_any (B b : Nat) (l : List UInt8) (w : World) (h : Bld B b l w) (hB : B ≤ w.heap.size) :
    Calls Tryz.prog 110 #[.pointer (some ⟨b, 0, none⟩)] w fun e w' => e = .returned (.string (bs l)) ∧ Below B w w' :=
  Any.Builder_String_any bLays bExtra B b l w h hB

set_option maxHeartbeats 1000000 in
set_option maxRecDepth 100000 in
theorem check_used (b : Nat) (w : World) (h0 : w.cell? ⟨b, 0, none⟩ = some (.pointer (some ⟨b, 0, none⟩))) :
    Calls Tryz.prog 133 #[.pointer (some ⟨b, 0, none⟩)] w fun e w' => e = .returned (.tuple #[]) ∧ w' = w := by
  obtain ⟨j, hj, _⟩ := Option.map_eq_some_iff.1 bExtra.sizeBuilder
  have hneq := Lib.run_neq_ptr_same (P := Tryz.prog) w ⟨b, 0, none⟩ Tryz.underlying140 hj
  go_enter Tryz.func133, Tryz.ntmps133
  go_wp2
  go_end0
  exact ⟨rfl, rfl⟩

set_option maxHeartbeats 1000000 in
set_option maxRecDepth 100000 in
theorem check_fresh (b : Nat) (w : World) (h0 : w.cell? ⟨b, 0, none⟩ = some (.pointer none)) (hsh : w.shape? b = some (142, 2)) (hfz : w.frozen? ⟨b, 0, none⟩ = false) :
    Calls Tryz.prog 133 #[.pointer (some ⟨b, 0, none⟩)] w fun e w' => e = .returned (.tuple #[]) ∧ w' = w.setCell ⟨b, 0, none⟩ (.pointer (some ⟨b, 0, none⟩)) := by
  obtain ⟨j, hj, hjs⟩ := Option.map_eq_some_iff.1 bExtra.sizeBuilder
  have e1 := Lib.run_to_unsafe (P := Tryz.prog) w ⟨b, 0, none⟩ Tryz.underlying140 Tryz.underlying180 hj (by rw [hjs]; decide) hsh (Nat.zero_lt_succ 1)
  have e2 := Lib.run_from_unsafe (P := Tryz.prog) w ⟨b, 0, none⟩ Tryz.underlying180 Tryz.underlying140 hj hsh bExtra.liesBuilder
  have e3 := fun args => run_callFunc_extern (w := w) (args := args) Tryz.func156 (by kernel_rfl) (by kernel_rfl) (by kernel_rfl) (e := Extern.AbiNoEscape.same) (by kernel_rfl)
  have e4 := Lib.run_noEscape (P := Tryz.prog) w
  go_enter Tryz.func133, Tryz.ntmps133
  go_wp2
  go_end0
  exact ⟨rfl, rfl⟩

theorem check_any (B b : Nat) (l : List UInt8) (w : World) (h : Bld B b l w) :
    Calls Tryz.prog 133 #[.pointer (some ⟨b, 0, none⟩)] w fun e w' => e = .returned (.tuple #[]) ∧ (Lib.BuilderAt 142 5 B b (.pointer (some ⟨b, 0, none⟩)) (Lib.byteCells l) w' ∧ Below B w w') := by
  rcases h with h | h
  · refine (check_fresh b w h.cell0 h.shape h.frozen0).mono ?_
    rintro e w' ⟨rfl, rfl⟩
    exact ⟨rfl, h.used _, (Below.refl B w).setCell (p := ⟨b, 0, none⟩) h.1 _⟩
  · refine (check_used b w h.cell0).mono ?_
    rintro e w' ⟨rfl, rfl⟩
    exact ⟨rfl, h, Below.refl B _⟩

set_option maxHeartbeats 1000000 in
set_option maxRecDepth 100000 in
theorem write_any (B b : Nat) (l s : List UInt8) (w : World) (h : Bld B b l w) (hlen : l.length + s.length ≤ 140737488355328) (hBw : B ≤ w.heap.size) :
    Calls Tryz.prog 107 #[.pointer (some ⟨b, 0, none⟩), .string (bs s)] w fun e w' => e = .returned (.tuple #[.int .i64 (s.length : Nat), .nilIface]) ∧ Bld B b (l ++ s) w' ∧ Below B w w' := by
  obtain ⟨i0, hi, hz0, hz1, hz2⟩ := info_parts bExtra.infoByte
  have hs := bs_size s
  have hc : Lib.byteCells (l ++ s) = Lib.byteCells l ++ Lib.strCells (bs s) := by simp [Lib.byteCells, Lib.strCells, bs]
  have hll : (Lib.byteCells l).length = l.length := Lib.byteCells_length l
  have hlen' : (Lib.byteCells l).length + (bs s).size ≤ 140737488355328 := by omega
  unfold Bld
  rw [hc, ← hs]
  have h' := check_any B b l w h
  clear hs hc hll hlen h
  generalize Lib.byteCells l = cs at *
  generalize bs s = s at *
  have H := Lib.hid h'
  have HI := Lib.hid (And.intro hi (And.intro hz0 (And.intro hz1 hz2)))
  clear h' hi hz0 hz1 hz2
  go_enter Tryz.func107, Tryz.ntmps107
  go_wp2_with fail
  refine H.out.mono ?_
  rintro e w1 ⟨rfl, h1, hb1⟩
  obtain ⟨hB, v, hbk, hown, hne⟩ := h1
  have c0 : w1.cell? ⟨b, 0, none⟩ = some (.pointer (some ⟨b, 0, none⟩)) := by rw [Lib.cell_of_heap hbk]; rfl
  have c1 : w1.cell? ⟨b, 1, none⟩ = some v := by rw [Lib.cell_of_heap hbk]; rfl
  go_wp2_with (at_builtin; refine Lib.wpList_append_own_string _ rfl _ _ 105 9 rfl B 5 i0 Tryz.underlying105 Tryz.underlying9 HI.out.1 HI.out.2.1 HI.out.2.2.1 HI.out.2.2.2 _ _ _ rfl hown s rfl ?c3 ?c4 ?c5 ?_)
  case c3 => unfold maxLen; omega
  case c4 => omega
  case c5 => have := hb1.size; omega
  intro v' w2 hown' hgrow _
  have hlt : b < w1.heap.size := by
    rcases Nat.lt_or_ge b w1.heap.size with h' | h'
    · exact h'
    · simp [Array.getElem?_eq_none h'] at hbk
  have hb2 : w2.heap[b]? = some (.cells #[.pointer (some ⟨b, 0, none⟩), v] 142 (0, 0)) := by
    rw [hgrow.block b hlt (fun e => hne e.symm)]
    exact hbk
  have d0 : w2.cell? ⟨b, 0, none⟩ = some (.pointer (some ⟨b, 0, none⟩)) := by rw [Lib.cell_of_heap hb2]; rfl
  have d1 : w2.cell? ⟨b, 1, none⟩ = some v := by rw [Lib.cell_of_heap hb2]; rfl
  have f1 : w2.frozen? ⟨b, 1, none⟩ = false := Lib.frozen_of_heap hb2 1
  obtain ⟨ao, n', cap, rfl⟩ : ∃ ao n' cap, v' = .slice ao n' cap := by
    rcases hown'.2 with ⟨hv, _⟩ | ⟨g, cap, cur, hv, _⟩
    · exact ⟨_, _, _, hv⟩
    · exact ⟨_, _, _, hv⟩
  go_wp2
  go_ret2
  refine ⟨rfl, ?_, ?_⟩
  · exact .inr (Lib.BuilderAt.put (T := 142) (e := 5) hB hb2 (bs' := cs ++ Lib.strCells s) (by simpa [Lib.strCells_length] using hown') (by decide))
  · exact (hb1.grown hgrow (by have := hb1.size; omega) (fun k hk => (hown.lt k hk).1)).setCell (p := ⟨b, 1, none⟩) hB _

end Go.Proofs.YtmekkbhblghbmaaGreatDoor

/- What the calls deletion and Right of package record return. -/
namespace Go.Proofs.YtmekkbhblghbmaaGreatDoor
open Go.RowKit

/-- A record as a Go value. -/
def rv (r : Rc) : Value := .agg #[.int .u64 ((r.q : Nat) : Int), .string (bs r.k), .string (bs r.v), .bool r.g]

theorem ret_bool {a b : Bool} (h : a = b) : Ending.returned (.bool a) = .returned (.bool b) := by rw [h]

/-- Nothing that was there has turned, and the first new block is as it was laid. -/
def Box (w0 : World) (o : Obj) (W : World) : Prop := Below w0.heap.size w0 W ∧ w0.heap.size < W.heap.size ∧ W.heap[w0.heap.size]? = some o

theorem Box.made (w0 : World) (o : Obj) : Box w0 o (w0.alloc o) := ⟨(Below.refl _ _).alloc (Nat.le_refl _) _, by simp, heap_alloc_new w0 o⟩
theorem Box.drew {w0 : World} {o : Obj} {W : World} (h : Box w0 o W) : Box w0 o W.drew := ⟨h.1.drew, h.2⟩
theorem Box.call {w0 : World} {o : Obj} {W W' : World} (h : Box w0 o W) (b : Below W.heap.size W W') : Box w0 o W' :=
  ⟨h.1.trans (b.mono h.1.size), Nat.lt_of_lt_of_le h.2.1 b.size, by rw [b.block _ h.2.1]; exact h.2.2⟩

theorem Box.below {w0 : World} {o : Obj} {W : World} (h : Box w0 o W) : Below w0.heap.size w0 W := h.1

/-- .. and its four cells. -/
def Box4 (w0 : World) (c0 c1 c2 c3 : Value) (W : World) : Prop := Box w0 (.cells #[c0, c1, c2, c3] 47) W
theorem Box4.cells {w0 : World} {c0 c1 c2 c3 : Value} {W : World} (h : Box4 w0 c0 c1 c2 c3 W) :
    Box4 w0 c0 c1 c2 c3 W ∧ W.cell? ⟨w0.heap.size, 0, none⟩ = some c0 ∧ W.cell? ⟨w0.heap.size, 1, none⟩ = some c1 ∧ W.cell? ⟨w0.heap.size, 2, none⟩ = some c2 ∧ W.cell? ⟨w0.heap.size, 3, none⟩ = some c3 :=
  ⟨h, by rw [Lib.cell_of_heap h.2.2]; rfl, by rw [Lib.cell_of_heap h.2.2]; rfl, by rw [Lib.cell_of_heap h.2.2]; rfl, by rw [Lib.cell_of_heap h.2.2]; rfl⟩

set_option maxRecDepth 100000 in
set_option maxHeartbeats 400000 in
theorem deletion_of (q : Int) (K : ByteArray) (w : World) :
    Calls Tryz.prog 149 #[.int .u64 q, .string K] w fun e w' => e = .returned (.agg #[.int .u64 q, .string K, .string ⟨#[]⟩, .bool true]) ∧ Below w.heap.size w w' := by
  go_enter Tryz.func149, Tryz.ntmps149
  go_wp2
  exact bodyPost_ret (v := .agg #[.int .u64 q, .string K, .string ⟨#[]⟩, .bool true]) (by simp [results, Tryz.results149, go_sem]) rfl ⟨rfl, (Below.refl _ _).alloc (Nat.le_refl _) _⟩

/-- May one be, by number and lengths? -/
def rgt (q k v : Nat) : Bool := decide (1 ≤ q ∧ q ≤ 1099511627776 ∧ 1 ≤ k ∧ k ≤ 40 ∧ v ≤ 300)

set_option maxRecDepth 100000 in
set_option maxHeartbeats 400000 in
theorem right_here (q : Nat) (K V : ByteArray) (w : World) (hq : q ≤ 18446744073709551615) (hK : K.size ≤ 9223372036854775807) (hV : V.size ≤ 9223372036854775807) :
    Calls Tryz.prog 124 #[.agg #[.int .u64 (q : Int), .string K, .string V, .bool false]] w fun e w' => e = .returned (.bool (rgt q K.size V.size)) ∧ Below w.heap.size w w' := by
  go_enter Tryz.func124, Tryz.ntmps124
  go_wp2_with fail
  go_quiet (fail)
  go_wp2_with fail
  all_goals
    go_ret
    refine ⟨ret_bool ?_, below_drewN ((Below.refl _ _).alloc (Nat.le_refl _) _) nq⟩
    unfold rgt
    first | (rw [decide_eq_decide]; omega) | (symm; rw [decide_eq_false_iff_not]; omega)

theorem empty_of {V : ByteArray} (h : V.size = 0) : V = ⟨#[]⟩ := by
  obtain ⟨⟨l⟩⟩ := V
  simp [ByteArray.size] at h
  rw [h]
theorem list_ne {V : ByteArray} (h : ¬ V.size = 0) : ¬ V.toList = [] := fun e => h (by rw [Lib.size_eq, ← Lib.toList_data, e]; rfl)

set_option maxRecDepth 100000 in
set_option maxHeartbeats 400000 in
theorem right_gone (q : Nat) (K V : ByteArray) (w : World) (hq : q ≤ 18446744073709551615) (hK : K.size ≤ 9223372036854775807) :
    Calls Tryz.prog 124 #[.agg #[.int .u64 (q : Int), .string K, .string V, .bool true]] w fun e w' => e = .returned (.bool (rgt q K.size 0 && decide (V.size = 0))) ∧ Below w.heap.size w w' := by
  have K0 := Box.made w (.cells #[.int .u64 (q : Int), .string K, .string V, .bool true] 47)
  have hd : ∀ W, Box4 w (.int .u64 (q : Int)) (.string K) (.string V) (.bool true) W → Calls Tryz.prog 149 #[.int .u64 (q : Int), .string K] W fun e w' => e = .returned (.agg #[.int .u64 (q : Int), .string K, .string ⟨#[]⟩, .bool true]) ∧ Box4 w (.int .u64 (q : Int)) (.string K) (.string V) (.bool true) w' := fun W hW =>
    (deletion_of q K W).mono fun e w' ⟨he, hb⟩ => ⟨he, hW.call hb⟩
  have HD := Lib.hid hd
  clear hd
  by_cases hv : V.size = 0
  · obtain rfl := empty_of hv
    rw [show decide ((⟨#[]⟩ : ByteArray).size = 0) = true from rfl, Bool.and_true]
    clear hv
    go_enter Tryz.func124, Tryz.ntmps124
    go_wp2_with fail
    go_region_held3 (fun W => Box4 w (.int .u64 (q : Int)) (.string K) (.string ⟨#[]⟩) (.bool true) W ∧ W.cell? ⟨w.heap.size, 0, none⟩ = some (.int .u64 (q : Int)) ∧ W.cell? ⟨w.heap.size, 1, none⟩ = some (.string K) ∧ W.cell? ⟨w.heap.size, 2, none⟩ = some (.string ⟨#[]⟩) ∧ W.cell? ⟨w.heap.size, 3, none⟩ = some (.bool true))
      (first | exact Box4.cells ‹_› | exact Box4.cells K0 | exact Box4.cells K0.drew | exact Box4.cells (Box.drew ‹_›))
      (first | (go_at_call 149; (with_reducible refine (HD.out _ ?_).mono ?_); (first | assumption | exact K0 | exact K0.drew | exact Box.drew ‹_›); rintro e w2 ⟨rfl, k2⟩))
    go_wp2_with fail
    all_goals
      go_ret
      refine ⟨ret_bool ?_, Box.below ‹_›⟩
      unfold rgt
      first | (symm; rw [decide_eq_true_iff]; omega) | (symm; rw [decide_eq_false_iff_not]; omega) | (rw [decide_eq_decide]; omega)
  · rw [show decide (V.size = 0) = false from by simpa using hv, Bool.and_false]
    have hv1 := list_ne hv
    clear hv
    go_enter Tryz.func124, Tryz.ntmps124
    go_wp2_with fail
    go_region_held3 (fun W => Box4 w (.int .u64 (q : Int)) (.string K) (.string V) (.bool true) W ∧ W.cell? ⟨w.heap.size, 0, none⟩ = some (.int .u64 (q : Int)) ∧ W.cell? ⟨w.heap.size, 1, none⟩ = some (.string K) ∧ W.cell? ⟨w.heap.size, 2, none⟩ = some (.string V) ∧ W.cell? ⟨w.heap.size, 3, none⟩ = some (.bool true))
      (first | exact Box4.cells ‹_› | exact Box4.cells K0 | exact Box4.cells K0.drew | exact Box4.cells (Box.drew ‹_›))
      (first | (go_at_call 149; (with_reducible refine (HD.out _ ?_).mono ?_); (first | assumption | exact K0 | exact K0.drew | exact Box.drew ‹_›); rintro e w2 ⟨rfl, k2⟩))
    go_wp2_with fail
    go_ret
    exact ⟨rfl, Box.below ‹_›⟩

/-- What Right returns. -/
theorem right_any (r : Rc) (w : World) (hq : r.q ≤ 18446744073709551615) (hK : r.k.length ≤ 9223372036854775807) (hV : r.v.length ≤ 9223372036854775807) :
    Calls Tryz.prog 124 #[rv r] w fun e w' => e = .returned (.bool (right r)) ∧ Below w.heap.size w w' := by
  obtain ⟨q, k, v, g⟩ := r
  cases g with
  | false =>
    have := right_here q (bs k) (bs v) w hq (by rw [bs_size]; exact hK) (by rw [bs_size]; exact hV)
    rw [bs_size, bs_size] at this
    rw [show right ⟨q, k, v, false⟩ = rgt q k.length v.length from by unfold right rgt; simp [Bool.and_assoc]]
    exact this
  | true =>
    have := right_gone q (bs k) (bs v) w hq (by rw [bs_size]; exact hK)
    rw [bs_size, bs_size] at this
    rw [show right ⟨q, k, v, true⟩ = (rgt q k.length 0 && decide (v.length = 0)) from by
      unfold right rgt
      cases v with
      | nil => simp [Bool.and_assoc]
      | cons c l => simp]
    exact this

end Go.Proofs.YtmekkbhblghbmaaGreatDoor

/- What the call encoding of package record returns. -/
namespace Go.Proofs.YtmekkbhblghbmaaGreatDoor
open Go.RowKit

theorem bs_app (a b : List UInt8) : bs (a ++ b) = bs a ++ bs b := (ByteArray.mk_append_mk a b).symm

theorem put_nat (n : Nat) (w : World) (h : n ≤ 18446744073709551615) :
    Calls Tryz.prog 108 #[.int .u64 (n : Int)] w fun e w' => e = .returned (.string (bs (put n))) ∧ Below w.heap.size w w' := by
  have := put_any (n : Int) w (by omega) (by omega)
  rwa [Int.toNat_natCast] at this

theorem text_of (s : List UInt8) (w : World) (h : s.length ≤ 281474976710656) :
    Calls Tryz.prog 88 #[.string (bs s)] w fun e w' => e = .returned (.string (bs (txt s))) ∧ Below w.heap.size w w' := by
  have := text_any (bs s) w (by rw [bs_size]; exact h)
  rwa [bs_size, bs_list] at this

set_option maxRecDepth 100000 in
set_option maxHeartbeats 400000 in
theorem enc_gone_of (q : Nat) (k : List UInt8) (V : ByteArray) (w : World) (hq : q ≤ 1099511627776) (hk : k.length ≤ 40) :
    Calls Tryz.prog 125 #[.agg #[.int .u64 (q : Int), .string (bs k), .string V, .bool true]] w fun e w' => e = .returned (.string (bs (put (2 * q + 1) ++ txt k))) ∧ Below w.heap.size w w' := by
  have h1 : ∀ W, Box4 w (.int .u64 (q : Int)) (.string (bs k)) (.string V) (.bool true) W → Calls Tryz.prog 108 #[.int .u64 (2 * (q : Int) + 1)] W fun e w' => e = .returned (.string (bs (put (2 * q + 1)))) ∧ Box4 w (.int .u64 (q : Int)) (.string (bs k)) (.string V) (.bool true) w' := fun W hW => by
    have := put_nat (2 * q + 1) W (by omega)
    rw [show ((2 * q + 1 : Nat) : Int) = 2 * (q : Int) + 1 from by omega] at this
    exact this.mono fun e w' ⟨he, hb⟩ => ⟨he, hW.call hb⟩
  have h2 : ∀ W, Box4 w (.int .u64 (q : Int)) (.string (bs k)) (.string V) (.bool true) W → Calls Tryz.prog 88 #[.string (bs k)] W fun e w' => e = .returned (.string (bs (txt k))) ∧ Box4 w (.int .u64 (q : Int)) (.string (bs k)) (.string V) (.bool true) w' := fun W hW =>
    (text_of k W (by omega)).mono fun e w' ⟨he, hb⟩ => ⟨he, hW.call hb⟩
  have s1 : (bs (put (2 * q + 1))).size ≤ 10 := by rw [bs_size]; exact put_ten (lt64 (by omega))
  have s2 : (bs (txt k)).size ≤ 50 := by rw [bs_size]; have := txt_len (s := k) (by omega); omega
  rw [bs_app]
  have K0 := Box.made w (.cells #[.int .u64 (q : Int), .string (bs k), .string V, .bool true] 47)
  have wr1 := IntWalk.u64_in (2 * (q : Int)) ⟨by omega, by omega⟩
  have wr2 := IntWalk.u64_in (2 * (q : Int) + 1) ⟨by omega, by omega⟩
  generalize bs (put (2 * q + 1)) = P1 at *
  generalize bs (txt k) = T1 at *
  have c1 : ¬ 9223372036854775807 < P1.size + T1.size := by omega
  generalize bs k = K at *
  have H1 := Lib.hid h1
  have H2 := Lib.hid h2
  clear h1 h2 hk hq
  go_enter Tryz.func125, Tryz.ntmps125
  go_wp2_with fail
  go_region_held3 (fun W => Box4 w (.int .u64 (q : Int)) (.string K) (.string V) (.bool true) W ∧ W.cell? ⟨w.heap.size, 0, none⟩ = some (.int .u64 (q : Int)) ∧ W.cell? ⟨w.heap.size, 1, none⟩ = some (.string K) ∧ W.cell? ⟨w.heap.size, 2, none⟩ = some (.string V) ∧ W.cell? ⟨w.heap.size, 3, none⟩ = some (.bool true))
    (first | exact Box4.cells ‹_› | exact Box4.cells K0 | exact Box4.cells K0.drew | exact Box4.cells (Box.drew ‹_›))
    (first | (go_at_call 108; (with_reducible refine (H1.out _ ?_).mono ?_); (first | assumption | exact K0 | exact K0.drew | exact Box.drew ‹_›); rintro e w2 ⟨rfl, k2⟩) | (go_at_call 88; (with_reducible refine (H2.out _ ?_).mono ?_); (first | assumption | exact K0 | exact K0.drew | exact Box.drew ‹_›); rintro e w2 ⟨rfl, k2⟩))
  go_wp2_with fail
  go_ret
  exact ⟨rfl, Box.below ‹_›⟩

set_option maxRecDepth 100000 in
set_option maxHeartbeats 400000 in
theorem enc_here_of (q : Nat) (k v : List UInt8) (w : World) (hq : q ≤ 1099511627776) (hk : k.length ≤ 40) (hv : v.length ≤ 300) :
    Calls Tryz.prog 125 #[.agg #[.int .u64 (q : Int), .string (bs k), .string (bs v), .bool false]] w fun e w' => e = .returned (.string (bs (put (2 * q) ++ txt k ++ txt v))) ∧ Below w.heap.size w w' := by
  have h1 : ∀ W, Box4 w (.int .u64 (q : Int)) (.string (bs k)) (.string (bs v)) (.bool false) W → Calls Tryz.prog 108 #[.int .u64 (2 * (q : Int))] W fun e w' => e = .returned (.string (bs (put (2 * q)))) ∧ Box4 w (.int .u64 (q : Int)) (.string (bs k)) (.string (bs v)) (.bool false) w' := fun W hW => by
    have := put_nat (2 * q) W (by omega)
    rw [show ((2 * q : Nat) : Int) = 2 * (q : Int) from by omega] at this
    exact this.mono fun e w' ⟨he, hb⟩ => ⟨he, hW.call hb⟩
  have h2 : ∀ W, Box4 w (.int .u64 (q : Int)) (.string (bs k)) (.string (bs v)) (.bool false) W → Calls Tryz.prog 88 #[.string (bs k)] W fun e w' => e = .returned (.string (bs (txt k))) ∧ Box4 w (.int .u64 (q : Int)) (.string (bs k)) (.string (bs v)) (.bool false) w' := fun W hW =>
    (text_of k W (by omega)).mono fun e w' ⟨he, hb⟩ => ⟨he, hW.call hb⟩
  have h3 : ∀ W, Box4 w (.int .u64 (q : Int)) (.string (bs k)) (.string (bs v)) (.bool false) W → Calls Tryz.prog 88 #[.string (bs v)] W fun e w' => e = .returned (.string (bs (txt v))) ∧ Box4 w (.int .u64 (q : Int)) (.string (bs k)) (.string (bs v)) (.bool false) w' := fun W hW =>
    (text_of v W (by omega)).mono fun e w' ⟨he, hb⟩ => ⟨he, hW.call hb⟩
  have s1 : (bs (put (2 * q))).size ≤ 10 := by rw [bs_size]; exact put_ten (lt64 (by omega))
  have s2 : (bs (txt k)).size ≤ 50 := by rw [bs_size]; have := txt_len (s := k) (by omega); omega
  have s3 : (bs (txt v)).size ≤ 310 := by rw [bs_size]; have := txt_len (s := v) (by omega); omega
  rw [bs_app, bs_app]
  have K0 := Box.made w (.cells #[.int .u64 (q : Int), .string (bs k), .string (bs v), .bool false] 47)
  have wr1 := IntWalk.u64_in (2 * (q : Int)) ⟨by omega, by omega⟩
  generalize bs (put (2 * q)) = P1 at *
  generalize bs (txt k) = T1 at *
  generalize bs (txt v) = T2 at *
  have c1 : ¬ 9223372036854775807 < P1.size + T1.size := by omega
  have c2 : ¬ 9223372036854775807 < P1.size + T1.size + T2.size := by omega
  generalize bs k = K at *
  generalize bs v = V at *
  have H1 := Lib.hid h1
  have H2 := Lib.hid h2
  have H3 := Lib.hid h3
  clear h1 h2 h3 hk hv hq
  go_enter Tryz.func125, Tryz.ntmps125
  go_wp2_with fail
  go_region_held3 (fun W => Box4 w (.int .u64 (q : Int)) (.string K) (.string V) (.bool false) W ∧ W.cell? ⟨w.heap.size, 0, none⟩ = some (.int .u64 (q : Int)) ∧ W.cell? ⟨w.heap.size, 1, none⟩ = some (.string K) ∧ W.cell? ⟨w.heap.size, 2, none⟩ = some (.string V) ∧ W.cell? ⟨w.heap.size, 3, none⟩ = some (.bool false))
    (first | exact Box4.cells ‹_› | exact Box4.cells K0 | exact Box4.cells K0.drew | exact Box4.cells (Box.drew ‹_›))
    (first | (go_at_call 108; (with_reducible refine (H1.out _ ?_).mono ?_); (first | assumption | exact K0 | exact K0.drew | exact Box.drew ‹_›); rintro e w2 ⟨rfl, k2⟩) | (go_at_call 88; (with_reducible refine (H2.out _ ?_).mono ?_); (first | assumption | exact K0 | exact K0.drew | exact Box.drew ‹_›); rintro e w2 ⟨rfl, k2⟩) | (go_at_call 88; (with_reducible refine (H3.out _ ?_).mono ?_); (first | assumption | exact K0 | exact K0.drew | exact Box.drew ‹_›); rintro e w2 ⟨rfl, k2⟩))
  go_wp2_with fail
  go_ret
  exact ⟨rfl, Box.below ‹_›⟩

/-- What encoding returns for a record that may be. -/
theorem enc_any (r : Rc) (w : World) (h : right r = true) :
    Calls Tryz.prog 125 #[rv r] w fun e w' => e = .returned (.string (bs (enc r))) ∧ Below w.heap.size w w' := by
  obtain ⟨h1, h2, h3, h4, h5, h6⟩ := (right_iff r).1 h
  obtain ⟨q, k, v, g⟩ := r
  cases g with
  | true => rw [enc_gone rfl]; exact enc_gone_of q k (bs v) w h2 h4
  | false => rw [enc_here rfl]; exact enc_here_of q k v w h2 h4 h5

end Go.Proofs.YtmekkbhblghbmaaGreatDoor

/- What the calls All and Bytes of package record return. -/
namespace Go.Proofs.YtmekkbhblghbmaaGreatDoor
open Go.RowKit

/-- All records' bytes, one behind the other. -/
def encs (l : List Rc) : List UInt8 := l.flatMap enc
theorem encs_nil : encs [] = [] := rfl
theorem encs_snoc (l : List Rc) (r : Rc) : encs (l ++ [r]) = encs l ++ enc r := by simp [encs]
theorem encs_cons (r : Rc) (l : List Rc) : encs (r :: l) = enc r ++ encs l := by simp [encs]

/-- May all be? -/
def rights (l : List Rc) : Bool := l.all right

theorem encs_len : ∀ (l : List Rc), rights l = true → (encs l).length ≤ 370 * l.length
  | [], _ => by simp [encs]
  | r :: l, h => by
    simp only [rights, List.all_cons, Bool.and_eq_true] at h
    have h1 := enc_len h.1
    have h2 := encs_len l h.2
    rw [encs_cons, List.length_append, List.length_cons]
    omega

/-- What All returns. -/
def allV (l : List Rc) : Value := if rights l = true then .tuple #[.string (bs (encs l)), .int .i64 0] else .tuple #[.string (bs []), .int .i64 1]

/-- A slice of records in memory. -/
def Recs (w : World) (a : Option Addr) (l : List Rc) : Prop :=
  0 < l.length → ∃ b off, a = some ⟨b, off, none⟩ ∧ b < w.heap.size ∧ ∀ i (h : i < l.length),
    w.cell? ⟨b, off + i * 4, none⟩ = some (.int .u64 (l[i].q : Nat)) ∧ w.cell? ⟨b, off + i * 4 + 1, none⟩ = some (.string (bs l[i].k)) ∧
    w.cell? ⟨b, off + i * 4 + 2, none⟩ = some (.string (bs l[i].v)) ∧ w.cell? ⟨b, off + i * 4 + 3, none⟩ = some (.bool l[i].g)

theorem Recs.later {w w' : World} {a : Option Addr} {l : List Rc} (h : Recs w a l) {B : Nat} (hb : Below B w w') (hB : w.heap.size ≤ B) : Recs w' a l := by
  intro h0
  obtain ⟨b, off, ha, hlt, hc⟩ := h h0
  have hlt' : b < B := by omega
  refine ⟨b, off, ha, Nat.lt_of_lt_of_le hlt hb.size, fun i hi => ?_⟩
  obtain ⟨c0, c1, c2, c3⟩ := hc i hi
  exact ⟨(hb.cell (p := ⟨b, _, none⟩) hlt').trans c0, (hb.cell (p := ⟨b, _, none⟩) hlt').trans c1, (hb.cell (p := ⟨b, _, none⟩) hlt').trans c2, (hb.cell (p := ⟨b, _, none⟩) hlt').trans c3⟩

/-- No record is greater than a machine's. -/
def Fits (l : List Rc) : Prop := ∀ r ∈ l, r.q ≤ 18446744073709551615 ∧ r.k.length ≤ 9223372036854775807 ∧ r.v.length ≤ 9223372036854775807

theorem Bld.later {B b : Nat} {l : List UInt8} {w w' : World} (h : Bld B b l w) (hb : Below w.heap.size w w') : Bld B b l w' := by
  have key : ∀ p, Lib.BuilderAt 142 5 B b p (Lib.byteCells l) w → Lib.BuilderAt 142 5 B b p (Lib.byteCells l) w' := by
    intro p hp
    have hlt := hp.lt
    obtain ⟨h1, v, h2, h3, h4⟩ := hp
    refine ⟨h1, v, by rw [hb.block b hlt]; exact h2, ⟨h3.1, ?_⟩, h4⟩
    have hl := h3.lt
    rcases h3.2 with hn | ⟨g, cap, cur, rfl, hbg, hg, rest⟩
    · exact .inl hn
    · exact .inr ⟨g, cap, cur, rfl, hbg, by rw [hb.block g (hl g rfl).2]; exact hg, rest⟩
  rcases h with h | h
  · exact .inl (key _ h)
  · exact .inr (key _ h)

theorem allV_no {l : List Rc} (h : ¬ rights l = true) : allV l = .tuple #[.string ⟨#[]⟩, .int .i64 1] := by rw [allV, if_neg h]; rfl
theorem allV_yes {l : List Rc} (h : rights l = true) : allV l = .tuple #[.string (bs (encs l)), .int .i64 0] := by rw [allV, if_pos h]

theorem take_next (l : List Rc) (k : Nat) (h : k < l.length) : l.take (k + 1) = l.take k ++ [l[k]] := List.take_succ_eq_append_getElem h
theorem rights_next {l : List Rc} {k : Nat} (h : k < l.length) (hg : rights (l.take k) = true) (hr : right l[k] = true) : rights (l.take (k + 1)) = true := by
  rw [take_next l k h, rights, List.all_append]
  rw [rights] at hg
  simp [hg, hr]
theorem rights_not {l : List Rc} {k : Nat} (h : k < l.length) (hr : right l[k] = false) : ¬ rights l = true := by
  intro hg
  rw [rights, List.all_eq_true] at hg
  have := hg l[k] (List.getElem_mem h)
  rw [hr] at this
  cases this

set_option maxRecDepth 100000 in
set_option maxHeartbeats 400000 in
theorem all_any (l : List Rc) (a : Option Addr) (cap : Nat) (w : World) (hl : l.length ≤ 1000) (hr : Recs w a l) (hf : Fits l) :
    Calls Tryz.prog 87 #[.slice a l.length cap] w fun e w' => e = .returned (allV l) ∧ Below w.heap.size w w' := by
  have HR := Lib.hid hr
  have HF := Lib.hid hf
  clear hr hf
  go_enter Tryz.func87, Tryz.ntmps87
  go_wp2_with fail
  go_loopw [9] (fun i wr => ∃ k : Nat, k ≤ l.length ∧ i = .int .i64 k ∧ rights (l.take k) = true ∧ Bld w.heap.size w.heap.size (encs (l.take k)) wr ∧ Below w.heap.size w wr) (fun i _ => l.length - (intOf i).toNat)
  case atStart => exact ⟨0, by omega, rfl, rfl, Bld.fresh w, (Below.refl _ _).alloc (Nat.le_refl _) _⟩
  case round =>
    obtain ⟨k, hk, rfl, hg, hB, hb⟩ := hrel
    have hel := encs_len _ hg
    have htl : (l.take k).length ≤ k := List.length_take_le _ _
    have hacc : (encs (l.take k)).length ≤ 370000 := by omega
    clear hel htl
    by_cases hlt : k < l.length
    · obtain ⟨b, off, rfl, hbl, hc⟩ := HR.out (by omega)
      obtain ⟨c0, c1, c2, c3⟩ := hc k hlt
      obtain ⟨f0, f1, f2⟩ := HF.out l[k] (List.getElem_mem hlt)
      clear hc
      rw [← hb.cell (p := ⟨b, _, none⟩) hbl] at c0 c1 c2 c3
      have h1 := fun W => right_any l[k] W f0 f1 f2
      have h2 := fun W => enc_any l[k] W
      simp only [rv] at h1 h2
      have HT := Lib.hid (take_next l k hlt)
      have HG := Lib.hid (rights_next hlt hg)
      have HN := Lib.hid (rights_not (l := l) hlt)
      clear f0 f1 f2 hg
      have hbz := hb.size
      generalize l[k] = r at *
      have HB := Lib.hid hB
      have hen : right r = true → (enc r).length ≤ 370 := fun h => (enc_len h).2
      cases hg : right r with
      | false =>
        rw [hg] at h1
        have H1 := Lib.hid h1
        have HE := Lib.hid (allV_no (HN.out hg))
        clear h1 h2 hen hg hB
        go_wp2_with fail
        (with_reducible refine (H1.out _).mono ?_)
        rintro e w1 ⟨rfl, b1⟩
        go_wp2_with fail
        go_ret2
        exact ⟨HE.out.symm ▸ rfl, (hb.alloc hbz _).trans (b1.mono (by simp; omega))⟩
      | true =>
        rw [hg] at h1
        have h3 := fun W => h2 W hg
        have hen := hen hg
        have HS := Lib.hid (HG.out hg)
        have K0 := Box.made wr (.cells #[.int .u64 (r.q : Nat), .string (bs r.k), .string (bs r.v), .bool r.g] 47)
        have K0 := Lib.hid K0
        have H1 := Lib.hid h1
        have H3 := Lib.hid h3
        clear h1 h2 h3 hg hB
        have hw := fun W (h : Bld w.heap.size w.heap.size (encs (l.take k)) W) (h2 : w.heap.size ≤ W.heap.size) => write_any w.heap.size w.heap.size (encs (l.take k)) (enc r) W h (by omega) h2
        have HW := Lib.hid hw
        clear hw
        go_wp2_with fail
        (with_reducible refine (H1.out _).mono ?_)
        rintro e w1 ⟨rfl, b1⟩
        obtain ⟨_, d0, d1, d2, d3⟩ := Box4.cells (K0.out.call b1)
        go_wp2_with fail
        (with_reducible refine (H3.out _).mono ?_)
        rintro e w2 ⟨rfl, b2⟩
        go_wp2_with fail
        have B2 : Below wr.heap.size wr w2 := ((Below.refl _ _).alloc (Nat.le_refl _) _).trans ((b1.mono (by simp)).trans (b2.mono (by have := b1.size; simp at this; omega)))
        (with_reducible refine (HW.out _ (HB.out.later B2) (by have := B2.size; omega)).mono ?_)
        rintro e w3 ⟨rfl, hB3, b3⟩
        go_wp2_with fail
        go_roundw
        case rel => exact ⟨k + 1, by omega, by go_num, HS.out, by rw [HT.out, encs_snoc]; exact hB3, (hb.trans (B2.mono hbz)).trans b3⟩
        case measure => simp [intOf]; omega
    · have e : k = l.length := by omega
      subst e
      rw [List.take_length] at hB hg
      have HE := Lib.hid (allV_yes hg)
      have hs := bstring_any w.heap.size w.heap.size (encs l) wr hB hb.size
      have HS := Lib.hid hs
      clear hg hB hs
      go_wp2_with fail
      (with_reducible refine HS.out.mono ?_)
      rintro e w1 ⟨rfl, b1⟩
      go_wp2_with fail
      go_ret2
      exact ⟨HE.out.symm ▸ rfl, hb.trans b1⟩

end Go.Proofs.YtmekkbhblghbmaaGreatDoor

/- What the calls Bytes, parts and Read of package record return. -/
namespace Go.Proofs.YtmekkbhblghbmaaGreatDoor
open Go.RowKit

theorem Box4.soft {w0 : World} {c0 c1 c2 c3 : Value} {W : World} (h : Box4 w0 c0 c1 c2 c3 W) :
    W.frozen? ⟨w0.heap.size, 0, none⟩ = false ∧ W.frozen? ⟨w0.heap.size, 1, none⟩ = false ∧ W.frozen? ⟨w0.heap.size, 2, none⟩ = false ∧ W.frozen? ⟨w0.heap.size, 3, none⟩ = false :=
  ⟨Lib.frozen_of_heap h.2.2 0, Lib.frozen_of_heap h.2.2 1, Lib.frozen_of_heap h.2.2 2, Lib.frozen_of_heap h.2.2 3⟩

theorem Fits.one {r : Rc} (hq : r.q ≤ 18446744073709551615) (hK : r.k.length ≤ 9223372036854775807) (hV : r.v.length ≤ 9223372036854775807) : Fits [r] := by
  intro x hx
  rw [List.mem_singleton] at hx
  subst hx
  exact ⟨hq, hK, hV⟩

/-- What parts returns. -/
def ptV (l : List UInt8) : Value := .tuple #[rv (pt l).1, .string (bs (pt l).2.1), .int .i64 ((pt l).2.2 : Nat)]

theorem ot_rest_le {l k s : List UInt8} (h : ot l = (k, s, 0)) : s.length ≤ l.length ∧ k.length ≤ l.length := by
  obtain ⟨e, _⟩ := ot_ok h
  have : l.length = (txt k).length + s.length := by rw [e, List.length_append]
  rw [txt, List.length_append] at this
  omega

theorem oftext_of (l : List UInt8) (hl : l.length ≤ 9223372036854775807) (k s : List UInt8) (e : Nat) (h : ot l = (k, s, e)) (w : World) :
    Calls Tryz.prog 91 #[.string (bs l)] w fun x w' => x = .returned (.tuple #[.string (bs k), .string (bs s), .int .i64 (e : Nat)]) ∧ Below w.heap.size w w' := by
  have := oftext_any (bs l) w (by rw [bs_size]; exact hl)
  rw [bs_list, otV, h] at this
  exact this

theorem take_of (b : ByteArray) (hb : b.size ≤ 9223372036854775807) (n : Nat) (s : List UInt8) (e : Nat) (h : tk b.data.toList = (n, s, e)) (w : World) :
    Calls Tryz.prog 128 #[.string b] w fun x w' => x = .returned (.tuple #[.int .u64 (n : Nat), .string (bs s), .int .i64 (e : Nat)]) ∧ Below w.heap.size w w' := by
  have := take_any b w hb
  rw [tkV, h] at this
  exact this

theorem below_set4 {w W : World} (h : Below w.heap.size w W) (v0 v1 v2 v3 : Value) : Below w.heap.size w ((((W.setCell ⟨w.heap.size, 0, none⟩ v0).setCell ⟨w.heap.size, 1, none⟩ v1).setCell ⟨w.heap.size, 2, none⟩ v2).setCell ⟨w.heap.size, 3, none⟩ v3) :=
  (((h.setCell (p := ⟨w.heap.size, 0, none⟩) (Nat.le_refl _) _).setCell (p := ⟨w.heap.size, 1, none⟩) (Nat.le_refl _) _).setCell (p := ⟨w.heap.size, 2, none⟩) (Nat.le_refl _) _).setCell (p := ⟨w.heap.size, 3, none⟩) (Nat.le_refl _) _

set_option maxRecDepth 100000 in
set_option maxHeartbeats 400000 in
theorem parts_any (b : ByteArray) (w : World) (hb : b.size ≤ 9223372036854775807) :
    Calls Tryz.prog 132 #[.string b] w fun e w' => e = .returned (ptV b.data.toList) ∧ Below w.heap.size w w' := by
  obtain ⟨n, r, er, htk⟩ : ∃ n r e, tk b.data.toList = (n, r, e) := ⟨_, _, _, rfl⟩
  have H := Lib.hid (take_of b hb n r er htk)
  have K0 := Lib.hid (Box.made w (.cells #[.int .u64 0, .string ⟨#[]⟩, .string ⟨#[]⟩, .bool false] 47))
  by_cases he : er = 0
  · subst he
    obtain ⟨hn, hrl⟩ := tk_rest_le _ htk
    rw [len_size] at hrl
    have hnm : n ≤ 18446744073709551615 := by unfold M64 at hn; omega
    obtain ⟨k, s, e2, ho⟩ : ∃ k s e, ot r = (k, s, e) := ⟨_, _, _, rfl⟩
    have H2 := Lib.hid (oftext_of r (by omega) k s e2 ho)
    by_cases he2 : e2 = 0
    · subst he2
      obtain ⟨hsl, _⟩ := ot_rest_le ho
      by_cases hodd : n % 2 = 1
      · have e : ptV b.data.toList = .tuple #[.agg #[.int .u64 ((n : Int) / 2), .string (bs k), .string ⟨#[]⟩, .bool true], .string (bs s), .int .i64 0] := by rw [ptV, pt_gone htk ho hodd]; rfl
        rw [e]
        have hpar : ((n : Int) % 2 == 1) = true := by rw [beq_iff_eq]; omega
        have H3 := Lib.hid (deletion_of ((n : Int) / 2) (bs k))
        clear e htk ho hn hrl hsl hodd
        generalize bs r = R at *
        generalize bs k = K at *
        generalize bs s = S at *
        go_enter Tryz.func132, Tryz.ntmps132
        go_wp2_with fail
        (with_reducible refine (H.out _).mono ?_)
        rintro e w1 ⟨rfl, b1⟩
        have K1 := Lib.hid (K0.out.call b1)
        clear b1
        go_wp2_with fail
        (with_reducible refine (H2.out _).mono ?_)
        rintro e w2 ⟨rfl, b2⟩
        have K2 := Lib.hid (K1.out.call b2)
        clear b2
        go_wp2_with fail
        (with_reducible refine (H3.out _).mono ?_)
        rintro e w3 ⟨rfl, b3⟩
        have K3 : Box4 w _ _ _ _ w3 := K2.out.call b3
        clear b3
        obtain ⟨_, d0, d1, d2, d3⟩ := Box4.cells K3
        obtain ⟨g0, g1, g2, g3⟩ := Box4.soft K3
        go_wp2_with fail
        exact bodyPost_ret (v := .tuple #[.agg #[.int .u64 ((n : Int) / 2), .string K, .string ⟨#[]⟩, .bool true], .string S, .int .i64 0]) (by simp [results, Tryz.results132, go_sem, d0, d1, d2, d3]) rfl ⟨rfl, below_set4 K3.1 _ _ _ _⟩
      · obtain ⟨v, u, e3, hv⟩ : ∃ k x e, ot s = (k, x, e) := ⟨_, _, _, rfl⟩
        have H3 := Lib.hid (oftext_of s (by omega) v u e3 hv)
        have e : ptV b.data.toList = .tuple #[.agg #[.int .u64 ((n : Int) / 2), .string (bs k), .string (bs v), .bool false], .string (bs u), .int .i64 (e3 : Nat)] := by rw [ptV, pt_here htk ho hodd hv]; rfl
        rw [e]
        have hpar : ((n : Int) % 2 == 1) = false := by rw [beq_eq_false_iff_ne]; omega
        clear e htk ho hn hrl hsl hodd hv
        generalize bs r = R at *
        generalize bs k = K at *
        generalize bs s = S at *
        generalize bs v = V at *
        generalize bs u = U at *
        go_enter Tryz.func132, Tryz.ntmps132
        go_wp2_with fail
        (with_reducible refine (H.out _).mono ?_)
        rintro e w1 ⟨rfl, b1⟩
        have K1 := Lib.hid (K0.out.call b1)
        clear b1
        go_wp2_with fail
        (with_reducible refine (H2.out _).mono ?_)
        rintro e w2 ⟨rfl, b2⟩
        have K2 := Lib.hid (K1.out.call b2)
        clear b2
        go_wp2_with fail
        (with_reducible refine (H3.out _).mono ?_)
        rintro e w3 ⟨rfl, b3⟩
        have K3 : Box4 w _ _ _ _ w3 := K2.out.call b3
        clear b3
        obtain ⟨_, d0, d1, d2, d3⟩ := Box4.cells K3
        obtain ⟨g0, g1, g2, g3⟩ := Box4.soft K3
        go_wp2_with fail
        exact bodyPost_ret (v := .tuple #[.agg #[.int .u64 ((n : Int) / 2), .string K, .string V, .bool false], .string U, .int .i64 (e3 : Nat)]) (by simp [results, Tryz.results132, go_sem, d0, d1, d2, d3]) rfl ⟨rfl, below_set4 K3.1 _ _ _ _⟩
    · have e : ptV b.data.toList = .tuple #[.agg #[.int .u64 0, .string ⟨#[]⟩, .string ⟨#[]⟩, .bool false], .string ⟨#[]⟩, .int .i64 (e2 : Nat)] := by rw [ptV, pt_key htk ho he2]; rfl
      rw [e]
      have hne : ((e2 : Int) != 0) = true := by rw [bne_iff_ne]; omega
      clear e htk ho
      go_enter Tryz.func132, Tryz.ntmps132
      go_wp2_with fail
      (with_reducible refine (H.out _).mono ?_)
      rintro e w1 ⟨rfl, b1⟩
      have K1 := Lib.hid (K0.out.call b1)
      clear b1
      go_wp2_with fail
      (with_reducible refine (H2.out _).mono ?_)
      rintro e w2 ⟨rfl, b2⟩
      have K2 : Box4 w _ _ _ _ w2 := K1.out.call b2
      clear b2
      obtain ⟨_, d0, d1, d2, d3⟩ := Box4.cells K2
      obtain ⟨g0, g1, g2, g3⟩ := Box4.soft K2
      go_wp2_with fail
      exact bodyPost_ret (v := .tuple #[.agg #[.int .u64 0, .string ⟨#[]⟩, .string ⟨#[]⟩, .bool false], .string ⟨#[]⟩, .int .i64 (e2 : Nat)]) (by simp [results, Tryz.results132, go_sem, d0, d1, d2, d3]) rfl ⟨rfl, below_set4 K2.1 _ _ _ _⟩
  · have e : ptV b.data.toList = .tuple #[.agg #[.int .u64 0, .string ⟨#[]⟩, .string ⟨#[]⟩, .bool false], .string ⟨#[]⟩, .int .i64 (er : Nat)] := by rw [ptV, pt_num htk he]; rfl
    rw [e]
    have hne : ((er : Int) != 0) = true := by rw [bne_iff_ne]; omega
    clear e htk
    go_enter Tryz.func132, Tryz.ntmps132
    go_wp2_with fail
    (with_reducible refine (H.out _).mono ?_)
    rintro e w1 ⟨rfl, b1⟩
    have K1 : Box4 w _ _ _ _ w1 := K0.out.call b1
    obtain ⟨_, d0, d1, d2, d3⟩ := Box4.cells K1
    obtain ⟨g0, g1, g2, g3⟩ := Box4.soft K1
    go_wp2_with fail
    exact bodyPost_ret (v := .tuple #[.agg #[.int .u64 0, .string ⟨#[]⟩, .string ⟨#[]⟩, .bool false], .string ⟨#[]⟩, .int .i64 (er : Nat)]) (by simp [results, Tryz.results132, go_sem, d0, d1, d2, d3]) rfl ⟨rfl, below_set4 K1.1 _ _ _ _⟩

end Go.Proofs.YtmekkbhblghbmaaGreatDoor

/- What the call Read of package record returns. -/
namespace Go.Proofs.YtmekkbhblghbmaaGreatDoor
open Go.RowKit

theorem Box.alloc {w0 : World} {o : Obj} {W : World} (h : Box w0 o W) (x : Obj) : Box w0 o (W.alloc x) := h.call ((Below.refl _ _).alloc (Nat.le_refl _) _)

theorem pt_fits {l : List UInt8} {r : Rc} {s : List UInt8} (h : pt l = (r, s, 0)) (hl : l.length ≤ 9223372036854775807) : r.q ≤ 18446744073709551615 ∧ r.k.length ≤ 9223372036854775807 ∧ r.v.length ≤ 9223372036854775807 := by
  rcases tk_cases l with ⟨e, _⟩ | e | ⟨n, q, e, hn, hq⟩
  · rw [pt_num e (by omega)] at h; simp at h
  · rw [pt_num e (by omega)] at h; simp at h
  · unfold M64 at hn
    obtain ⟨_, hql⟩ := tk_rest_le _ e
    obtain ⟨k, u, eu, ho⟩ : ∃ k u e, ot q = (k, u, e) := ⟨_, _, _, rfl⟩
    by_cases hu : eu = 0
    · subst hu
      obtain ⟨h1, h2⟩ := ot_rest_le ho
      by_cases hn2 : n % 2 = 1
      · rw [pt_gone e ho hn2] at h
        simp only [Prod.mk.injEq, and_true] at h
        obtain ⟨rfl, rfl⟩ := h
        exact ⟨by show n / 2 ≤ _; omega, by show k.length ≤ _; omega, by show ([] : List UInt8).length ≤ _; simp⟩
      · obtain ⟨v, x, ex, hv⟩ : ∃ k x e, ot u = (k, x, e) := ⟨_, _, _, rfl⟩
        rw [pt_here e ho hn2 hv] at h
        simp only [Prod.mk.injEq] at h
        obtain ⟨rfl, rfl, rfl⟩ := h
        obtain ⟨h3, h4⟩ := ot_rest_le hv
        exact ⟨by show n / 2 ≤ _; omega, by show k.length ≤ _; omega, by show v.length ≤ _; omega⟩
    · rw [pt_key e ho hu] at h; simp at h; exact absurd h.2.2 hu

/-- What Read returns. -/
def rdV (l : List UInt8) : Value := .tuple #[rv (rd l).1, .string (bs (rd l).2.1), .int .i64 ((rd l).2.2 : Nat)]

set_option maxRecDepth 100000 in
set_option maxHeartbeats 400000 in
theorem read_any (b : ByteArray) (w : World) (hb : b.size ≤ 9223372036854775807) :
    Calls Tryz.prog 101 #[.string b] w fun e w' => e = .returned (rdV b.data.toList) ∧ Below w.heap.size w w' := by
  obtain ⟨r, s, er, hp⟩ : ∃ r s e, pt b.data.toList = (r, s, e) := ⟨_, _, _, rfl⟩
  have h := fun W => parts_any b W hb
  simp only [ptV, hp, rv] at h
  have H := Lib.hid h
  clear h
  have K0 := Lib.hid (Box.made w (.cells #[.int .u64 0, .string ⟨#[]⟩, .string ⟨#[]⟩, .bool false] 47))
  by_cases he : er = 0
  · subst he
    obtain ⟨f0, f1, f2⟩ := pt_fits hp (by rw [len_size]; exact hb)
    have h1 := fun W => right_any r W f0 f1 f2
    simp only [rv] at h1
    have KM := Lib.hid (fun W => Box.made W (.cells #[.int .u64 ((r.q : Nat) : Int), .string (bs r.k), .string (bs r.v), .bool r.g] 47))
    cases hg : right r with
    | true =>
      have e : rdV b.data.toList = .tuple #[.agg #[.int .u64 ((r.q : Nat) : Int), .string (bs r.k), .string (bs r.v), .bool r.g], .string (bs s), .int .i64 0] := by rw [rdV, rd_yes hp hg]; rfl
      rw [e]
      rw [hg] at h1
      have H1 := Lib.hid h1
      clear h1 e hp f0 f1 f2 hg
      generalize ((r.q : Nat) : Int) = Q at *
      generalize bs r.k = K at *
      generalize bs r.v = V at *
      generalize r.g = G at *
      generalize bs s = S at *
      go_enter Tryz.func101, Tryz.ntmps101
      go_wp2_with fail
      (with_reducible refine (H.out _).mono ?_)
      rintro e w1 ⟨rfl, b1⟩
      have K1 := Lib.hid (K0.out.call b1)
      have M1 := Lib.hid (KM.out w1)
      clear b1 KM
      go_wp2_with fail
      (with_reducible refine (H1.out _).mono ?_)
      rintro e w2 ⟨rfl, b2⟩
      have K2 : Box4 w _ _ _ _ w2 := (K1.out.alloc _).call b2
      have M2 : Box4 w1 _ _ _ _ w2 := M1.out.call b2
      clear b2
      obtain ⟨_, d0, d1, d2, d3⟩ := Box4.cells K2
      obtain ⟨g0, g1, g2, g3⟩ := Box4.soft K2
      obtain ⟨_, c0, c1, c2, c3⟩ := Box4.cells M2
      go_wp2_with fail
      exact bodyPost_ret (v := .tuple #[.agg #[.int .u64 Q, .string K, .string V, .bool G], .string S, .int .i64 0]) (by simp [results, Tryz.results101, go_sem, d0, d1, d2, d3]) rfl ⟨rfl, below_set4 K2.1 _ _ _ _⟩
    | false =>
      have e : rdV b.data.toList = .tuple #[.agg #[.int .u64 0, .string ⟨#[]⟩, .string ⟨#[]⟩, .bool false], .string ⟨#[]⟩, .int .i64 2] := by rw [rdV, rd_no hp hg]; rfl
      rw [e]
      rw [hg] at h1
      have H1 := Lib.hid h1
      clear h1 e hp f0 f1 f2 hg
      generalize ((r.q : Nat) : Int) = Q at *
      generalize bs r.k = K at *
      generalize bs r.v = V at *
      generalize r.g = G at *
      generalize bs s = S at *
      go_enter Tryz.func101, Tryz.ntmps101
      go_wp2_with fail
      (with_reducible refine (H.out _).mono ?_)
      rintro e w1 ⟨rfl, b1⟩
      have K1 := Lib.hid (K0.out.call b1)
      clear b1 KM
      go_wp2_with fail
      (with_reducible refine (H1.out _).mono ?_)
      rintro e w2 ⟨rfl, b2⟩
      have K2 : Box4 w _ _ _ _ w2 := (K1.out.alloc _).call b2
      clear b2
      obtain ⟨_, d0, d1, d2, d3⟩ := Box4.cells K2
      obtain ⟨g0, g1, g2, g3⟩ := Box4.soft K2
      go_wp2_with fail
      exact bodyPost_ret (v := .tuple #[.agg #[.int .u64 0, .string ⟨#[]⟩, .string ⟨#[]⟩, .bool false], .string ⟨#[]⟩, .int .i64 2]) (by simp [results, Tryz.results101, go_sem, d0, d1, d2, d3]) rfl ⟨rfl, below_set4 K2.1 _ _ _ _⟩
  · have e : rdV b.data.toList = .tuple #[.agg #[.int .u64 0, .string ⟨#[]⟩, .string ⟨#[]⟩, .bool false], .string ⟨#[]⟩, .int .i64 (er : Nat)] := by rw [rdV, rd_err hp he]; rfl
    rw [e]
    have hne : ((er : Int) != 0) = true := by rw [bne_iff_ne]; omega
    clear e hp
    generalize ((r.q : Nat) : Int) = Q at *
    generalize bs r.k = K at *
    generalize bs r.v = V at *
    generalize r.g = G at *
    generalize bs s = S at *
    go_enter Tryz.func101, Tryz.ntmps101
    go_wp2_with fail
    (with_reducible refine (H.out _).mono ?_)
    rintro e w1 ⟨rfl, b1⟩
    have K1 := Lib.hid (K0.out.call b1)
    have K2 : Box4 w _ _ _ _ w1 := K1.out
    have hz : w.heap.size < w1.heap.size := K1.out.2.1
    clear b1
    obtain ⟨_, d0, d1, d2, d3⟩ := Box4.cells K2
    obtain ⟨g0, g1, g2, g3⟩ := Box4.soft K2
    go_wp2_with fail
    refine bodyPost_ret (v := .tuple #[.agg #[.int .u64 0, .string ⟨#[]⟩, .string ⟨#[]⟩, .bool false], .string ⟨#[]⟩, .int .i64 (er : Nat)]) ?_ rfl ⟨rfl, ?_⟩
    · simp [results, Tryz.results101, go_sem, d0, d1, d2, d3, hz]
    · exact (below_set4 K2.1 _ _ _ _).alloc (below_set4 K2.1 _ _ _ _).size _

end Go.Proofs.YtmekkbhblghbmaaGreatDoor

/- What the call List of package record returns. -/
namespace Go.Proofs.YtmekkbhblghbmaaGreatDoor
open Go.RowKit

/-- The records of a row of bytes, behind those so far; none where it is of another form. -/
def rdsF : Nat → List UInt8 → List Rc → List Rc × Nat
  | 0, _, acc => (acc, 0)
  | n + 1, l, acc => if l = [] then (acc, 0) else if (rd l).2.2 ≠ 0 then ([], (rd l).2.2) else rdsF n (rd l).2.1 (acc ++ [(rd l).1])

def rds (l : List UInt8) : List Rc × Nat := rdsF (l.length + 1) l []

theorem rdsF_nil (n : Nat) (acc : List Rc) : rdsF (n + 1) [] acc = (acc, 0) := by rw [rdsF, if_pos rfl]
theorem rdsF_err {n : Nat} {l : List UInt8} {acc : List Rc} {r : Rc} {s : List UInt8} {e : Nat} (hl : l ≠ []) (h : rd l = (r, s, e)) (he : e ≠ 0) : rdsF (n + 1) l acc = ([], e) := by
  rw [rdsF, if_neg hl, h, if_pos he]
theorem rdsF_next {n : Nat} {l : List UInt8} {acc : List Rc} {r : Rc} {s : List UInt8} (hl : l ≠ []) (h : rd l = (r, s, 0)) : rdsF (n + 1) l acc = rdsF n s (acc ++ [r]) := by
  rw [rdsF, if_neg hl, h, if_neg (by simp)]

theorem rdsF_encs : ∀ (l : List Rc) (n : Nat) (acc : List Rc), rights l = true → (encs l).length < n → rdsF n (encs l) acc = (acc ++ l, 0)
  | [], n, acc, _, hn => by
    obtain ⟨m, rfl⟩ : ∃ m, n = m + 1 := ⟨n - 1, by omega⟩
    rw [encs_nil, rdsF_nil, List.append_nil]
  | r :: l, n, acc, h, hn => by
    simp only [rights, List.all_cons, Bool.and_eq_true] at h
    have h1 := enc_len h.1
    obtain ⟨m, rfl⟩ : ∃ m, n = m + 1 := ⟨n - 1, by omega⟩
    rw [encs_cons] at hn ⊢
    rw [List.length_append] at hn
    have hne : enc r ++ encs l ≠ [] := fun e => by
      have := congrArg List.length e
      rw [List.length_append, List.length_nil] at this
      omega
    rw [rdsF_next hne (rd_enc h.1 _), rdsF_encs l m (acc ++ [r]) h.2 (by omega), List.append_assoc]
    rfl

theorem rds_encs {l : List Rc} (h : rights l = true) : rds (encs l) = (l, 0) := by
  rw [rds, rdsF_encs l _ [] h (by omega), List.nil_append]

/-- Records as cells. -/
def flat (l : List Rc) : List Value := l.flatMap fun r => [.int .u64 ((r.q : Nat) : Int), .string (bs r.k), .string (bs r.v), .bool r.g]
theorem flat_snoc (l : List Rc) (r : Rc) : flat (l ++ [r]) = flat l ++ [.int .u64 ((r.q : Nat) : Int), .string (bs r.k), .string (bs r.v), .bool r.g] := by simp [flat]
theorem flat_get : ∀ (l : List Rc) (i : Nat) (h : i < l.length), (flat l)[i * 4]? = some (.int .u64 ((l[i].q : Nat) : Int)) ∧ (flat l)[i * 4 + 1]? = some (.string (bs l[i].k)) ∧ (flat l)[i * 4 + 2]? = some (.string (bs l[i].v)) ∧ (flat l)[i * 4 + 3]? = some (.bool l[i].g)
  | r :: l, 0, _ => by simp [flat]
  | r :: l, i + 1, h => by
    have := flat_get l i (by simpa using h)
    have e : flat (r :: l) = [.int .u64 ((r.q : Nat) : Int), .string (bs r.k), .string (bs r.v), .bool r.g] ++ flat l := by simp [flat]
    have s : ∀ j, (flat (r :: l))[(i + 1) * 4 + j]? = (flat l)[i * 4 + j]? := fun j => by
      rw [e, List.getElem?_append_right (by simp; omega)]
      congr 1
      simp
      omega
    exact ⟨(s 0).trans this.1, (s 1).trans this.2.1, (s 2).trans this.2.2.1, (s 3).trans this.2.2.2⟩

/-- The slice's block is one of records. -/
def Tag (w : World) (a : Option Addr) : Prop := ∀ ad, a = some ad → ∃ cs z, w.heap[ad.block]? = some (.cells cs 47 z)
theorem Tag.none (w : World) : Tag w none := fun ad h => by cases h
theorem Tag.lt {w : World} {a : Option Addr} (h : Tag w a) {ad : Addr} (e : a = some ad) : ad.block < w.heap.size := by
  obtain ⟨cs, z, hh⟩ := h ad e
  exact (Array.getElem?_eq_some_iff.1 hh).1
theorem Tag.later {w w' : World} {a : Option Addr} (h : Tag w a) {B : Nat} (hb : Below B w w') (hB : w.heap.size ≤ B) : Tag w' a := fun ad e => by
  obtain ⟨cs, z, hh⟩ := h ad e
  have := (Array.getElem?_eq_some_iff.1 hh).1
  exact ⟨cs, z, by rw [hb.block ad.block (by omega)]; exact hh⟩

/-- A slice of records in a block of its own kind. -/
def RecsT (w : World) (a : Option Addr) (l : List Rc) : Prop := Recs w a l ∧ Tag w a
theorem RecsT.later {w w' : World} {a : Option Addr} {l : List Rc} (h : RecsT w a l) {B : Nat} (hb : Below B w w') (hB : w.heap.size ≤ B) : RecsT w' a l := ⟨h.1.later hb hB, h.2.later hb hB⟩

/-- What List leaves. -/
def LsPost (w : World) (x : List Rc × Nat) (e : Ending) (w' : World) : Prop :=
  ∃ a cap, e = .returned (.tuple #[.slice a x.1.length cap, .int .i64 ((x.2 : Nat) : Int)]) ∧ RecsT w' a x.1 ∧ Below w.heap.size w w'

theorem owns_later {w w' : World} {base n : Nat} {e : TypeId} {size : Nat} {v : Value} {xs : List Value} (h : w.ownsRow base e size v n xs) (hb : Below w.heap.size w w') : w'.ownsRow base e size v n xs := by
  have hl := h.lt
  refine ⟨h.1, ?_⟩
  rcases h.2 with hn | ⟨g, cap, cur, rfl, hbg, hg, rest⟩
  · exact .inl hn
  · exact .inr ⟨g, cap, cur, rfl, hbg, by rw [hb.block g (hl g rfl).2]; exact hg, rest⟩

theorem owns_recs {w : World} {base : Nat} {v : Value} {l : List Rc} (h : w.ownsRow base 47 4 v l.length (flat l)) : ∃ a cap, v = .slice a l.length cap ∧ RecsT w a l := by
  have hl := h.lt
  have hc := fun g hg => h.cells (g := g) hg
  rcases h.2 with ⟨rfl, h0⟩ | ⟨g, cap, cur, rfl, hbg, hg, rest⟩
  · exact ⟨none, 0, by rw [h0], fun h1 => by omega, Tag.none _⟩
  · refine ⟨_, cap, rfl, fun _ => ⟨g, 0, rfl, (hl g rfl).2, fun i hi => ?_⟩, fun ad e => by cases e; exact ⟨_, _, hg⟩⟩
    obtain ⟨f0, f1, f2, f3⟩ := flat_get l i hi
    have key : ∀ j u, (flat l)[j]? = some u → w.cell? ⟨g, j, none⟩ = some u := fun j u hu => by
      have := hc g rfl j u hu
      rwa [show (⟨g, 0, none⟩ : Addr).add j = ⟨g, j, none⟩ from by simp [Addr.add]; omega] at this
    have z : ∀ j, 0 + j = j := Nat.zero_add
    simp only [z]
    exact ⟨key _ _ f0, key _ _ f1, key _ _ f2, key _ _ f3⟩

def strLen : Value → Nat
  | .string s => s.size
  | _ => 0

theorem infoRec : (Tryz.prog.info? 47).map (fun i => (i.zero, i.size, i.bytes)) = some (some (.agg #[.int .u64 0, .string ⟨#[]⟩, .string ⟨#[]⟩, .bool false]), 4, 48) := by kernel_rfl

theorem cell_four_new (w : World) (c0 c1 c2 c3 : Value) (t : TypeId) : ∀ j u, [c0, c1, c2, c3][j]? = some u → (w.alloc (.cells #[c0, c1, c2, c3] t)).cell? ((⟨w.heap.size, 0, none⟩ : Addr).add j) = some u := by
  intro j u hu
  rw [show (⟨w.heap.size, 0, none⟩ : Addr).add j = ⟨w.heap.size, j, none⟩ from by simp [Addr.add]; omega, World.cell?_alloc_mark]
  simpa using hu

theorem read_of (x : List UInt8) (hx : x.length ≤ 9223372036854775807) (r : Rc) (s : List UInt8) (e : Nat) (h : rd x = (r, s, e)) (w : World) :
    Calls Tryz.prog 101 #[.string (bs x)] w fun y w' => y = .returned (.tuple #[.agg #[.int .u64 ((r.q : Nat) : Int), .string (bs r.k), .string (bs r.v), .bool r.g], .string (bs s), .int .i64 (e : Nat)]) ∧ Below w.heap.size w w' := by
  have := read_any (bs x) w (by rw [bs_size]; exact hx)
  rw [bs_list, rdV, h] at this
  exact this

theorem bs_ne {x : List UInt8} (h : x ≠ []) : ¬ (bs x).toList = [] := by rw [bs_toList]; exact h

set_option maxRecDepth 100000 in
set_option maxHeartbeats 1000000 in
theorem list_any (b : List UInt8) (w : World) (hb : b.length ≤ 2000000) :
    Calls Tryz.prog 151 #[.string (bs b)] w (LsPost w (rds b)) := by
  obtain ⟨i0, hi, hz0, hz1, hz2⟩ := info_parts infoRec
  have HI := Lib.hid (And.intro hi (And.intro hz0 (And.intro hz1 hz2)))
  clear hi hz0 hz1 hz2
  obtain ⟨X, hX⟩ : ∃ X, X = bs b := ⟨_, rfl⟩
  rw [← hX]
  have HX := Lib.hid hX
  clear hX
  go_enter Tryz.func151, Tryz.ntmps151
  go_wp2_with fail
  go_loopw [0, 4] (fun s v wr => ∃ (x : List UInt8) (acc : List Rc) (n : Nat), s = .string (bs x) ∧ x.length < n ∧ acc.length + x.length ≤ b.length ∧ rdsF n x acc = rds b ∧ wr.ownsRow w.heap.size 47 4 v acc.length (flat acc) ∧ Below w.heap.size w wr) (fun s _ _ => strLen s)
  case atStart => exact ⟨b, [], b.length + 1, by rw [HX.out], by omega, by simp, rfl, World.ownsRow_nil _ _ _ _, Below.refl _ _⟩
  case round =>
    obtain ⟨x, acc, n, rfl, hn, hl, hr, hown, hbw⟩ := hrel
    obtain ⟨m, rfl⟩ : ∃ m, n = m + 1 := ⟨n - 1, by omega⟩
    have HR := Lib.hid hr
    have HO := Lib.hid hown
    clear hr hown
    by_cases hx : x = []
    · subst hx
      have HE : Hid (rds b = (acc, 0)) := Lib.hid (by rw [← HR.out, rdsF_nil])
      rw [show bs ([] : List UInt8) = ⟨#[]⟩ from rfl]
      obtain ⟨a, cap, rfl, hrec⟩ := owns_recs HO.out
      have HC := Lib.hid hrec
      clear hrec
      go_wp2_with fail
      go_ret2
      exact ⟨a, cap, by rw [HE.out]; rfl, by rw [HE.out]; exact HC.out, hbw⟩
    · have hne := bs_ne hx
      have hne2 : (bs x).toList.isEmpty = false := List.isEmpty_eq_false_iff.2 hne
      obtain ⟨r, s, e, hrd⟩ : ∃ r s e, rd x = (r, s, e) := ⟨_, _, _, rfl⟩
      have H1 := Lib.hid (read_of x (by omega) r s e hrd)
      by_cases he : e = 0
      · subst he
        have hlt : s.length < x.length ∧ 0 < x.length := by
          obtain ⟨hg, hxe⟩ := rd_ok hrd
          have := enc_len hg
          rw [hxe, List.length_append]
          omega
        have HN : Hid (rdsF m s (acc ++ [r]) = rds b) := Lib.hid (by rw [← HR.out, rdsF_next hx hrd])
        have HL : Hid (strLen (.string (bs s)) < strLen (.string (bs x))) := Lib.hid (by show (bs s).size < (bs x).size; rw [bs_size, bs_size]; omega)
        clear hrd hx
        have HSn := Lib.hid (flat_snoc acc r)
        generalize ((r.q : Nat) : Int) = Q at *
        generalize bs r.k = K at *
        generalize bs r.v = V at *
        generalize r.g = G at *
        generalize bs x = X1 at *
        generalize hSS : bs s = S1 at *
        have HSS := Lib.hid hSS
        clear hSS
        go_wp2_with fail
        (with_reducible refine (H1.out _).mono ?_)
        rintro e w1 ⟨rfl, b1⟩
        have hbz := hbw.size
        have hb1z := b1.size
        have O1 := Lib.hid ((owns_later HO.out b1).alloc (.cells #[.int .u64 Q, .string K, .string V, .bool G] 47))
        have B1 : Hid (Below w.heap.size w (w1.alloc (.cells #[.int .u64 Q, .string K, .string V, .bool G] 47))) := Lib.hid ((hbw.trans (b1.mono hbz)).alloc (by omega) _)
        clear b1 HO hbw
        go_wp2_with (at_builtin; refine wpList_append_own _ rfl _ _ 31 rfl w.heap.size 47 i0 (.agg #[.int .u64 0, .string ⟨#[]⟩, .string ⟨#[]⟩, .bool false]) 4 48 Tryz.underlying31 HI.out.1 HI.out.2.1 HI.out.2.2.1 HI.out.2.2.2 rfl (by decide) _ _ _ rfl (O1.out.alloc _) ⟨w1.heap.size + 1, 0, none⟩ 1 1 [.int .u64 Q, .string K, .string V, .bool G] rfl rfl ?c1 (fun x hx => by simp at hx; rcases hx with rfl | rfl | rfl | rfl <;> rfl) (by unfold maxLen; omega) (by omega) (by simp; omega) ?_)
        case c1 =>
          have := cell_four_new (w1.alloc (.cells #[.int .u64 Q, .string K, .string V, .bool G] 47)) (.int .u64 Q) (.string K) (.string V) (.bool G) 47
          rwa [World.size_alloc] at this
        intro v' w3 hown' hgrow _
        have B3 : Hid (Below w.heap.size w w3) := Lib.hid (Below.grown (B1.out.alloc (by simp; omega) _) hgrow (by simp; omega) (fun j hj => (O1.out.lt _ hj).1))
        have O3 := Lib.hid hown'
        clear hown' hgrow
        go_wp2_with fail
        go_roundw
        case rel => exact ⟨s, acc ++ [r], m, by rw [HSS.out], by omega, by simp; omega, HN.out, by rw [HSn.out, List.length_append]; exact O3.out, B3.out⟩
        case measure => exact HL.out
      · have HE : Hid (rds b = ([], e)) := Lib.hid (by rw [← HR.out, rdsF_err hx hrd he])
        have hb0 : ((e : Int) != 0) = true := by rw [bne_iff_ne]; omega
        clear hrd hx
        generalize ((r.q : Nat) : Int) = Q at *
        generalize bs r.k = K at *
        generalize bs r.v = V at *
        generalize r.g = G at *
        generalize bs x = X1 at *
        generalize bs s = S1 at *
        go_wp2_with fail
        (with_reducible refine (H1.out _).mono ?_)
        rintro e w1 ⟨rfl, b1⟩
        go_wp2_with fail
        go_ret2
        exact ⟨none, 0, by rw [HE.out]; rfl, by rw [HE.out]; exact ⟨fun h => by simp at h, Tag.none _⟩, ((hbw.trans (b1.mono hbw.size)).alloc (Nat.le_trans hbw.size b1.size) _)⟩

end Go.Proofs.YtmekkbhblghbmaaGreatDoor

/- A record that comes in as an argument: how it is read, and that it reads so in every world. -/
namespace Go.Proofs.YtmekkbhblghbmaaGreatDoor
open Go.Joins Go.ChangeShapes Go.WideShapes Go.RowKit Go.Deep

theorem cellsRec : Tryz.prog.cellsOf 47 = 4 := by kernel_rfl
theorem cellsStr : Tryz.prog.cellsOf 9 = 1 := by kernel_rfl
theorem cellsU64 : Tryz.prog.cellsOf 45 = 1 := by kernel_rfl
theorem cellsBool : Tryz.prog.cellsOf 4 = 1 := by kernel_rfl

/-- A record's datum. -/
def rdat {H : Type} (r : Rc) : DataW H := .agg [.lit (.int .u64 ((r.q : Nat) : Int)), .lit (.string r.k), .lit (.string r.v), .lit (.bool r.g)]

/-- What is known of a record that came in. -/
def Came (r : Rc) : Prop := r.q ≤ 18446744073709551615 ∧ r.k.length ≤ maxLen ∧ r.v.length ≤ maxLen

theorem Came.fits {r : Rc} (h : Came r) : r.q ≤ 18446744073709551615 ∧ r.k.length ≤ 9223372036854775807 ∧ r.v.length ≤ 9223372036854775807 := by
  obtain ⟨h1, h2, h3⟩ := h
  unfold maxLen at h2 h3
  omega

section
variable {H : Type} {enc : TypeId × Value → H}

theorem rec_of_parts {c0 c1 c2 c3 : Value} {y0 y1 y2 y3 : DataW H × List MemPlace} {W : World} {base : Nat} {spare : Nat → Bool} {held : Bool} {n : Nat}
    (h0 : DataW.trod enc Tryz.prog W base spare held n 45 [c0] = some y0) (h1 : DataW.trod enc Tryz.prog W base spare held n 9 [c1] = some y1)
    (h2 : DataW.trod enc Tryz.prog W base spare held n 9 [c2] = some y2) (h3 : DataW.trod enc Tryz.prog W base spare held n 4 [c3] = some y3) :
    ∃ r : Rc, Came r ∧ c0 = .int .u64 ((r.q : Nat) : Int) ∧ c1 = .string (bs r.k) ∧ c2 = .string (bs r.v) ∧ c3 = .bool r.g ∧
      DataW.agg [y0.1, y1.1, y2.1, y3.1] = rdat (H := H) r ∧ y0.2 = [] ∧ y1.2 = [] ∧ y2.2 = [] ∧ y3.2 = [] := by
  obtain ⟨q, e0, rfl, z0⟩ := DataW.trod_int Tryz.underlying45 h0
  obtain ⟨k, e1, rfl, z1⟩ := DataW.trod_string Tryz.underlying9 h1
  obtain ⟨v, e2, rfl, z2⟩ := DataW.trod_string Tryz.underlying9 h2
  obtain ⟨g, e3, rfl⟩ := DataW.trod_bool Tryz.underlying4 h3
  simp only [List.cons.injEq, and_true] at e0 e1 e2 e3
  obtain ⟨q0, q1⟩ := bounds_u64 z0
  have hq : ((q.toNat : Nat) : Int) = q := by omega
  refine ⟨⟨q.toNat, k.data.toList, v.data.toList, g⟩, ⟨by show q.toNat ≤ _; omega, by show k.data.toList.length ≤ _; rw [len_size]; exact z1, by show v.data.toList.length ≤ _; rw [len_size]; exact z2⟩, ?_, ?_, ?_, e3, ?_, rfl, rfl, rfl, rfl⟩
  · rw [e0, hq]
  · rw [e1, bs_of]
  · rw [e2, bs_of]
  · show _ = DataW.agg [.lit (.int .u64 ((q.toNat : Nat) : Int)), _, _, _]
    rw [hq]

theorem wf_u64 {q : Nat} (h : q ≤ 18446744073709551615) : (Lit.int .u64 ((q : Nat) : Int)).wf = true := by
  have e0 : IntKind.u64.min = 0 := rfl
  have e1 : IntKind.u64.max = 18446744073709551615 := rfl
  simp [Lit.wf, e0, e1]; omega

theorem rec_reads {r : Rc} (h : Came r) (W : World) (base : Nat) (sp : Nat → Bool) (held : Bool) : DataW.Trod enc Tryz.prog W base sp held 47 (rv r) (rdat r) [] := by
  obtain ⟨h1, h2, h3⟩ := h
  have z := wf_u64 h1
  rw [← bs_size] at h2 h3
  refine ⟨2, ?_⟩
  simp [DataW.trod, Value.cells, rv, rdat, Tryz.underlying47, Tryz.underlying45, Tryz.underlying9, Tryz.underlying4, cellsRec, cellsStr, cellsU64, cellsBool, z, h2, h3, bs_list]

set_option maxRecDepth 100000 in
theorem open_rec {r : Reach} {b0 : Nat} {W : World} {base : Nat} {sp : Nat → Bool} {held : Bool} {v : Value} {d : DataW H} {p : List MemPlace}
    (hv : Value.okWide Tryz.prog W r b0 47 v) (h : DataW.Trod enc Tryz.prog W base sp held 47 v d p) : ∃ x : Rc, Came x ∧ v = rv x ∧ d = rdat x ∧ p = [] := by
  obtain ⟨v0, v1, v2, v3, y0, y1, y2, y3, n, rfl, rfl, rfl, h0, h1, h2, h3⟩ := open_agg4 Tryz.underlying47 (by kernel_rfl) cellsRec hv h
  obtain ⟨x, hx, rfl, rfl, rfl, rfl, hd, p0, p1, p2, p3⟩ := rec_of_parts h0 h1 h2 h3
  exact ⟨x, hx, rfl, hd, by rw [p0, p1, p2, p3]; rfl⟩

end
end Go.Proofs.YtmekkbhblghbmaaGreatDoor

/- A slice of records that comes in as an argument: what its cells hold. -/
namespace Go.Proofs.YtmekkbhblghbmaaGreatDoor
open Go.Joins Go.ChangeShapes Go.WideShapes Go.RowKit Go.Deep

theorem laidOut : laidOutB Tryz.prog = true := by kernel_rfl

instance : Inhabited Rc := ⟨Rc.z⟩

section
variable {H : Type} {enc : TypeId × Value → H}

theorem rec_at {W : World} {base : Nat} {spare : Nat → Bool} {held : Bool} {n : Nat} {cs : List Value} {x : DataW H × List MemPlace} {a : Addr}
    (hc : W.cells? base a 4 = some cs) (h : DataW.trod enc Tryz.prog W base spare held n 47 cs = some x) :
    ∃ r : Rc, Came r ∧ W.cell? (a.add 0) = some (.int .u64 ((r.q : Nat) : Int)) ∧ W.cell? (a.add 1) = some (.string (bs r.k)) ∧ W.cell? (a.add 2) = some (.string (bs r.v)) ∧ W.cell? (a.add 3) = some (.bool r.g) := by
  obtain ⟨_, hl, hat⟩ := World.cells?_some hc
  obtain ⟨c0, c1, c2, c3, rfl⟩ : ∃ c0 c1 c2 c3, cs = [c0, c1, c2, c3] := by
    match cs, hl with
    | [c0, c1, c2, c3], _ => exact ⟨c0, c1, c2, c3, rfl⟩
  obtain ⟨y0, y1, y2, y3, m, _, _, h0, h1, h2, h3⟩ := trod_struct4 Tryz.underlying47 h
  simp [cellsStr, cellsU64, cellsBool] at h0 h1 h2 h3
  obtain ⟨r, hr, rfl, rfl, rfl, rfl, _⟩ := rec_of_parts h0 h1 h2 h3
  exact ⟨r, hr, hat 0 (by omega), hat 1 (by omega), hat 2 (by omega), hat 3 (by omega)⟩

theorem open_recs {W : World} {t : TypeId} (ht : Tryz.prog.underlying t = some (.slice 47)) {a : Option Addr} {len cap : Nat} {d : DataW H} {p : List MemPlace}
    (h : DataW.Trod enc Tryz.prog W 0 (fun _ => true) true t (.slice a len cap) d p) : ∃ l : List Rc, l.length = len ∧ len ≤ maxLen ∧ Recs W a l ∧ ∀ r ∈ l, Came r := by
  obtain ⟨fuel, hf⟩ := h
  have hlt := DataW.trod_lt fuel _ _ _ hf
  rcases open_slice ht hf with ⟨hcs, _⟩ | ⟨x, l, c, m, n, D, Pl, hcs, _, hl, hm, hmm, hx, hi⟩
  · simp [Value.cells] at hcs
    obtain ⟨rfl, rfl, rfl⟩ := hcs
    exact ⟨[], rfl, by unfold maxLen; omega, fun h => by simp at h, fun r hr => by simp at hr⟩
  · simp [Value.cells] at hcs
    obtain ⟨rfl, rfl, rfl⟩ := hcs
    simp only [if_true] at hmm
    subst hmm
    rw [cellsRec] at hi
    have hex : ∀ i, i < len → ∃ r : Rc, Came r ∧ W.cell? (x.add (i * 4)) = some (.int .u64 ((r.q : Nat) : Int)) ∧ W.cell? (x.add (i * 4 + 1)) = some (.string (bs r.k)) ∧ W.cell? (x.add (i * 4 + 2)) = some (.string (bs r.v)) ∧ W.cell? (x.add (i * 4 + 3)) = some (.bool r.g) := fun i hil => by
      obtain ⟨cs, hc, hd⟩ := hi i (by omega)
      obtain ⟨r, hr, e0, e1, e2, e3⟩ := rec_at hc hd
      rw [add_add] at e0 e1 e2 e3
      exact ⟨r, hr, e0, e1, e2, e3⟩
    obtain ⟨f, hf2⟩ := choose_lt hex
    refine ⟨(List.range len).map f, by simp, by omega, fun h0 => ?_, fun r hr => ?_⟩
    · have hpos : 0 < len := by simpa using h0
      obtain ⟨b, off, spot⟩ := x
      have hs : spot = none := by simpa [Addr.add] using World.cell?_spot (hf2 0 hpos).2.1
      subst hs
      refine ⟨b, off, rfl, ?_, fun i hi2 => ?_⟩
      · have := World.block_lt_of_cell? _ _ (hf2 0 hpos).2.1
        simpa [Addr.add] using this
      · have hil : i < len := by simpa using hi2
        obtain ⟨_, e0, e1, e2, e3⟩ := hf2 i hil
        simp only [Addr.add_lit] at e0 e1 e2 e3
        simp only [List.getElem_map, List.getElem_range]
        exact ⟨e0, e1, e2, e3⟩
    · obtain ⟨i, hi3, rfl⟩ := List.mem_map.1 hr
      exact (hf2 i (List.mem_range.1 hi3)).1

end

theorem Came.all {l : List Rc} (h : ∀ r ∈ l, Came r) : Fits l := fun r hr => (h r hr).fits

end Go.Proofs.YtmekkbhblghbmaaGreatDoor

/- What the document's small tests on lists of records return: Light and Same. -/
namespace Go.Proofs.YtmekkbhblghbmaaGreatDoor
open Go.RowKit

theorem run_min2 (w : World) (ts : Array TypeId) (t : TypeId) (x y n : Nat) (h1 : n ≤ x) (h2 : n ≤ y) (h : n = x ∨ n = y) :
    (Builtin.min_ ts t #[.int .i64 (x : Int), .int .i64 (y : Int)]).run Tryz.prog w = .ok (.int .i64 (n : Int)) w := by
  simp only [Builtin.min_, Builtin.min2, List.foldlM, Sem.run_bind, Sem.run_pure, Result.andThen]
  congr 2
  split <;> omega

/-- What Light leaves. -/
def LightPost (w : World) (l : List Rc) (e : Ending) (w' : World) : Prop := ∃ b : Bool, e = .returned (.bool b) ∧ (b = true → l.length ≤ 40) ∧ Below w.heap.size w w'

theorem cells_of {w : World} {a : Option Addr} {l : List Rc} (h : Recs w a l) (k : Nat) (hk : k < l.length) : ∃ b off, a = some ⟨b, off, none⟩ ∧ b < w.heap.size ∧
    w.cell? ⟨b, off + k * 4, none⟩ = some (.int .u64 ((l[k].q : Nat) : Int)) ∧ w.cell? ⟨b, off + k * 4 + 1, none⟩ = some (.string (bs l[k].k)) ∧
    w.cell? ⟨b, off + k * 4 + 2, none⟩ = some (.string (bs l[k].v)) ∧ w.cell? ⟨b, off + k * 4 + 3, none⟩ = some (.bool l[k].g) := by
  obtain ⟨b, off, ha, hb, hc⟩ := h (by omega)
  obtain ⟨c0, c1, c2, c3⟩ := hc k hk
  exact ⟨b, off, ha, hb, c0, c1, c2, c3⟩

set_option maxRecDepth 100000 in
set_option maxHeartbeats 400000 in
theorem light_any (l : List Rc) (a : Option Addr) (cap : Nat) (w : World) (hl : l.length ≤ 9223372036854775807) (hr : Recs w a l) (hf : Fits l) :
    Calls Tryz.prog 51 #[.slice a l.length cap] w (LightPost w l) := by
  have HR := Lib.hid hr
  have HF := Lib.hid hf
  clear hr hf
  obtain ⟨n, hn⟩ : ∃ n, n = l.length := ⟨_, rfl⟩
  have HN := Lib.hid hn
  rw [← hn] at hl ⊢
  clear hn
  go_enter Tryz.func51, Tryz.ntmps51
  go_wp2_with fail
  go_loopw [3, 4] (fun s i wr => ∃ k x d : Nat, k ≤ n ∧ k ≤ 100 ∧ x ≤ 20000 * k ∧ i = .int .i64 k ∧ s = .int .i64 x ∧ wr = w.drewN d) (fun _ i _ => 100 - (intOf i).toNat)
  case atStart => exact ⟨0, 0, 0, by omega, by omega, by omega, rfl, rfl, rfl⟩
  case round =>
    obtain ⟨k, x, d, hk, hk1, hx, rfl, rfl, rfl⟩ := hrel
    by_cases hlt : k < n
    · by_cases h100 : k < 100
      · obtain ⟨b, off, rfl, hbl, c0, c1, c2, c3⟩ := cells_of HR.out k (by rw [← HN.out]; exact hlt)
        obtain ⟨f0, f1, f2⟩ := HF.out (l[k]'(by rw [← HN.out]; exact hlt)) (List.getElem_mem _)
        generalize l[k]'(by rw [← HN.out]; exact hlt) = r at *
        have z1 : (bs r.k).size ≤ 9223372036854775807 := by rw [bs_size]; exact f1
        have z2 : (bs r.v).size ≤ 9223372036854775807 := by rw [bs_size]; exact f2
        generalize bs r.k = K at *
        generalize bs r.v = V at *
        obtain ⟨p, p1, p2, p3⟩ : ∃ p : Nat, p ≤ K.size ∧ p ≤ 10000 ∧ (p = K.size ∨ p = 10000) := ⟨min K.size 10000, by omega, by omega, by omega⟩
        obtain ⟨q, q1, q2, q3⟩ : ∃ p : Nat, p ≤ V.size ∧ p ≤ 10000 ∧ (p = V.size ∨ p = 10000) := ⟨min V.size 10000, by omega, by omega, by omega⟩
        have m1 := fun (w : World) ts t => run_min2 w ts t K.size 10000 p p1 p2 p3
        have m2 := fun (w : World) ts t => run_min2 w ts t V.size 10000 q q1 q2 q3
        have w1 := IntWalk.i64_in ((x : Int) + (p : Int)) ⟨by omega, by omega⟩
        have w2 := IntWalk.i64_in ((x : Int) + (p : Int) + (q : Int)) ⟨by omega, by omega⟩
        have hlti : (k : Int) < (n : Int) := by omega
        have P3 := Lib.hid (And.intro p3 q3)
        clear p3 q3 f0 f1 f2 c0 c3
        go_wp2_with fail
        go_quiet (fail)
        go_wp2_with fail
        have p3 := P3.out
        refine ⟨⟨k + 1, x + p + q, d + nq, by omega, by omega, by omega, by go_num, ?_, rfl⟩, by simp [intOf]; omega⟩
        congr 1
        omega
      · have e100 : k = 100 := by omega
        subst e100
        go_wp2_with fail
        go_ret
        exact ⟨false, rfl, fun h => by simp at h, below_drewN (Below.refl _ _) d⟩
    · have e : k = n := by omega
      subst e
      by_cases c40 : k ≤ 40
      all_goals
        go_wp2_with fail
        go_ret
        exact ⟨_, rfl, fun _ => by first | (rw [← HN.out]; exact c40) | simp_all, below_drewN (Below.refl _ _) d⟩

end Go.Proofs.YtmekkbhblghbmaaGreatDoor

/- What the document's own answers Right and Bytes of layer 3 return: the same plain functions. -/
namespace Go.Proofs.YtmekkbhblghbmaaGreatDoor
open Go.RowKit

theorem refput_nat (n : Nat) (w : World) (h : n ≤ 18446744073709551615) :
    Calls Tryz.prog 111 #[.int .u64 (n : Int)] w fun e w' => e = .returned (.string (bs (put n))) ∧ Below w.heap.size w w' :=
  refput_any n w (by unfold M64; omega)

theorem reftext_of (s : List UInt8) (w : World) (h : s.length ≤ 281474976710656) :
    Calls Tryz.prog 95 #[.string (bs s)] w fun e w' => e = .returned (.string (bs (txt s))) ∧ Below w.heap.size w w' := by
  have := reftext_any (bs s) w (by rw [bs_size]; exact h)
  rwa [bs_size, bs_list] at this

set_option maxRecDepth 100000 in
set_option maxHeartbeats 400000 in
theorem refright_here (q : Nat) (K V : ByteArray) (w : World) (hq : q ≤ 18446744073709551615) (hK : K.size ≤ 9223372036854775807) (hV : V.size ≤ 9223372036854775807) :
    Calls Tryz.prog 131 #[.agg #[.int .u64 (q : Int), .string K, .string V, .bool false]] w fun e w' => e = .returned (.bool (rgt q K.size V.size)) ∧ Below w.heap.size w w' := by
  go_enter Tryz.func131, Tryz.ntmps131
  go_wp2_with fail
  all_goals
    go_ret
    refine ⟨ret_bool ?_, (Below.refl _ _).alloc (Nat.le_refl _) _⟩
    unfold rgt
    first | (rw [decide_eq_decide]; omega) | (symm; rw [decide_eq_false_iff_not]; omega) | (symm; rw [decide_eq_true_iff]; omega)

set_option maxRecDepth 100000 in
set_option maxHeartbeats 400000 in
theorem refright_gone (q : Nat) (K V : ByteArray) (w : World) (hq : q ≤ 18446744073709551615) (hK : K.size ≤ 9223372036854775807) (hV : V.size ≤ 9223372036854775807) :
    Calls Tryz.prog 131 #[.agg #[.int .u64 (q : Int), .string K, .string V, .bool true]] w fun e w' => e = .returned (.bool (rgt q K.size 0 && decide (V.size = 0))) ∧ Below w.heap.size w w' := by
  by_cases hv : V.size = 0
  · obtain rfl := empty_of hv
    rw [show decide ((⟨#[]⟩ : ByteArray).size = 0) = true from rfl, Bool.and_true]
    clear hv hV
    go_enter Tryz.func131, Tryz.ntmps131
    go_wp2_with fail
    all_goals
      go_ret
      refine ⟨ret_bool ?_, (Below.refl _ _).alloc (Nat.le_refl _) _⟩
      unfold rgt
      first | (rw [decide_eq_decide]; omega) | (symm; rw [decide_eq_false_iff_not]; omega) | (symm; rw [decide_eq_true_iff]; omega)
  · rw [show decide (V.size = 0) = false from by simpa using hv, Bool.and_false]
    have hv1 := list_ne hv
    have hv2 : V.toList.isEmpty = false := List.isEmpty_eq_false_iff.2 hv1
    clear hv
    go_enter Tryz.func131, Tryz.ntmps131
    go_wp2_with fail
    all_goals
      go_ret
      exact ⟨rfl, (Below.refl _ _).alloc (Nat.le_refl _) _⟩

/-- What the document's Right returns. -/
theorem refright_any (r : Rc) (w : World) (hq : r.q ≤ 18446744073709551615) (hK : r.k.length ≤ 9223372036854775807) (hV : r.v.length ≤ 9223372036854775807) :
    Calls Tryz.prog 131 #[rv r] w fun e w' => e = .returned (.bool (right r)) ∧ Below w.heap.size w w' := by
  obtain ⟨q, k, v, g⟩ := r
  cases g with
  | false =>
    have := refright_here q (bs k) (bs v) w hq (by rw [bs_size]; exact hK) (by rw [bs_size]; exact hV)
    rw [bs_size, bs_size] at this
    rw [show right ⟨q, k, v, false⟩ = rgt q k.length v.length from by unfold right rgt; simp [Bool.and_assoc]]
    exact this
  | true =>
    have := refright_gone q (bs k) (bs v) w hq (by rw [bs_size]; exact hK) (by rw [bs_size]; exact hV)
    rw [bs_size, bs_size] at this
    rw [show right ⟨q, k, v, true⟩ = (rgt q k.length 0 && decide (v.length = 0)) from by
      unfold right rgt
      cases v with
      | nil => simp [Bool.and_assoc]
      | cons c l => simp]
    exact this

set_option maxRecDepth 100000 in
set_option maxHeartbeats 400000 in
theorem refbytes_gone (q : Nat) (k : List UInt8) (V : ByteArray) (w : World) (hq : q ≤ 1099511627776) (hk : k.length ≤ 40) (hr : ∀ W, Calls Tryz.prog 131 #[.agg #[.int .u64 (q : Int), .string (bs k), .string V, .bool true]] W fun e w' => e = .returned (.bool true) ∧ Below W.heap.size W w') :
    Calls Tryz.prog 99 #[.agg #[.int .u64 (q : Int), .string (bs k), .string V, .bool true]] w fun e w' => e = .returned (.tuple #[.string (bs (put (2 * q + 1) ++ txt k)), .int .i64 0]) ∧ Below w.heap.size w w' := by
  have h1 : ∀ W, Box4 w (.int .u64 (q : Int)) (.string (bs k)) (.string V) (.bool true) W → Calls Tryz.prog 111 #[.int .u64 (2 * (q : Int) + 1)] W fun e w' => e = .returned (.string (bs (put (2 * q + 1)))) ∧ Box4 w (.int .u64 (q : Int)) (.string (bs k)) (.string V) (.bool true) w' := fun W hW => by
    have := refput_nat (2 * q + 1) W (by omega)
    rw [show ((2 * q + 1 : Nat) : Int) = 2 * (q : Int) + 1 from by omega] at this
    exact this.mono fun e w' ⟨he, hb⟩ => ⟨he, hW.call hb⟩
  have h2 : ∀ W, Box4 w (.int .u64 (q : Int)) (.string (bs k)) (.string V) (.bool true) W → Calls Tryz.prog 95 #[.string (bs k)] W fun e w' => e = .returned (.string (bs (txt k))) ∧ Box4 w (.int .u64 (q : Int)) (.string (bs k)) (.string V) (.bool true) w' := fun W hW =>
    (reftext_of k W (by omega)).mono fun e w' ⟨he, hb⟩ => ⟨he, hW.call hb⟩
  have s1 : (bs (put (2 * q + 1))).size ≤ 10 := by rw [bs_size]; exact put_ten (lt64 (by omega))
  have s2 : (bs (txt k)).size ≤ 50 := by rw [bs_size]; have := txt_len (s := k) (by omega); omega
  rw [bs_app]
  have K0 := Box.made w (.cells #[.int .u64 (q : Int), .string (bs k), .string V, .bool true] 47)
  have wr1 := IntWalk.u64_in (2 * (q : Int)) ⟨by omega, by omega⟩
  have wr2 := IntWalk.u64_in (2 * (q : Int) + 1) ⟨by omega, by omega⟩
  generalize bs (put (2 * q + 1)) = P1 at *
  generalize bs (txt k) = T1 at *
  have c1 : ¬ 9223372036854775807 < P1.size + T1.size := by omega
  generalize bs k = K at *
  have HR := Lib.hid hr
  have K0 := Lib.hid K0
  have H1 := Lib.hid h1
  have H2 := Lib.hid h2
  clear h1 h2 hk hq hr
  go_enter Tryz.func99, Tryz.ntmps99
  go_wp2_with fail
  (with_reducible refine (HR.out _).mono ?_)
  rintro e w0 ⟨rfl, b0⟩
  have K1 : Box4 w _ _ _ _ w0 := K0.out.call b0
  clear b0 K0
  obtain ⟨K1, d0, d1, d2, d3⟩ := Box4.cells K1
  go_wp2_with fail
  go_region_held3 (fun W => Box4 w (.int .u64 (q : Int)) (.string K) (.string V) (.bool true) W ∧ W.cell? ⟨w.heap.size, 0, none⟩ = some (.int .u64 (q : Int)) ∧ W.cell? ⟨w.heap.size, 1, none⟩ = some (.string K) ∧ W.cell? ⟨w.heap.size, 2, none⟩ = some (.string V) ∧ W.cell? ⟨w.heap.size, 3, none⟩ = some (.bool true))
    (first | exact Box4.cells ‹_› | exact Box4.cells K1 | exact Box4.cells (Box.drew K1) | exact Box4.cells (Box.drew ‹_›))
    (first | (go_at_call 111; (with_reducible refine (H1.out _ ?_).mono ?_); (first | assumption | exact K1 | exact Box.drew K1 | exact Box.drew ‹_›); rintro e w2 ⟨rfl, k2⟩) | (go_at_call 95; (with_reducible refine (H2.out _ ?_).mono ?_); (first | assumption | exact K1 | exact Box.drew K1 | exact Box.drew ‹_›); rintro e w2 ⟨rfl, k2⟩))
  go_wp2_with fail
  go_ret2
  exact ⟨rfl, Box.below ‹_›⟩

set_option maxRecDepth 100000 in
set_option maxHeartbeats 400000 in
theorem refbytes_here (q : Nat) (k v : List UInt8) (w : World) (hq : q ≤ 1099511627776) (hk : k.length ≤ 40) (hv : v.length ≤ 300) (hr : ∀ W, Calls Tryz.prog 131 #[.agg #[.int .u64 (q : Int), .string (bs k), .string (bs v), .bool false]] W fun e w' => e = .returned (.bool true) ∧ Below W.heap.size W w') :
    Calls Tryz.prog 99 #[.agg #[.int .u64 (q : Int), .string (bs k), .string (bs v), .bool false]] w fun e w' => e = .returned (.tuple #[.string (bs (put (2 * q) ++ txt k ++ txt v)), .int .i64 0]) ∧ Below w.heap.size w w' := by
  have h1 : ∀ W, Box4 w (.int .u64 (q : Int)) (.string (bs k)) (.string (bs v)) (.bool false) W → Calls Tryz.prog 111 #[.int .u64 (2 * (q : Int))] W fun e w' => e = .returned (.string (bs (put (2 * q)))) ∧ Box4 w (.int .u64 (q : Int)) (.string (bs k)) (.string (bs v)) (.bool false) w' := fun W hW => by
    have := refput_nat (2 * q) W (by omega)
    rw [show ((2 * q : Nat) : Int) = 2 * (q : Int) from by omega] at this
    exact this.mono fun e w' ⟨he, hb⟩ => ⟨he, hW.call hb⟩
  have h2 : ∀ W, Box4 w (.int .u64 (q : Int)) (.string (bs k)) (.string (bs v)) (.bool false) W → Calls Tryz.prog 95 #[.string (bs k)] W fun e w' => e = .returned (.string (bs (txt k))) ∧ Box4 w (.int .u64 (q : Int)) (.string (bs k)) (.string (bs v)) (.bool false) w' := fun W hW =>
    (reftext_of k W (by omega)).mono fun e w' ⟨he, hb⟩ => ⟨he, hW.call hb⟩
  have h3 : ∀ W, Box4 w (.int .u64 (q : Int)) (.string (bs k)) (.string (bs v)) (.bool false) W → Calls Tryz.prog 95 #[.string (bs v)] W fun e w' => e = .returned (.string (bs (txt v))) ∧ Box4 w (.int .u64 (q : Int)) (.string (bs k)) (.string (bs v)) (.bool false) w' := fun W hW =>
    (reftext_of v W (by omega)).mono fun e w' ⟨he, hb⟩ => ⟨he, hW.call hb⟩
  have s1 : (bs (put (2 * q))).size ≤ 10 := by rw [bs_size]; exact put_ten (lt64 (by omega))
  have s2 : (bs (txt k)).size ≤ 50 := by rw [bs_size]; have := txt_len (s := k) (by omega); omega
  have s3 : (bs (txt v)).size ≤ 310 := by rw [bs_size]; have := txt_len (s := v) (by omega); omega
  rw [bs_app, bs_app]
  have K0 := Box.made w (.cells #[.int .u64 (q : Int), .string (bs k), .string (bs v), .bool false] 47)
  have wr1 := IntWalk.u64_in (2 * (q : Int)) ⟨by omega, by omega⟩
  generalize bs (put (2 * q)) = P1 at *
  generalize bs (txt k) = T1 at *
  generalize bs (txt v) = T2 at *
  have c1 : ¬ 9223372036854775807 < P1.size + T1.size := by omega
  have c2 : ¬ 9223372036854775807 < P1.size + T1.size + T2.size := by omega
  generalize bs k = K at *
  generalize bs v = V at *
  have HR := Lib.hid hr
  have K0 := Lib.hid K0
  have H1 := Lib.hid h1
  have H2 := Lib.hid h2
  have H3 := Lib.hid h3
  clear h1 h2 h3 hk hv hq hr
  go_enter Tryz.func99, Tryz.ntmps99
  go_wp2_with fail
  (with_reducible refine (HR.out _).mono ?_)
  rintro e w0 ⟨rfl, b0⟩
  have K1 : Box4 w _ _ _ _ w0 := K0.out.call b0
  clear b0 K0
  obtain ⟨K1, d0, d1, d2, d3⟩ := Box4.cells K1
  go_wp2_with fail
  go_region_held3 (fun W => Box4 w (.int .u64 (q : Int)) (.string K) (.string V) (.bool false) W ∧ W.cell? ⟨w.heap.size, 0, none⟩ = some (.int .u64 (q : Int)) ∧ W.cell? ⟨w.heap.size, 1, none⟩ = some (.string K) ∧ W.cell? ⟨w.heap.size, 2, none⟩ = some (.string V) ∧ W.cell? ⟨w.heap.size, 3, none⟩ = some (.bool false))
    (first | exact Box4.cells ‹_› | exact Box4.cells K1 | exact Box4.cells (Box.drew K1) | exact Box4.cells (Box.drew ‹_›))
    (first | (go_at_call 111; (with_reducible refine (H1.out _ ?_).mono ?_); (first | assumption | exact K1 | exact Box.drew K1 | exact Box.drew ‹_›); rintro e w2 ⟨rfl, k2⟩) | (go_at_call 95; (with_reducible refine (H2.out _ ?_).mono ?_); (first | assumption | exact K1 | exact Box.drew K1 | exact Box.drew ‹_›); rintro e w2 ⟨rfl, k2⟩) | (go_at_call 95; (with_reducible refine (H3.out _ ?_).mono ?_); (first | assumption | exact K1 | exact Box.drew K1 | exact Box.drew ‹_›); rintro e w2 ⟨rfl, k2⟩))
  go_wp2_with fail
  go_ret2
  exact ⟨rfl, Box.below ‹_›⟩

set_option maxRecDepth 100000 in
set_option maxHeartbeats 400000 in
theorem refbytes_no (r : Rc) (w : World) (hr : ∀ W, Calls Tryz.prog 131 #[rv r] W fun e w' => e = .returned (.bool false) ∧ Below W.heap.size W w') :
    Calls Tryz.prog 99 #[rv r] w fun e w' => e = .returned (.tuple #[.string ⟨#[]⟩, .int .i64 1]) ∧ Below w.heap.size w w' := by
  simp only [rv] at hr ⊢
  have HR := Lib.hid hr
  have K0 := Lib.hid (Box.made w (.cells #[.int .u64 ((r.q : Nat) : Int), .string (bs r.k), .string (bs r.v), .bool r.g] 47))
  clear hr
  go_enter Tryz.func99, Tryz.ntmps99
  go_wp2_with fail
  (with_reducible refine (HR.out _).mono ?_)
  rintro e w0 ⟨rfl, b0⟩
  have K1 := K0.out.call b0
  clear b0 K0
  go_wp2_with fail
  go_ret2
  exact ⟨rfl, K1.1⟩

/-- What the document's Bytes returns. -/
theorem refbytes_any (r : Rc) (w : World) (hq : r.q ≤ 18446744073709551615) (hK : r.k.length ≤ 9223372036854775807) (hV : r.v.length ≤ 9223372036854775807) :
    Calls Tryz.prog 99 #[rv r] w fun e w' => e = .returned (allV [r]) ∧ Below w.heap.size w w' := by
  have hr := fun W => refright_any r W hq hK hV
  cases hg : right r with
  | false =>
    rw [hg] at hr
    rw [allV_no (l := [r]) (by simp [rights, hg])]
    exact refbytes_no r w hr
  | true =>
    rw [hg] at hr
    rw [allV_yes (l := [r]) (by simp [rights, hg]), encs_cons, encs_nil, List.append_nil]
    obtain ⟨h1, h2, h3, h4, h5, h6⟩ := (right_iff r).1 hg
    obtain ⟨q, k, v, g⟩ := r
    cases g with
    | true => rw [enc_gone rfl]; exact refbytes_gone q k (bs v) w h2 h4 hr
    | false => rw [enc_here rfl]; exact refbytes_here q k v w h2 h4 h5 hr

end Go.Proofs.YtmekkbhblghbmaaGreatDoor

/- What the document's own Read of layer 3 returns: the same plain function. -/
namespace Go.Proofs.YtmekkbhblghbmaaGreatDoor
open Go.RowKit

theorem Box.other {w0 : World} {o : Obj} {W : World} (h : Box w0 o W) {p : Addr} (hp : w0.heap.size < p.block) (v : Value) : Box w0 o (W.setCell p v) :=
  ⟨h.1.setCell (by omega) v, by rw [World.size_setCell]; exact h.2.1, by rw [Below.heap_setCell _ _ _ _ (by omega)]; exact h.2.2⟩
theorem Box.set {w0 : World} {cs : Array Value} {t : TypeId} {W : World} (h : Box w0 (.cells cs t) W) (i : Nat) (v : Value) : Box w0 (.cells (cs.setIfInBounds i v) t) (W.setCell ⟨w0.heap.size, i, none⟩ v) :=
  ⟨h.1.setCell (p := ⟨w0.heap.size, i, none⟩) (Nat.le_refl _) v, by rw [World.size_setCell]; exact h.2.1, heap_setCell_same W w0.heap.size i cs t v h.2.2⟩

theorem reftake_of (b : ByteArray) (hb : b.size ≤ 9223372036854775807) (n : Nat) (s : List UInt8) (e : Nat) (h : tk b.data.toList = (n, s, e)) (w : World) :
    Calls Tryz.prog 105 #[.string b] w fun x w' => x = .returned (.tuple #[.int .u64 (n : Nat), .string (bs s), .int .i64 (e : Nat)]) ∧ Below w.heap.size w w' := by
  have := reftake_any b w hb
  rw [tkV, h] at this
  exact this

theorem refoftext_of (l : List UInt8) (hl : l.length ≤ 9223372036854775807) (k s : List UInt8) (e : Nat) (h : ot l = (k, s, e)) (w : World) :
    Calls Tryz.prog 106 #[.string (bs l)] w fun x w' => x = .returned (.tuple #[.string (bs k), .string (bs s), .int .i64 (e : Nat)]) ∧ Below w.heap.size w w' := by
  have := refoftext_any (bs l) w (by rw [bs_size]; exact hl)
  rw [bs_list, otV, h] at this
  exact this

set_option maxRecDepth 100000 in
set_option maxHeartbeats 1000000 in
theorem refread_any (b : ByteArray) (w : World) (hb : b.size ≤ 9223372036854775807) :
    Calls Tryz.prog 103 #[.string b] w fun e w' => e = .returned (rdV b.data.toList) ∧ Below w.heap.size w w' := by
  obtain ⟨n, r, er, htk⟩ : ∃ n r e, tk b.data.toList = (n, r, e) := ⟨_, _, _, rfl⟩
  have H := Lib.hid (reftake_of b hb n r er htk)
  have K0 := Lib.hid (Box.made w (.cells #[.int .u64 0, .string ⟨#[]⟩, .string ⟨#[]⟩, .bool false] 47))
  by_cases he : er = 0
  · subst he
    obtain ⟨hn, hrl⟩ := tk_rest_le _ htk
    rw [len_size] at hrl
    have hnm : n ≤ 18446744073709551615 := by unfold M64 at hn; omega
    obtain ⟨k, s, e2, ho⟩ : ∃ k s e, ot r = (k, s, e) := ⟨_, _, _, rfl⟩
    have H2 := Lib.hid (refoftext_of r (by omega) k s e2 ho)
    by_cases he2 : e2 = 0
    · subst he2
      obtain ⟨hsl, hkl⟩ := ot_rest_le ho
      by_cases hodd : n % 2 = 1
      · have f := pt_fits (pt_gone htk ho hodd) (by rw [len_size]; exact hb)
        have h3 := fun W => refright_any ⟨n / 2, k, [], true⟩ W f.1 f.2.1 f.2.2
        cases hg : right ⟨n / 2, k, [], true⟩ with
        | true =>
          have e : rdV b.data.toList = .tuple #[.agg #[.int .u64 ((n : Int) / 2), .string (bs k), .string ⟨#[]⟩, .bool true], .string (bs s), .int .i64 0] := by rw [rdV, rd_yes (pt_gone htk ho hodd) hg]; rfl
          rw [e]
          rw [hg] at h3
          simp only [rv] at h3
          rw [show bs ([] : List UInt8) = ⟨#[]⟩ from rfl] at h3
          simp only [show (((n / 2 : Nat) : Nat) : Int) = (n : Int) / 2 from by omega] at h3
          have H3 := Lib.hid h3
          have hpar : ((n : Int) % 2 == 1) = true := by rw [beq_iff_eq]; omega
          clear e htk ho hn hrl hsl hkl hodd h3 f hg
          generalize bs r = R at *
          generalize bs k = K at *
          generalize bs s = S at *
          go_enter Tryz.func103, Tryz.ntmps103
          go_wp2_with fail
          (with_reducible refine (H.out _).mono ?_)
          rintro e w1 ⟨rfl, b1⟩
          have K1 := Lib.hid (K0.out.call b1)
          clear b1 K0
          have M1 := Lib.hid (Box.made w1 (.cells #[.int .u64 ((n : Int) / 2), .string ⟨#[]⟩, .string ⟨#[]⟩, .bool true] 47))
          have hz1 : w.heap.size < w1.heap.size := K1.out.2.1
          go_wp2_with fail
          (with_reducible refine (H2.out _).mono ?_)
          rintro e w2 ⟨rfl, b2⟩
          have K2 := Lib.hid ((K1.out.alloc _).call b2)
          have M2 := Lib.hid (M1.out.call b2)
          clear b2 K1 M1
          obtain ⟨_, c0, c1, c2, c3⟩ := Box4.cells (show Box4 w1 _ _ _ _ w2 from M2.out)
          obtain ⟨s0, s1, s2, s3⟩ := Box4.soft (show Box4 w1 _ _ _ _ w2 from M2.out)
          have K3 := Lib.hid (K2.out.other (p := ⟨w1.heap.size, 1, none⟩) hz1 (.string K))
          have M3 := Lib.hid (M2.out.set 1 (.string K))
          go_wp2_with fail
          (with_reducible refine (H3.out _).mono ?_)
          rintro e w4 ⟨rfl, b4⟩
          clear c0 c1 c2 c3 s0 s1 s2 s3
          have KZ : Box4 w _ _ _ _ w4 := K3.out.call b4
          have MZ : Box4 w1 _ _ _ _ w4 := M3.out.call b4
          clear b4
          obtain ⟨_, c0, c1, c2, c3⟩ := Box4.cells MZ
          obtain ⟨_, d0, d1, d2, d3⟩ := Box4.cells KZ
          obtain ⟨g0, g1, g2, g3⟩ := Box4.soft KZ
          go_wp2_with fail
          exact bodyPost_ret (v := .tuple #[.agg #[.int .u64 ((n : Int) / 2), .string (K), .string ⟨#[]⟩, .bool true], .string S, .int .i64 0]) (by simp [results, Tryz.results103, go_sem, d0, d1, d2, d3]) rfl ⟨rfl, below_set4 KZ.1 _ _ _ _⟩
        | false =>
          have e : rdV b.data.toList = .tuple #[.agg #[.int .u64 0, .string ⟨#[]⟩, .string ⟨#[]⟩, .bool false], .string ⟨#[]⟩, .int .i64 2] := by rw [rdV, rd_no (pt_gone htk ho hodd) hg]; rfl
          rw [e]
          rw [hg] at h3
          simp only [rv] at h3
          rw [show bs ([] : List UInt8) = ⟨#[]⟩ from rfl] at h3
          simp only [show (((n / 2 : Nat) : Nat) : Int) = (n : Int) / 2 from by omega] at h3
          have H3 := Lib.hid h3
          have hpar : ((n : Int) % 2 == 1) = true := by rw [beq_iff_eq]; omega
          clear e htk ho hn hrl hsl hkl hodd h3 f hg
          generalize bs r = R at *
          generalize bs k = K at *
          generalize bs s = S at *
          go_enter Tryz.func103, Tryz.ntmps103
          go_wp2_with fail
          (with_reducible refine (H.out _).mono ?_)
          rintro e w1 ⟨rfl, b1⟩
          have K1 := Lib.hid (K0.out.call b1)
          clear b1 K0
          have M1 := Lib.hid (Box.made w1 (.cells #[.int .u64 ((n : Int) / 2), .string ⟨#[]⟩, .string ⟨#[]⟩, .bool true] 47))
          have hz1 : w.heap.size < w1.heap.size := K1.out.2.1
          go_wp2_with fail
          (with_reducible refine (H2.out _).mono ?_)
          rintro e w2 ⟨rfl, b2⟩
          have K2 := Lib.hid ((K1.out.alloc _).call b2)
          have M2 := Lib.hid (M1.out.call b2)
          clear b2 K1 M1
          obtain ⟨_, c0, c1, c2, c3⟩ := Box4.cells (show Box4 w1 _ _ _ _ w2 from M2.out)
          obtain ⟨s0, s1, s2, s3⟩ := Box4.soft (show Box4 w1 _ _ _ _ w2 from M2.out)
          have K3 := Lib.hid (K2.out.other (p := ⟨w1.heap.size, 1, none⟩) hz1 (.string K))
          have M3 := Lib.hid (M2.out.set 1 (.string K))
          go_wp2_with fail
          (with_reducible refine (H3.out _).mono ?_)
          rintro e w4 ⟨rfl, b4⟩
          clear c0 c1 c2 c3 s0 s1 s2 s3
          have KZ : Box4 w _ _ _ _ w4 := K3.out.call b4
          have MZ : Box4 w1 _ _ _ _ w4 := M3.out.call b4
          clear b4
          obtain ⟨_, c0, c1, c2, c3⟩ := Box4.cells MZ
          obtain ⟨_, d0, d1, d2, d3⟩ := Box4.cells KZ
          obtain ⟨g0, g1, g2, g3⟩ := Box4.soft KZ
          go_wp2_with fail
          exact bodyPost_ret (v := .tuple #[.agg #[.int .u64 0, .string ⟨#[]⟩, .string ⟨#[]⟩, .bool false], .string ⟨#[]⟩, .int .i64 2]) (by simp [results, Tryz.results103, go_sem, d0, d1, d2, d3]) rfl ⟨rfl, below_set4 KZ.1 _ _ _ _⟩
      · obtain ⟨v, u, e3, hv⟩ : ∃ k x e, ot s = (k, x, e) := ⟨_, _, _, rfl⟩
        have H4 := Lib.hid (refoftext_of s (by omega) v u e3 hv)
        have hpar : ((n : Int) % 2 == 1) = false := by rw [beq_eq_false_iff_ne]; omega
        by_cases he3 : e3 = 0
        · subst he3
          have f := pt_fits (pt_here htk ho hodd hv) (by rw [len_size]; exact hb)
          have h3 := fun W => refright_any ⟨n / 2, k, v, false⟩ W f.1 f.2.1 f.2.2
          cases hg : right ⟨n / 2, k, v, false⟩ with
          | true =>
            have e : rdV b.data.toList = .tuple #[.agg #[.int .u64 ((n : Int) / 2), .string (bs k), .string (bs v), .bool false], .string (bs u), .int .i64 0] := by rw [rdV, rd_yes (pt_here htk ho hodd hv) hg]; rfl
            rw [e]
            rw [hg] at h3
            simp only [rv] at h3
            simp only [show (((n / 2 : Nat) : Nat) : Int) = (n : Int) / 2 from by omega] at h3
            have H3 := Lib.hid h3
            clear e htk ho hn hrl hsl hkl hodd hv h3 f hg
            generalize bs r = R at *
            generalize bs k = K at *
            generalize bs s = S at *
            generalize bs v = V at *
            generalize bs u = U at *
            go_enter Tryz.func103, Tryz.ntmps103
            go_wp2_with fail
            (with_reducible refine (H.out _).mono ?_)
            rintro e w1 ⟨rfl, b1⟩
            have K1 := Lib.hid (K0.out.call b1)
            clear b1 K0
            have M1 := Lib.hid (Box.made w1 (.cells #[.int .u64 ((n : Int) / 2), .string ⟨#[]⟩, .string ⟨#[]⟩, .bool false] 47))
            have hz1 : w.heap.size < w1.heap.size := K1.out.2.1
            go_wp2_with fail
            (with_reducible refine (H2.out _).mono ?_)
            rintro e w2 ⟨rfl, b2⟩
            have K2 := Lib.hid ((K1.out.alloc _).call b2)
            have M2 := Lib.hid (M1.out.call b2)
            clear b2 K1 M1
            obtain ⟨_, c0, c1, c2, c3⟩ := Box4.cells (show Box4 w1 _ _ _ _ w2 from M2.out)
            obtain ⟨s0, s1, s2, s3⟩ := Box4.soft (show Box4 w1 _ _ _ _ w2 from M2.out)
            have K3 := Lib.hid (K2.out.other (p := ⟨w1.heap.size, 1, none⟩) hz1 (.string K))
            have M3 := Lib.hid (M2.out.set 1 (.string K))
            go_wp2_with fail
            (with_reducible refine (H4.out _).mono ?_)
            rintro e w3 ⟨rfl, b3⟩
            clear c0 c1 c2 c3 s0 s1 s2 s3
            have K4 := Lib.hid (K3.out.call b3)
            have M4 := Lib.hid (M3.out.call b3)
            clear b3 K3 M3
            obtain ⟨_, c0, c1, c2, c3⟩ := Box4.cells (show Box4 w1 _ _ _ _ w3 from M4.out)
            obtain ⟨s0, s1, s2, s3⟩ := Box4.soft (show Box4 w1 _ _ _ _ w3 from M4.out)
            have K5 := Lib.hid (K4.out.other (p := ⟨w1.heap.size, 2, none⟩) hz1 (.string V))
            have M5 := Lib.hid (M4.out.set 2 (.string V))
            go_wp2_with fail
            (with_reducible refine (H3.out _).mono ?_)
            rintro e w4 ⟨rfl, b4⟩
            clear c0 c1 c2 c3 s0 s1 s2 s3
            have KZ : Box4 w _ _ _ _ w4 := K5.out.call b4
            have MZ : Box4 w1 _ _ _ _ w4 := M5.out.call b4
            clear b4
            obtain ⟨_, c0, c1, c2, c3⟩ := Box4.cells MZ
            obtain ⟨_, d0, d1, d2, d3⟩ := Box4.cells KZ
            obtain ⟨g0, g1, g2, g3⟩ := Box4.soft KZ
            go_wp2_with fail
            exact bodyPost_ret (v := .tuple #[.agg #[.int .u64 ((n : Int) / 2), .string (K), .string (V), .bool false], .string U, .int .i64 0]) (by simp [results, Tryz.results103, go_sem, d0, d1, d2, d3]) rfl ⟨rfl, below_set4 KZ.1 _ _ _ _⟩
          | false =>
            have e : rdV b.data.toList = .tuple #[.agg #[.int .u64 0, .string ⟨#[]⟩, .string ⟨#[]⟩, .bool false], .string ⟨#[]⟩, .int .i64 2] := by rw [rdV, rd_no (pt_here htk ho hodd hv) hg]; rfl
            rw [e]
            rw [hg] at h3
            simp only [rv] at h3
            simp only [show (((n / 2 : Nat) : Nat) : Int) = (n : Int) / 2 from by omega] at h3
            have H3 := Lib.hid h3
            clear e htk ho hn hrl hsl hkl hodd hv h3 f hg
            generalize bs r = R at *
            generalize bs k = K at *
            generalize bs s = S at *
            generalize bs v = V at *
            generalize bs u = U at *
            go_enter Tryz.func103, Tryz.ntmps103
            go_wp2_with fail
            (with_reducible refine (H.out _).mono ?_)
            rintro e w1 ⟨rfl, b1⟩
            have K1 := Lib.hid (K0.out.call b1)
            clear b1 K0
            have M1 := Lib.hid (Box.made w1 (.cells #[.int .u64 ((n : Int) / 2), .string ⟨#[]⟩, .string ⟨#[]⟩, .bool false] 47))
            have hz1 : w.heap.size < w1.heap.size := K1.out.2.1
            go_wp2_with fail
            (with_reducible refine (H2.out _).mono ?_)
            rintro e w2 ⟨rfl, b2⟩
            have K2 := Lib.hid ((K1.out.alloc _).call b2)
            have M2 := Lib.hid (M1.out.call b2)
            clear b2 K1 M1
            obtain ⟨_, c0, c1, c2, c3⟩ := Box4.cells (show Box4 w1 _ _ _ _ w2 from M2.out)
            obtain ⟨s0, s1, s2, s3⟩ := Box4.soft (show Box4 w1 _ _ _ _ w2 from M2.out)
            have K3 := Lib.hid (K2.out.other (p := ⟨w1.heap.size, 1, none⟩) hz1 (.string K))
            have M3 := Lib.hid (M2.out.set 1 (.string K))
            go_wp2_with fail
            (with_reducible refine (H4.out _).mono ?_)
            rintro e w3 ⟨rfl, b3⟩
            clear c0 c1 c2 c3 s0 s1 s2 s3
            have K4 := Lib.hid (K3.out.call b3)
            have M4 := Lib.hid (M3.out.call b3)
            clear b3 K3 M3
            obtain ⟨_, c0, c1, c2, c3⟩ := Box4.cells (show Box4 w1 _ _ _ _ w3 from M4.out)
            obtain ⟨s0, s1, s2, s3⟩ := Box4.soft (show Box4 w1 _ _ _ _ w3 from M4.out)
            have K5 := Lib.hid (K4.out.other (p := ⟨w1.heap.size, 2, none⟩) hz1 (.string V))
            have M5 := Lib.hid (M4.out.set 2 (.string V))
            go_wp2_with fail
            (with_reducible refine (H3.out _).mono ?_)
            rintro e w4 ⟨rfl, b4⟩
            clear c0 c1 c2 c3 s0 s1 s2 s3
            have KZ : Box4 w _ _ _ _ w4 := K5.out.call b4
            have MZ : Box4 w1 _ _ _ _ w4 := M5.out.call b4
            clear b4
            obtain ⟨_, c0, c1, c2, c3⟩ := Box4.cells MZ
            obtain ⟨_, d0, d1, d2, d3⟩ := Box4.cells KZ
            obtain ⟨g0, g1, g2, g3⟩ := Box4.soft KZ
            go_wp2_with fail
            exact bodyPost_ret (v := .tuple #[.agg #[.int .u64 0, .string ⟨#[]⟩, .string ⟨#[]⟩, .bool false], .string ⟨#[]⟩, .int .i64 2]) (by simp [results, Tryz.results103, go_sem, d0, d1, d2, d3]) rfl ⟨rfl, below_set4 KZ.1 _ _ _ _⟩
        · have e : rdV b.data.toList = .tuple #[.agg #[.int .u64 0, .string ⟨#[]⟩, .string ⟨#[]⟩, .bool false], .string ⟨#[]⟩, .int .i64 (e3 : Nat)] := by rw [rdV, rd_err (pt_here htk ho hodd hv) he3]; rfl
          rw [e]
          have hne : ((e3 : Int) != 0) = true := by rw [bne_iff_ne]; omega
          clear e htk ho hn hrl hsl hkl hodd hv
          generalize bs r = R at *
          generalize bs k = K at *
          generalize bs s = S at *
          generalize bs v = V at *
          generalize bs u = U at *
          go_enter Tryz.func103, Tryz.ntmps103
          go_wp2_with fail
          (with_reducible refine (H.out _).mono ?_)
          rintro e w1 ⟨rfl, b1⟩
          have K1 := Lib.hid (K0.out.call b1)
          clear b1 K0
          have M1 := Lib.hid (Box.made w1 (.cells #[.int .u64 ((n : Int) / 2), .string ⟨#[]⟩, .string ⟨#[]⟩, .bool false] 47))
          have hz1 : w.heap.size < w1.heap.size := K1.out.2.1
          go_wp2_with fail
          (with_reducible refine (H2.out _).mono ?_)
          rintro e w2 ⟨rfl, b2⟩
          have K2 := Lib.hid ((K1.out.alloc _).call b2)
          have M2 := Lib.hid (M1.out.call b2)
          clear b2 K1 M1
          obtain ⟨_, c0, c1, c2, c3⟩ := Box4.cells (show Box4 w1 _ _ _ _ w2 from M2.out)
          obtain ⟨s0, s1, s2, s3⟩ := Box4.soft (show Box4 w1 _ _ _ _ w2 from M2.out)
          have K3 := Lib.hid (K2.out.other (p := ⟨w1.heap.size, 1, none⟩) hz1 (.string K))
          have M3 := Lib.hid (M2.out.set 1 (.string K))
          go_wp2_with fail
          (with_reducible refine (H4.out _).mono ?_)
          rintro e w3 ⟨rfl, b3⟩
          clear c0 c1 c2 c3 s0 s1 s2 s3
          have K4 := Lib.hid (K3.out.call b3)
          have M4 := Lib.hid (M3.out.call b3)
          clear b3 K3 M3
          have KZ : Box4 w _ _ _ _ w3 := K4.out
          obtain ⟨_, d0, d1, d2, d3⟩ := Box4.cells KZ
          obtain ⟨g0, g1, g2, g3⟩ := Box4.soft KZ
          go_wp2_with fail
          exact bodyPost_ret (v := .tuple #[.agg #[.int .u64 0, .string ⟨#[]⟩, .string ⟨#[]⟩, .bool false], .string ⟨#[]⟩, .int .i64 (e3 : Nat)]) (by simp [results, Tryz.results103, go_sem, d0, d1, d2, d3]) rfl ⟨rfl, below_set4 KZ.1 _ _ _ _⟩
    · have e : rdV b.data.toList = .tuple #[.agg #[.int .u64 0, .string ⟨#[]⟩, .string ⟨#[]⟩, .bool false], .string ⟨#[]⟩, .int .i64 (e2 : Nat)] := by rw [rdV, rd_err (pt_key htk ho he2) he2]; rfl
      rw [e]
      have hne : ((e2 : Int) != 0) = true := by rw [bne_iff_ne]; omega
      have hpar : ∃ g, ((n : Int) % 2 == 1) = g := ⟨_, rfl⟩
      obtain ⟨g, hpar⟩ := hpar
      clear e htk ho hn hrl
      go_enter Tryz.func103, Tryz.ntmps103
      go_wp2_with fail
      (with_reducible refine (H.out _).mono ?_)
      rintro e w1 ⟨rfl, b1⟩
      have K1 := Lib.hid (K0.out.call b1)
      clear b1 K0
      have M1 := Lib.hid (Box.made w1 (.cells #[.int .u64 ((n : Int) / 2), .string ⟨#[]⟩, .string ⟨#[]⟩, .bool g] 47))
      have hz1 : w.heap.size < w1.heap.size := K1.out.2.1
      go_wp2_with fail
      (with_reducible refine (H2.out _).mono ?_)
      rintro e w2 ⟨rfl, b2⟩
      have K2 := Lib.hid ((K1.out.alloc _).call b2)
      have M2 := Lib.hid (M1.out.call b2)
      clear b2 K1 M1
      have KZ : Box4 w _ _ _ _ w2 := K2.out
      obtain ⟨_, d0, d1, d2, d3⟩ := Box4.cells KZ
      obtain ⟨g0, g1, g2, g3⟩ := Box4.soft KZ
      go_wp2_with fail
      exact bodyPost_ret (v := .tuple #[.agg #[.int .u64 0, .string ⟨#[]⟩, .string ⟨#[]⟩, .bool false], .string ⟨#[]⟩, .int .i64 (e2 : Nat)]) (by simp [results, Tryz.results103, go_sem, d0, d1, d2, d3]) rfl ⟨rfl, below_set4 KZ.1 _ _ _ _⟩
  · have e : rdV b.data.toList = .tuple #[.agg #[.int .u64 0, .string ⟨#[]⟩, .string ⟨#[]⟩, .bool false], .string ⟨#[]⟩, .int .i64 (er : Nat)] := by rw [rdV, rd_err (pt_num htk he) he]; rfl
    rw [e]
    have hne : ((er : Int) != 0) = true := by rw [bne_iff_ne]; omega
    clear e htk
    go_enter Tryz.func103, Tryz.ntmps103
    go_wp2_with fail
    (with_reducible refine (H.out _).mono ?_)
    rintro e w1 ⟨rfl, b1⟩
    have K1 := Lib.hid (K0.out.call b1)
    clear b1 K0
    have KZ : Box4 w _ _ _ _ w1 := K1.out
    obtain ⟨_, d0, d1, d2, d3⟩ := Box4.cells KZ
    obtain ⟨g0, g1, g2, g3⟩ := Box4.soft KZ
    go_wp2_with fail
    exact bodyPost_ret (v := .tuple #[.agg #[.int .u64 0, .string ⟨#[]⟩, .string ⟨#[]⟩, .bool false], .string ⟨#[]⟩, .int .i64 (er : Nat)]) (by simp [results, Tryz.results103, go_sem, d0, d1, d2, d3]) rfl ⟨rfl, below_set4 KZ.1 _ _ _ _⟩

end Go.Proofs.YtmekkbhblghbmaaGreatDoor

/- What the document's own All and List of layer 3 return. -/
namespace Go.Proofs.YtmekkbhblghbmaaGreatDoor
open Go.RowKit

theorem one_yes {r : Rc} (h : right r = true) : allV [r] = .tuple #[.string (bs (enc r)), .int .i64 0] := by
  rw [allV_yes (by simp [rights, h]), encs_cons, encs_nil, List.append_nil]
theorem one_no {r : Rc} (h : right r = false) : allV [r] = .tuple #[.string ⟨#[]⟩, .int .i64 1] := allV_no (by simp [rights, h])

set_option maxRecDepth 100000 in
set_option maxHeartbeats 400000 in
theorem refall_any (l : List Rc) (a : Option Addr) (cap : Nat) (w : World) (hl : l.length ≤ 1000) (hr : Recs w a l) (hf : Fits l) :
    Calls Tryz.prog 94 #[.slice a l.length cap] w fun e w' => e = .returned (allV l) ∧ Below w.heap.size w w' := by
  have HR := Lib.hid hr
  have HF := Lib.hid hf
  clear hr hf
  go_enter Tryz.func94, Tryz.ntmps94
  go_wp2_with fail
  go_loopw [4, 5] (fun s i wr => ∃ k : Nat, k ≤ l.length ∧ i = .int .i64 k ∧ s = .string (bs (encs (l.take k))) ∧ rights (l.take k) = true ∧ Below w.heap.size w wr) (fun _ i _ => l.length - (intOf i).toNat)
  case atStart => exact ⟨0, by omega, rfl, rfl, rfl, Below.refl _ _⟩
  case round =>
    obtain ⟨k, hk, rfl, rfl, hg, hb⟩ := hrel
    have hel := encs_len _ hg
    have htl : (l.take k).length ≤ k := List.length_take_le _ _
    have hacc : (encs (l.take k)).length ≤ 370000 := by omega
    clear hel htl
    by_cases hlt : k < l.length
    · obtain ⟨b, off, rfl, hbl, c0, c1, c2, c3⟩ := cells_of HR.out k hlt
      obtain ⟨f0, f1, f2⟩ := HF.out l[k] (List.getElem_mem hlt)
      rw [← hb.cell (p := ⟨b, _, none⟩) hbl] at c0 c1 c2 c3
      have h1 := fun W => refbytes_any l[k] W f0 f1 f2
      simp only [rv] at h1
      have HT := Lib.hid (take_next l k hlt)
      have HG := Lib.hid (rights_next hlt hg)
      have HN := Lib.hid (rights_not (l := l) hlt)
      clear f0 f1 f2 hg
      have hbz := hb.size
      generalize l[k] = r at *
      have hen : right r = true → (enc r).length ≤ 370 := fun h => (enc_len h).2
      have zz : (bs (encs (l.take k))).size ≤ 370000 := by rw [bs_size]; exact hacc
      cases hg : right r with
      | false =>
        rw [one_no hg] at h1
        have H1 := Lib.hid h1
        have HE := Lib.hid (allV_no (HN.out hg))
        clear h1 hen hg
        generalize ((r.q : Nat) : Int) = Q at *
        generalize bs r.k = K at *
        generalize bs r.v = V at *
        generalize r.g = G at *
        generalize bs (encs (l.take k)) = X at *
        go_wp2_with fail
        (with_reducible refine (H1.out _).mono ?_)
        rintro e w1 ⟨rfl, b1⟩
        go_wp2_with fail
        go_ret2
        exact ⟨HE.out.symm ▸ rfl, hb.trans (b1.mono hbz)⟩
      | true =>
        rw [one_yes hg] at h1
        have zr : (bs (enc r)).size ≤ 370 := by rw [bs_size]; exact hen hg
        have HS := Lib.hid (HG.out hg)
        have H1 := Lib.hid h1
        have HA : Hid (bs (encs (l.take (k + 1))) = bs (encs (l.take k)) ++ bs (enc r)) := Lib.hid (by rw [HT.out, encs_snoc, bs_app])
        clear h1 hen hg
        generalize ((r.q : Nat) : Int) = Q at *
        generalize bs r.k = K at *
        generalize bs r.v = V at *
        generalize r.g = G at *
        generalize bs (enc r) = Y at *
        generalize hX : bs (encs (l.take k)) = X at *
        have c1 : ¬ 9223372036854775807 < X.size + Y.size := by omega
        clear hX
        go_wp2_with fail
        (with_reducible refine (H1.out _).mono ?_)
        rintro e w1 ⟨rfl, b1⟩
        go_wp2_with fail
        go_roundw
        case rel => exact ⟨k + 1, by omega, by go_num, by rw [HA.out], HS.out, hb.trans (b1.mono hbz)⟩
        case measure => simp [intOf]; omega
    · have e : k = l.length := by omega
      subst e
      rw [List.take_length] at hg hacc ⊢
      have HE := Lib.hid (allV_yes hg)
      clear hg
      go_wp2_with fail
      go_ret2
      exact ⟨HE.out.symm ▸ rfl, hb⟩

theorem refread_of (x : List UInt8) (hx : x.length ≤ 9223372036854775807) (r : Rc) (s : List UInt8) (e : Nat) (h : rd x = (r, s, e)) (w : World) :
    Calls Tryz.prog 103 #[.string (bs x)] w fun y w' => y = .returned (.tuple #[.agg #[.int .u64 ((r.q : Nat) : Int), .string (bs r.k), .string (bs r.v), .bool r.g], .string (bs s), .int .i64 (e : Nat)]) ∧ Below w.heap.size w w' := by
  have := refread_any (bs x) w (by rw [bs_size]; exact hx)
  rw [bs_list, rdV, h] at this
  exact this

set_option maxRecDepth 100000 in
set_option maxHeartbeats 1000000 in
theorem reflist_any (b : List UInt8) (w : World) (hb : b.length ≤ 2000000) :
    Calls Tryz.prog 155 #[.string (bs b)] w (LsPost w (rds b)) := by
  obtain ⟨i0, hi, hz0, hz1, hz2⟩ := info_parts infoRec
  have HI := Lib.hid (And.intro hi (And.intro hz0 (And.intro hz1 hz2)))
  clear hi hz0 hz1 hz2
  obtain ⟨X, hX⟩ : ∃ X, X = bs b := ⟨_, rfl⟩
  rw [← hX]
  have HX := Lib.hid hX
  clear hX
  go_enter Tryz.func155, Tryz.ntmps155
  go_wp2_with fail
  go_loopw [0, 4] (fun s v wr => ∃ (x : List UInt8) (acc : List Rc) (n : Nat), s = .string (bs x) ∧ x.length < n ∧ acc.length + x.length ≤ b.length ∧ rdsF n x acc = rds b ∧ wr.ownsRow w.heap.size 47 4 v acc.length (flat acc) ∧ Below w.heap.size w wr) (fun s _ _ => strLen s)
  case atStart => exact ⟨b, [], b.length + 1, by rw [HX.out], by omega, by simp, rfl, World.ownsRow_nil _ _ _ _, Below.refl _ _⟩
  case round =>
    obtain ⟨x, acc, n, rfl, hn, hl, hr, hown, hbw⟩ := hrel
    obtain ⟨m, rfl⟩ : ∃ m, n = m + 1 := ⟨n - 1, by omega⟩
    have HR := Lib.hid hr
    have HO := Lib.hid hown
    clear hr hown
    by_cases hx : x = []
    · subst hx
      have HE : Hid (rds b = (acc, 0)) := Lib.hid (by rw [← HR.out, rdsF_nil])
      rw [show bs ([] : List UInt8) = ⟨#[]⟩ from rfl]
      obtain ⟨a, cap, rfl, hrec⟩ := owns_recs HO.out
      have HC := Lib.hid hrec
      clear hrec
      go_wp2_with fail
      go_ret2
      exact ⟨a, cap, by rw [HE.out]; rfl, by rw [HE.out]; exact HC.out, hbw⟩
    · have hpos : 0 < (bs x).size := by rw [bs_size]; exact List.length_pos_iff.2 hx
      have hsz : (bs x).size ≤ 9223372036854775807 := by rw [bs_size]; omega
      obtain ⟨r, s, e, hrd⟩ : ∃ r s e, rd x = (r, s, e) := ⟨_, _, _, rfl⟩
      have H1 := Lib.hid (refread_of x (by omega) r s e hrd)
      by_cases he : e = 0
      · subst he
        have hlt : s.length < x.length ∧ 0 < x.length := by
          obtain ⟨hg, hxe⟩ := rd_ok hrd
          have := enc_len hg
          rw [hxe, List.length_append]
          omega
        have HN : Hid (rdsF m s (acc ++ [r]) = rds b) := Lib.hid (by rw [← HR.out, rdsF_next hx hrd])
        have HL : Hid (strLen (.string (bs s)) < strLen (.string (bs x))) := Lib.hid (by show (bs s).size < (bs x).size; rw [bs_size, bs_size]; omega)
        clear hrd hx
        have HSn := Lib.hid (flat_snoc acc r)
        generalize ((r.q : Nat) : Int) = Q at *
        generalize bs r.k = K at *
        generalize bs r.v = V at *
        generalize r.g = G at *
        generalize bs x = X1 at *
        generalize hSS : bs s = S1 at *
        have HSS := Lib.hid hSS
        clear hSS
        go_wp2_with fail
        (with_reducible refine (H1.out _).mono ?_)
        rintro e w1 ⟨rfl, b1⟩
        have hbz := hbw.size
        have hb1z := b1.size
        have O1 := Lib.hid ((owns_later HO.out b1).alloc (.cells #[.int .u64 Q, .string K, .string V, .bool G] 47))
        have B1 : Hid (Below w.heap.size w (w1.alloc (.cells #[.int .u64 Q, .string K, .string V, .bool G] 47))) := Lib.hid ((hbw.trans (b1.mono hbz)).alloc (by omega) _)
        clear b1 HO hbw
        go_wp2_with (at_builtin; refine wpList_append_own _ rfl _ _ 31 rfl w.heap.size 47 i0 (.agg #[.int .u64 0, .string ⟨#[]⟩, .string ⟨#[]⟩, .bool false]) 4 48 Tryz.underlying31 HI.out.1 HI.out.2.1 HI.out.2.2.1 HI.out.2.2.2 rfl (by decide) _ _ _ rfl (O1.out.alloc _) ⟨w1.heap.size + 1, 0, none⟩ 1 1 [.int .u64 Q, .string K, .string V, .bool G] rfl rfl ?c1 (fun x hx => by simp at hx; rcases hx with rfl | rfl | rfl | rfl <;> rfl) (by unfold maxLen; omega) (by omega) (by simp; omega) ?_)
        case c1 =>
          have := cell_four_new (w1.alloc (.cells #[.int .u64 Q, .string K, .string V, .bool G] 47)) (.int .u64 Q) (.string K) (.string V) (.bool G) 47
          rwa [World.size_alloc] at this
        intro v' w3 hown' hgrow _
        have B3 : Hid (Below w.heap.size w w3) := Lib.hid (Below.grown (B1.out.alloc (by simp; omega) _) hgrow (by simp; omega) (fun j hj => (O1.out.lt _ hj).1))
        have O3 := Lib.hid hown'
        clear hown' hgrow
        go_wp2_with fail
        go_roundw
        case rel => exact ⟨s, acc ++ [r], m, by rw [HSS.out], by omega, by simp; omega, HN.out, by rw [HSn.out, List.length_append]; exact O3.out, B3.out⟩
        case measure => exact HL.out
      · have HE : Hid (rds b = ([], e)) := Lib.hid (by rw [← HR.out, rdsF_err hx hrd he])
        have hb0 : ((e : Int) != 0) = true := by rw [bne_iff_ne]; omega
        clear hrd hx
        generalize ((r.q : Nat) : Int) = Q at *
        generalize bs r.k = K at *
        generalize bs r.v = V at *
        generalize r.g = G at *
        generalize bs x = X1 at *
        generalize bs s = S1 at *
        go_wp2_with fail
        (with_reducible refine (H1.out _).mono ?_)
        rintro e w1 ⟨rfl, b1⟩
        go_wp2_with fail
        go_ret2
        exact ⟨none, 0, by rw [HE.out]; rfl, by rw [HE.out]; exact ⟨fun h => by simp at h, Tag.none _⟩, ((hbw.trans (b1.mono hbw.size)).alloc (Nat.le_trans hbw.size b1.size) _)⟩

end Go.Proofs.YtmekkbhblghbmaaGreatDoor

/- What the call Bytes of package record returns. -/
namespace Go.Proofs.YtmekkbhblghbmaaGreatDoor
open Go.RowKit

set_option maxRecDepth 100000 in
set_option maxHeartbeats 400000 in
theorem bytes_any (r : Rc) (w : World) (hq : r.q ≤ 18446744073709551615) (hK : r.k.length ≤ 9223372036854775807) (hV : r.v.length ≤ 9223372036854775807) :
    Calls Tryz.prog 92 #[rv r] w fun e w' => e = .returned (allV [r]) ∧ Below w.heap.size w w' := by
  have h := fun (W : World) (a : Option Addr) cap (hr : Recs W a [r]) => all_any [r] a cap W (by simp) hr (Fits.one hq hK hV)
  simp only [rv, List.length_singleton] at h ⊢
  obtain ⟨x, y, hx⟩ : ∃ x y, allV [r] = .tuple #[.string x, .int .i64 y] := by
    unfold allV
    split
    · exact ⟨_, _, rfl⟩
    · exact ⟨_, _, rfl⟩
  rw [hx] at h ⊢
  have H := Lib.hid h
  clear h hx
  go_enter Tryz.func92, Tryz.ntmps92
  go_wp2_with fail
  (with_reducible refine (H.out _ _ _ ?_).mono ?_)
  · intro _
    refine ⟨w.heap.size + 1, 0, rfl, by simp, fun i hi => ?_⟩
    obtain rfl : i = 0 := by simp at hi; omega
    simp [go_sem]
  rintro e w1 ⟨rfl, b1⟩
  go_wp2_with fail
  go_ret2
  exact ⟨rfl, ((((Below.refl _ _).alloc (Nat.le_refl _) _).alloc (by simp) _)).trans (b1.mono (by simp; omega))⟩

end Go.Proofs.YtmekkbhblghbmaaGreatDoor
