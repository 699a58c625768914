/- Merged out of 12 texts, in build order: Dlays, Dmath, Drows, Drep, Ddisk, Dput, Ddrop, Dapp, Dcalls, Dcalls2, Dcalls3, Dcrash. -/
import Derived.Shelf.Slices.Clone
import Derived.Shelf.Slices.Cells
import Derived.Shelf.Slices.Empties
import Derived.Shelf.Spec.SearchS
import Derived.Shelf.Spec.SlicesInsert
import Derived.Shelf.Spec.SlicesInsertGrow
import Derived.Test.YtmekkbhblghbmaaGreatDoorRows
import Derived.Test.YtmekkbhblghbmaaGreatDoorBord
import Derived.Test.YtmekkbhblghbmaaGreatDoorBmem
import Derived.Test.YtmekkbhblghbmaaGreatDoorDbits
import Derived.Maps.OwnSet
import Derived.StillTailTactics
import Derived.RegionTactic
import Derived.ChangeAlike
import Derived.Deep.Upon
import Derived.Deep.LoopGhost

/- What the calls of package slices do that a disk makes: Clone, BinarySearch, Insert and Delete, on rows of names. -/
namespace Go.Proofs.YtmekkbhblghbmaaGreatDoor.D
set_option maxRecDepth 100000
open Go.Shelf
def laysClone_ren : Go.Shelf.Ren := ⟨fun | 16 => 81 | n => n, fun | 24 => 66 | 9 => 9 | 4 => 4 | n => n, fun | n => n⟩
theorem laysClone : Go.Proofs.Lays2.n16 Tryz.prog laysClone_ren := {
  mixed := by kernel_rfl
  f16 := Tryz.func81.trans (congrArg some (by kernel_rfl))
  t4 := Tryz.underlying4
  a4 := Tryz.isAgg4
  z4 := Tryz.sizeOf4
  v4 := Tryz.zeroValue4
  t9 := Tryz.underlying9
  a9 := Tryz.isAgg9
  z9 := Tryz.sizeOf9
  v9 := Tryz.zeroValue9
  t24 := Tryz.underlying66
  a24 := Tryz.isAgg66
  z24 := Tryz.sizeOf66
  v24 := Tryz.zeroValue66
  i9 := by kernel_rfl }
def laysDelete_ren : Go.Shelf.Ren := ⟨fun | 24 => 123 | n => n, fun | 24 => 66 | 9 => 9 | 3 => 3 | 4 => 4 | 0 => 0 | n => n, fun | n => n⟩
theorem laysDelete : Go.Proofs.Lays2.n24 Tryz.prog laysDelete_ren := {
  mixed := by kernel_rfl
  f24 := Tryz.func123.trans (congrArg some (by kernel_rfl))
  t0 := Tryz.underlying0
  a0 := Tryz.isAgg0
  z0 := Tryz.sizeOf0
  v0 := Tryz.zeroValue0
  t3 := Tryz.underlying3
  a3 := Tryz.isAgg3
  z3 := Tryz.sizeOf3
  v3 := Tryz.zeroValue3
  t4 := Tryz.underlying4
  a4 := Tryz.isAgg4
  z4 := Tryz.sizeOf4
  v4 := Tryz.zeroValue4
  t9 := Tryz.underlying9
  a9 := Tryz.isAgg9
  z9 := Tryz.sizeOf9
  v9 := Tryz.zeroValue9
  t24 := Tryz.underlying66
  a24 := Tryz.isAgg66
  z24 := Tryz.sizeOf66
  v24 := Tryz.zeroValue66
  i9 := by kernel_rfl }
def laysInsert_ren : Go.Shelf.Ren := ⟨fun | 22 => 116 | 29 => 138 | 30 => 139 | 36 => 158 | 17 => 177 | n => n, fun | 24 => 66 | 9 => 9 | 3 => 3 | 4 => 4 | 0 => 0 | n => n, fun | n => n⟩
theorem laysInsert : Go.Proofs.Lays2.n22 Tryz.prog laysInsert_ren := {
  mixed := by kernel_rfl
  f17 := Tryz.func177.trans (congrArg some (by kernel_rfl))
  f22 := Tryz.func116.trans (congrArg some (by kernel_rfl))
  f29 := Tryz.func138.trans (congrArg some (by kernel_rfl))
  f30 := Tryz.func139.trans (congrArg some (by kernel_rfl))
  f36 := Tryz.func158.trans (congrArg some (by kernel_rfl))
  t0 := Tryz.underlying0
  a0 := Tryz.isAgg0
  z0 := Tryz.sizeOf0
  v0 := Tryz.zeroValue0
  t3 := Tryz.underlying3
  a3 := Tryz.isAgg3
  z3 := Tryz.sizeOf3
  v3 := Tryz.zeroValue3
  t4 := Tryz.underlying4
  a4 := Tryz.isAgg4
  z4 := Tryz.sizeOf4
  v4 := Tryz.zeroValue4
  t9 := Tryz.underlying9
  a9 := Tryz.isAgg9
  z9 := Tryz.sizeOf9
  v9 := Tryz.zeroValue9
  t24 := Tryz.underlying66
  a24 := Tryz.isAgg66
  z24 := Tryz.sizeOf66
  v24 := Tryz.zeroValue66
  i9 := by kernel_rfl }
def laysSearch_ren : Go.Shelf.Ren := ⟨fun | 26 => 115 | 33 => 136 | 34 => 137 | 38 => 157 | n => n, fun | 24 => 66 | 9 => 9 | 3 => 3 | 4 => 4 | 40 => 163 | 0 => 0 | n => n, fun | n => n⟩
theorem laysSearch : Go.Proofs.Lays2.n26 Tryz.prog laysSearch_ren := {
  mixed := by kernel_rfl
  f26 := Tryz.func115.trans (congrArg some (by kernel_rfl))
  f33 := Tryz.func136.trans (congrArg some (by kernel_rfl))
  f34 := Tryz.func137.trans (congrArg some (by kernel_rfl))
  f38 := Tryz.func157.trans (congrArg some (by kernel_rfl))
  t0 := Tryz.underlying0
  a0 := Tryz.isAgg0
  z0 := Tryz.sizeOf0
  v0 := Tryz.zeroValue0
  t3 := Tryz.underlying3
  a3 := Tryz.isAgg3
  z3 := Tryz.sizeOf3
  v3 := Tryz.zeroValue3
  t4 := Tryz.underlying4
  a4 := Tryz.isAgg4
  z4 := Tryz.sizeOf4
  v4 := Tryz.zeroValue4
  t9 := Tryz.underlying9
  a9 := Tryz.isAgg9
  z9 := Tryz.sizeOf9
  v9 := Tryz.zeroValue9
  t24 := Tryz.underlying66
  a24 := Tryz.isAgg66
  z24 := Tryz.sizeOf66
  v24 := Tryz.zeroValue66
  t40 := Tryz.underlying163
  a40 := Tryz.isAgg163
  z40 := Tryz.sizeOf163
  v40 := Tryz.zeroValue163 }
end Go.Proofs.YtmekkbhblghbmaaGreatDoor.D

/- Plain facts on a disk: what a call comes to. Nothing of the program is used here. -/
namespace Go.Proofs.YtmekkbhblghbmaaGreatDoor.D
set_option maxRecDepth 100000

/-! ### a disk -/
/-- A file: its name, its bytes, how many of them are sure. -/
structure Fl where
  nm : List UInt8
  bt : List UInt8
  sure : Nat

/-- A disk: its room, its files by rising names, its fuse (-1: none), is the power gone? -/
structure St where
  room : Int
  fs : List Fl
  lit : Int
  down : Bool

/-- The bytes of all files. -/
def total : List Fl → Nat
  | [] => 0
  | f :: r => f.bt.length + total r

def left (S : St) : Int := S.room - total S.fs

/-- The file of a name. -/
def find (l : List Fl) (n : List UInt8) : Option Fl := l.find? (fun f => f.nm == n)

/-- Is there power for one more? And what is behind it. -/
def burns (S : St) : Bool := !(S.down || S.lit == 0)
def burnt (S : St) : St := if burns S = true then { S with lit := if 0 < S.lit then S.lit - 1 else S.lit } else { S with down := true }

def rightName (n : List UInt8) : Bool := decide (1 ≤ n.length) && decide (n.length ≤ 20)

/-- A file is put in, in place of the one of its name. -/
def puts (S : St) (f : Fl) : St := { S with fs := ins Fl.nm (wo Fl.nm S.fs f.nm) f }

/-- The file that an append leaves. -/
def apF (S : St) (n b : List UInt8) : Fl := match find S.fs n with | some f => { f with bt := f.bt ++ b } | none => ⟨n, b, 0⟩
def apE (S : St) (n b : List UInt8) : Int := if rightName n = true then (if burns S = true then (if (b.length : Int) ≤ left S then 0 else 6) else 8) else 1
def apS (S : St) (n b : List UInt8) : St :=
  if rightName n = true then (if burns S = true ∧ (b.length : Int) ≤ left S then puts (burnt S) (apF S n b) else burnt S) else S

def rdE (S : St) (n : List UInt8) (off m : Int) : Int := match find S.fs n with | none => 5 | some f => if 0 ≤ off ∧ 0 ≤ m ∧ m ≤ f.bt.length - off then 0 else 1
def rdB (S : St) (n : List UInt8) (off m : Int) : List UInt8 := match find S.fs n with | none => [] | some f => if 0 ≤ off ∧ 0 ≤ m ∧ m ≤ f.bt.length - off then (f.bt.drop off.toNat).take m.toNat else []

def szE (S : St) (n : List UInt8) : Int := match find S.fs n with | none => 5 | some _ => 0
def szN (S : St) (n : List UInt8) : Int := match find S.fs n with | none => 0 | some f => f.bt.length

def syE (S : St) (n : List UInt8) : Int := match find S.fs n with | none => 5 | some _ => if burns S = true then 0 else 8
def syS (S : St) (n : List UInt8) : St := match find S.fs n with | none => S | some f => if burns S = true then puts (burnt S) { f with sure := f.bt.length } else burnt S

def rnE (S : St) (n m : List UInt8) : Int := match find S.fs n with | none => 5 | some _ => if rightName m = true then (if burns S = true then 0 else 8) else 1
def rnS (S : St) (n m : List UInt8) : St := match find S.fs n with
  | none => S
  | some f => if rightName m = true then (if burns S = true then puts { burnt S with fs := wo Fl.nm S.fs n } { f with nm := m } else burnt S) else S

def rmE (S : St) (n : List UInt8) : Int := match find S.fs n with | none => 5 | some _ => if burns S = true then 0 else 8
def rmS (S : St) (n : List UInt8) : St := match find S.fs n with | none => S | some _ => if burns S = true then { burnt S with fs := wo Fl.nm S.fs n } else burnt S

def ctE (S : St) (n : List UInt8) (m : Int) : Int := match find S.fs n with | none => 5 | some f => if 0 ≤ m ∧ m ≤ f.bt.length then (if burns S = true then 0 else 8) else 1
def ctS (S : St) (n : List UInt8) (m : Int) : St := match find S.fs n with
  | none => S
  | some f => if 0 ≤ m ∧ m ≤ f.bt.length then (if burns S = true then puts (burnt S) { f with bt := f.bt.take m.toNat, sure := min f.sure m.toNat } else burnt S) else S

/-- How many bytes of a file are left behind a crash. -/
def stays (kept : List Int) (i : Nat) (f : Fl) : Nat := match kept[i]? with | none => f.sure | some m => f.sure + min m.toNat (f.bt.length - f.sure)
def crash (kept : List Int) : Nat → List Fl → List Fl
  | _, [] => []
  | i, f :: r => { f with bt := f.bt.take (stays kept i f), sure := stays kept i f } :: crash kept (i + 1) r
def crS (S : St) (kept : List Int) : St := { S with fs := crash kept 0 S.fs, lit := -1, down := false }
def fuS (S : St) (n : Int) : St := { S with lit := max n (-1) }

/-- What holds of every disk. -/
structure Good (S : St) : Prop where
  up : Up Fl.nm S.fs
  names : ∀ f ∈ S.fs, 1 ≤ f.nm.length ∧ f.nm.length ≤ 20
  sure : ∀ f ∈ S.fs, f.sure ≤ f.bt.length
  fits : (total S.fs : Int) ≤ S.room
  room : S.room ≤ 1048576
  lit : -1 ≤ S.lit ∧ S.lit ≤ 9223372036854775807

/-- The files when i of them have been gone through. -/
def crashed (kept : List Int) (i : Nat) (l : List Fl) : List Fl := crash kept 0 (l.take i) ++ l.drop i

def crash1 (kept : List Int) (i : Nat) (f : Fl) : Fl := { f with bt := f.bt.take (stays kept i f), sure := stays kept i f }

theorem crash_append (kept : List Int) : ∀ (a b : List Fl) (i : Nat), crash kept i (a ++ b) = crash kept i a ++ crash kept (i + a.length) b
  | [], b, i => by simp [crash]
  | f :: a, b, i => by
    rw [List.cons_append, crash, crash, crash_append kept a b (i + 1), List.cons_append, List.length_cons, show i + 1 + a.length = i + (a.length + 1) by omega]
theorem crash_len (kept : List Int) : ∀ (a : List Fl) (i : Nat), (crash kept i a).length = a.length
  | [], _ => rfl
  | _ :: a, i => by rw [crash, List.length_cons, crash_len kept a (i + 1), List.length_cons]
theorem crash_names (kept : List Int) : ∀ (a : List Fl) (i : Nat), (crash kept i a).map Fl.nm = a.map Fl.nm
  | [], _ => rfl
  | _ :: a, i => by rw [crash, List.map_cons, crash_names kept a (i + 1), List.map_cons]

theorem crashed_zero (kept : List Int) (l : List Fl) : crashed kept 0 l = l := by simp [crashed, crash]
theorem crashed_all (kept : List Int) (l : List Fl) : crashed kept l.length l = crash kept 0 l := by simp [crashed]
theorem crashed_names (kept : List Int) (i : Nat) (l : List Fl) : (crashed kept i l).map Fl.nm = l.map Fl.nm := by
  unfold crashed
  rw [List.map_append, crash_names, ← List.map_append, List.take_append_drop]
theorem crashed_at {kept : List Int} {i : Nat} {l : List Fl} {f : Fl} (h : l[i]? = some f) : crashed kept i l = crash kept 0 (l.take i) ++ f :: l.drop (i + 1) ∧ crashed kept (i + 1) l = crash kept 0 (l.take i) ++ crash1 kept i f :: l.drop (i + 1) := by
  have hi : i < l.length := (List.getElem?_eq_some_iff.1 h).1
  have hf : l[i] = f := (List.getElem?_eq_some_iff.1 h).2
  constructor
  · unfold crashed
    rw [List.drop_eq_getElem_cons hi, hf]
  · unfold crashed
    rw [List.take_add_one, h, crash_append, List.length_take, Nat.min_eq_left (by omega)]
    simp [crash, crash1]
theorem crashed_step {kept : List Int} {i : Nat} {l : List Fl} {f : Fl} (h : l[i]? = some f) (hu : Up Fl.nm l) : ins Fl.nm (wo Fl.nm (crashed kept i l) f.nm) (crash1 kept i f) = crashed kept (i + 1) l := by
  obtain ⟨h1, h2⟩ := crashed_at (kept := kept) h
  have hup : Up Fl.nm (crashed kept i l) := by
    have : Up id ((crashed kept i l).map Fl.nm) := by rw [crashed_names]; exact (up_map (k := id) Fl.nm l).2 hu
    exact (up_map (k := id) Fl.nm _).1 this
  rw [h1] at hup
  rw [h1, h2]
  exact again_mid (k := Fl.nm) (c := f) (x := crash1 kept i f) (by rfl) _ _ hup

theorem find_none {l : List Fl} {n : List UInt8} (h : find l n = none) : ∀ f ∈ l, f.nm ≠ n := by
  intro f hf e
  have := List.find?_eq_none.1 h f hf
  simp [e] at this
theorem find_mem {l : List Fl} {n : List UInt8} {f : Fl} (h : find l n = some f) : f ∈ l ∧ f.nm = n :=
  ⟨List.mem_of_find?_eq_some h, by simpa using List.find?_some h⟩
theorem find_of {l : List Fl} {f : Fl} (h : Up Fl.nm l) (hf : f ∈ l) : find l f.nm = some f := by
  cases g : find l f.nm with
  | none => exact absurd rfl (find_none g f hf)
  | some x =>
    obtain ⟨h1, h2⟩ := find_mem g
    rw [up_inj h h1 hf h2]

theorem total_append (l m : List Fl) : total (l ++ m) = total l + total m := by
  induction l with
  | nil => simp [total]
  | cons f r ih => simp only [List.cons_append, total, ih]; omega
theorem total_ins (l : List Fl) (x : Fl) : total (ins Fl.nm l x) = total l + x.bt.length := by
  have e := List.takeWhile_append_dropWhile (p := fun c => lt (Fl.nm c) (Fl.nm x)) (l := l)
  have h := congrArg total e
  rw [total_append] at h
  rw [ins, total_append, total]
  omega
theorem total_wo {l : List Fl} {f : Fl} (h : Up Fl.nm l) (hf : f ∈ l) : total (wo Fl.nm l f.nm) + f.bt.length = total l := by
  obtain ⟨t, h1, h2, h3⟩ := up_split h hf
  have e := congrArg total h1
  rw [total_append, total] at e
  have e2 : pos Fl.nm l f.nm = (l.takeWhile (fun d => lt d.nm f.nm)).length := rfl
  have e3 : l.drop (pos Fl.nm l f.nm + 1) = t := by
    rw [← List.drop_drop, e2, (cut_at h1).2]; rfl
  rw [wo_at h hf, e3, e2, (cut_at h1).1, total_append]
  omega
theorem len_le_total {l : List Fl} {f : Fl} (hf : f ∈ l) : f.bt.length ≤ total l := by
  induction l with
  | nil => cases hf
  | cons a r ih =>
    rw [total]
    rcases List.mem_cons.1 hf with rfl | hf
    · omega
    · have := ih hf; omega
end Go.Proofs.YtmekkbhblghbmaaGreatDoor.D

/- Rows of names that the program owns: searched, one put in, one taken away, copied. -/
namespace Go.Proofs.YtmekkbhblghbmaaGreatDoor.D
set_option maxRecDepth 100000
open Go.RowKit Go.Shelf

/-- The place that is searched for: how many names stand ahead. -/
theorem search_any (B : Nat) (v : Value) (ns : List (List UInt8)) (x : List UInt8) (w : World) (h : w.ownsRow B 9 1 v ns.length (strs ns)) (hu : Up id ns) (hn : ns.length < 1099511627776) :
    Calls Tryz.prog 115 #[v, .string (bs x)] w fun e w' => ∃ q y, e = .returned (.tuple #[.int .i64 (pos id ns x : Nat), .bool y]) ∧ w' = w.drewN q := by
  rcases owns_cases h with ⟨rfl, h0, _⟩ | ⟨g, cap, cur, rfl, hB, _, hg, hcap, _, hs, hl, hcur, hcell, _, _⟩
  · refine (Any2.slices_BinarySearch_string_empty laysSearch none 0 (bs x) w).mono ?_
    rintro e w' ⟨rfl, rfl⟩
    have : ns = [] := List.eq_nil_of_length_eq_zero h0
    subst this
    exact ⟨0, false, rfl, rfl⟩
  · let Sx : Nat → ByteArray := fun t => bs ((ns[t]?).getD x)
    have hc : ∀ j, j < ns.length → w.cell? ⟨g, 0 + j, none⟩ = some (.string (Sx j)) := by
      intro j hj
      rw [Nat.zero_add, hcell j hj, strs_at, List.getElem?_eq_getElem hj]
      simp [Sx, List.getElem?_eq_getElem hj]
    refine (Any2.slices_BinarySearch_string laysSearch g 0 ns.length cap Sx (bs x) w (by omega) hc).mono ?_
    rintro e w' ⟨rfl, q, rfl⟩
    have hk : Lib.bsGo (fun t => Op.bytesLess (Sx t).toList (bs x).toList) ns.length 0 ns.length = pos id ns x := by
      refine Lib.bsGo_spec _ _ (fun t ht => ?_) (fun t ht => ?_) _ _ _ (by omega) (Nat.zero_le _) (pos_le ns x)
      · have hlt : t < ns.length := Nat.lt_of_lt_of_le ht (pos_le ns x)
        have := pos_before (k := id) ht (List.getElem?_eq_getElem hlt)
        rw [bs_toList, bs_toList, List.getElem?_eq_getElem hlt]
        exact this
      · rw [bs_toList, bs_toList]
        cases hx : ns[t]? with
        | none => exact lt_irrefl x
        | some c => exact pos_behind (k := id) hu ht hx
    rw [hk]
    exact ⟨q, _, rfl, rfl⟩

theorem insert_any (B : Nat) (v : Value) (ns : List (List UInt8)) (i : Nat) (x : List UInt8) (vb : Nat) (w : World) (h : w.ownsRow B 9 1 v ns.length (strs ns)) (hi : i ≤ ns.length) (hn : ns.length < 1099511627776)
    (hvb : w.heap[vb]? = some (.cells #[.string (bs x)] 9 (0, 0))) (hne : v.ownBlock ≠ some vb) (hB : B ≤ w.heap.size) :
    Calls Tryz.prog 116 #[v, .int .i64 i, .slice (some ⟨vb, 0, none⟩) 1 1] w fun e w' => ∃ v', e = .returned v' ∧
      w'.ownsRow B 9 1 v' (ns.length + 1) (strs (ns.take i ++ [x] ++ ns.drop i)) ∧ w.grownBy w' v.ownBlock ∧ (v'.ownBlock = v.ownBlock ∨ v'.ownBlock = some w.heap.size) := by
  have hvs : ∀ j u, ([.string (bs x)] : List Value)[j]? = some u → w.cell? ⟨vb, 0 + j, none⟩ = some u := by
    intro j u hu
    rw [Nat.zero_add, cell_of_row w vb j _ _ (0, 0) hvb]
    simpa using hu
  have h1v : ∀ u ∈ ([.string (bs x)] : List Value), u.oneCell' = true := by simp [Value.oneCell']
  have hz : ∀ k, (Builtin.zeroCells (Value.string ⟨#[]⟩).cells k).size = k := fun k => by rw [size_zeroCells]; simp [Value.cells]
  have hend : ∀ base cap, ns.length ≤ cap → cap < ns.length + 1 → (base = none → ns.length = 0) → (∀ a, base = some a → ∀ j u, (strs ns)[j]? = some u → w.cell? (a.add j) = some u) → v.ownBlock = none ∨ True →
      Calls Tryz.prog 116 #[.slice base ns.length cap, .int .i64 (ns.length : Nat), .slice (some ⟨vb, 0, none⟩) 1 1] w fun e w' => ∃ v', e = .returned v' ∧
      w'.ownsRow B 9 1 v' (ns.length + 1) (strs (ns ++ [x])) ∧ w.grownBy w' v.ownBlock ∧ (v'.ownBlock = v.ownBlock ∨ v'.ownBlock = some w.heap.size) := by
    intro base cap h1 h2 h3 h4 _
    refine (Any2.slices_Insert_string_end_grow laysInsert base ns.length cap vb 0 1 1 (strs ns) [.string (bs x)] w (by omega) h1 h2 (by omega) (strs_len ns) rfl h3 h4 hvs h1v).mono ?_
    rintro e w' ⟨rfl, rfl⟩
    have hge := grownCap_ge w (ns.length + 1) cap (laysInsert_ren.t 9)
    refine ⟨_, rfl, ?_, (grown_drewN 1 w _).trans (World.grownBy_alloc _ _ _), Or.inr rfl⟩
    refine owns_of_cells hB (heap_alloc_new _ _) ?_ hge (grownCap_le_maxLen w _ _ _ (by unfold maxLen; omega)) (by rw [strs_len]; simp) (fun j hj => ?_)
    · simp only [Array.size_append, List.size_toArray, List.length_append, strs_len, List.length_singleton, hz]
      omega
    · have : j < ((strs ns ++ [Value.string (bs x)]).toArray).size := by simp [strs_len]; omega
      rw [Array.getElem?_append_left this]
      simp [strs]
  rcases owns_cases h with ⟨rfl, h0, _⟩ | ⟨g, cap, cur, rfl, hBg, hgl, hg, hcap, hcm, hs, hl, hcur, hcell, hsome, hfz⟩
  · obtain rfl : ns = [] := List.eq_nil_of_length_eq_zero h0
    obtain rfl : i = 0 := by simpa using hi
    have := hend none 0 (by simp) (by simp) (fun _ => rfl) (fun a ha => by cases ha) (Or.inr trivial)
    simpa using this
  · have hgv : g ≠ vb := fun e => hne (by rw [e]; rfl)
    have hcs : ∀ j u, (strs ns)[j]? = some u → w.cell? ⟨g, 0 + j, none⟩ = some u := by
      intro j u hu
      have hj : j < ns.length := by rw [← strs_len ns]; exact (List.getElem?_eq_some_iff.1 hu).1
      rw [Nat.zero_add, hcell j hj, hu]
    have hc63 : cap ≤ 9223372036854775807 := by unfold maxLen at hcm; omega
    by_cases hroom : ns.length + 1 ≤ cap
    · by_cases hlt : i < ns.length
      · refine (Any2.slices_Insert_string_shift laysInsert g 0 ns.length cap i vb 0 1 1 (strs ns) [.string (bs x)] w hlt (by omega) hroom hc63 hgv.symm (strs_len ns) rfl hcs (fun j hj => by rw [Nat.zero_add]; exact hsome j (by omega)) (fun j _ => by rw [Nat.zero_add]; exact hfz j)
          hvs (strs_one ns) h1v 9 9 1 cap (by simp [World.shape?, hvb]) (by simp [World.shape?, hg, hs]) (by omega) (by simp [World.frozen?, hvb]) (by simp [World.frozen?, hvb])).mono ?_
        rintro e w' ⟨rfl, rfl⟩
        have hdl : ((strs ns).drop i).length = ns.length - i := by rw [List.length_drop, strs_len]
        obtain ⟨cur1, k1, k2, k3⟩ := block_setCells g 9 ((strs ns).drop i) (0 + (i + 1)) w.drew cur hg (by omega)
        obtain ⟨cur2, m1, m2, m3⟩ := block_setCells g 9 [.string (bs x)] (0 + i) _ cur1 k1 (by simp; omega)
        refine ⟨_, rfl, owns_of_cells hBg m1 (by omega) (by omega) hcm (by rw [strs_len]; simp; omega) (fun j hj => ?_), ((grown_drewN 1 w _).trans (grown_setCells g _ _ _)).trans (grown_setCells g _ _ _), Or.inl rfl⟩
        rw [m3 j, k3 j, hdl, strs_at, List.append_assoc]
        simp only [Nat.zero_add, List.length_singleton]
        by_cases c1 : j < i
        · rw [if_neg (by omega), if_neg (by omega), hcur j (by omega), strs_at, List.getElem?_append_left (by simp; omega), List.getElem?_take, if_pos c1]
        · by_cases c2 : j = i
          · subst c2
            rw [if_pos (by omega), Nat.sub_self, List.getElem?_append_right (by simp; omega)]
            simp [Nat.min_eq_left hi]
          · rw [if_neg (by omega), if_pos (by omega), List.getElem?_append_right (by simp; omega), List.getElem?_append_right (by simp; omega), List.getElem?_drop, List.getElem?_drop, strs_at]
            simp only [List.length_take, List.length_singleton, Nat.min_eq_left hi]
            rw [show i + (j - (i + 1)) = i + (j - i - 1) by omega]
      · obtain rfl : i = ns.length := by omega
        refine (Any2.slices_Insert_string_end_room laysInsert g 0 ns.length cap vb 0 1 1 [.string (bs x)] w (by omega) hroom hc63 rfl (fun j hj => by rw [show 0 + ns.length + j = ns.length + j by omega]; exact hsome _ (by omega)) (fun j _ => hfz _) hvs h1v).mono ?_
        rintro e w' ⟨rfl, rfl⟩
        obtain ⟨cur1, k1, k2, k3⟩ := block_setCells g 9 [.string (bs x)] (0 + ns.length) w cur hg (by simp; omega)
        refine ⟨_, rfl, owns_of_cells hBg k1 (by omega) (by omega) hcm (by rw [strs_len]; simp) (fun j hj => ?_), grown_setCells g _ _ _, Or.inl rfl⟩
        rw [k3 j, strs_at]
        simp only [Nat.zero_add, List.length_singleton, List.take_length, List.drop_length, List.append_nil]
        by_cases c1 : j < ns.length
        · rw [if_neg (by omega), hcur j c1, strs_at, List.getElem?_append_left c1]
        · obtain rfl : j = ns.length := by omega
          rw [if_pos (by omega), Nat.sub_self, List.getElem?_append_right (by omega)]
          simp
    · by_cases hlt : i < ns.length
      · refine (Any2.slices_Insert_string_grow laysInsert g 0 ns.length cap i vb 0 1 1 (strs ns) [.string (bs x)] w hlt (by omega) hcap (by omega) (by omega) (strs_len ns) rfl hcs hvs (strs_one ns) h1v).mono ?_
        rintro e w' ⟨rfl, rfl⟩
        have hge := grownCap_ge w (ns.length + 1) cap (laysInsert_ren.t 9)
        have hgm := grownCap_le_maxLen w (ns.length + 1) cap (laysInsert_ren.t 9) (by unfold maxLen; omega)
        generalize grownCap w (ns.length + 1) cap (laysInsert_ren.t 9) = G at hge hgm ⊢
        have hdl : ((strs ns).drop i).length = ns.length - i := by rw [List.length_drop, strs_len]
        have htl : ((strs ns).take i).length = i := by rw [List.length_take, strs_len]; omega
        obtain ⟨cur1, k1, k2, k3⟩ := block_setCells w.heap.size 9 [.string (bs x)] i (w.alloc (.cells (((strs ns).take i).toArray ++ Builtin.zeroCells (Value.string ⟨#[]⟩).cells (ns.length + 1 - i) ++ Builtin.zeroCells (Value.string ⟨#[]⟩).cells (G - (ns.length + 1))) 9)).drew _ (heap_alloc_new w _)
          (by simp only [Array.size_append, List.size_toArray, htl, hz, List.length_singleton]; omega)
        obtain ⟨cur2, m1, m2, m3⟩ := block_setCells w.heap.size 9 ((strs ns).drop i) (i + 1) (((w.alloc (.cells (((strs ns).take i).toArray ++ Builtin.zeroCells (Value.string ⟨#[]⟩).cells (ns.length + 1 - i) ++ Builtin.zeroCells (Value.string ⟨#[]⟩).cells (G - (ns.length + 1))) 9)).drew.setCells w.heap.size i [.string (bs x)])).drew cur1 k1
          (by rw [k2]; simp only [Array.size_append, List.size_toArray, htl, hz, hdl]; omega)
        have hgr : ∀ (row : Option Nat) (vs : List Value) (o : Nat) (W : World), w.grownBy W row → w.grownBy (W.setCells w.heap.size o vs) row := fun row vs o W hW =>
          ⟨(grown_setCells _ vs o W).os.trans hW.os, (grown_setCells _ vs o W).tape.trans hW.tape, (grown_setCells _ vs o W).output.trans hW.output, Nat.le_trans hW.size (grown_setCells _ vs o W).size,
            fun k hk hne => ((grown_setCells w.heap.size vs o W).block k (Nat.lt_of_lt_of_le hk hW.size) (fun e => by cases e; omega)).trans (hW.block k hk hne)⟩
        have hdr : ∀ (row : Option Nat) (W : World), w.grownBy W row → w.grownBy W.drew row := fun row W hW => ⟨hW.os, hW.tape, hW.output, hW.size, hW.block⟩
        refine ⟨_, rfl, owns_of_cells hB m1 ?_ hge hgm (by rw [strs_len]; simp; omega) (fun j hj => ?_), ?_, Or.inr rfl⟩
        · rw [m2, k2]; simp only [Array.size_append, List.size_toArray, htl, hz]; omega
        · rw [m3 j, k3 j, hdl, strs_at, List.append_assoc]
          simp only [List.length_singleton]
          by_cases c1 : j < i
          · rw [if_neg (by omega), if_neg (by omega), Array.append_assoc, Array.getElem?_append_left (by simp only [List.size_toArray, htl]; omega), List.getElem?_toArray, List.getElem?_take, if_pos c1, strs_at, List.getElem?_append_left (by simp; omega), List.getElem?_take, if_pos c1]
          · by_cases c2 : j = i
            · subst c2
              rw [if_neg (by omega), if_pos (by omega), Nat.sub_self, List.getElem?_append_right (by simp; omega)]
              simp [Nat.min_eq_left hi]
            · rw [if_pos (by omega), List.getElem?_append_right (by simp; omega), List.getElem?_append_right (by simp; omega), List.getElem?_drop, List.getElem?_drop, strs_at]
              simp only [List.length_take, List.length_singleton, Nat.min_eq_left hi]
              rw [show i + (j - (i + 1)) = i + (j - i - 1) by omega]
        · exact hgr _ _ _ _ (hdr _ _ (hgr _ _ _ _ (hdr _ _ (World.grownBy_alloc w _ _))))
      · obtain rfl : i = ns.length := by omega
        have := hend (some ⟨g, 0, none⟩) cap hcap (by omega) (fun e => by cases e) (fun a ha j u hu => by cases ha; rw [Addr.add_lit]; exact hcs j u hu) (Or.inr trivial)
        simpa using this


/-- The name at place i is taken away. -/
theorem delete_any (B : Nat) (v : Value) (ns : List (List UInt8)) (i : Nat) (w : World) (h : w.ownsRow B 9 1 v ns.length (strs ns)) (hi : i < ns.length) (hn : ns.length < 1099511627776) :
    Calls Tryz.prog 123 #[v, .int .i64 i, .int .i64 ((i : Int) + 1)] w fun e w' => ∃ v', e = .returned v' ∧
      w'.ownsRow B 9 1 v' (ns.length - 1) (strs (ns.take i ++ ns.drop (i + 1))) ∧ w.grownBy w' v.ownBlock ∧ v'.ownBlock = v.ownBlock := by
  rcases owns_cases h with ⟨rfl, h0, _⟩ | ⟨g, cap, cur, rfl, hBg, hgl, hg, hcap, hcm, hs, hl, hcur, hcell, hsome, hfz⟩
  · omega
  · have hc63 : cap ≤ 9223372036854775807 := by unfold maxLen at hcm; omega
    let Sx : Nat → ByteArray := fun t => bs ((ns[t]?).getD [])
    have hSx : Lib.strsOf Sx ns.length = ns := by
      apply List.ext_getElem?
      intro j
      unfold Lib.strsOf
      by_cases hj : j < ns.length
      · simp [Sx, hj, bs]
      · rw [List.getElem?_eq_none (by simp; omega), List.getElem?_eq_none (by omega)]
    have hc : ∀ j, j < ns.length → w.cell? ⟨g, 0 + j, none⟩ = some (.string (Sx j)) := by
      intro j hj
      rw [Nat.zero_add, hcell j hj, strs_at, List.getElem?_eq_getElem hj]
      simp [Sx, List.getElem?_eq_getElem hj]
    have hD := Any.slices_Delete_string_cells laysDelete g 0 ns.length cap i (i + 1) Sx w hcap hc63 (by omega) (by omega) hc (fun j _ => by rw [Nat.zero_add]; exact hfz j)
    rw [hSx] at hD
    refine hD.mono ?_
    rintro e w' ⟨rfl, q, rfl⟩
    rw [show i + 1 - i = 1 by omega]
    obtain ⟨cur1, k1, k2, k3⟩ := block_setCells g 9 ((ns.take i ++ ns.drop (i + 1) ++ List.replicate 1 []).map encStr) 0 (w.drewN q) cur hg (by simp; omega)
    refine ⟨_, rfl, owns_of_cells hBg k1 (by omega) (by omega) hcm (by rw [strs_len]; simp; omega) (fun j hj => ?_), (grown_drewN q w _).trans (grown_setCells g _ _ _), rfl⟩
    rw [k3 j, if_pos (by simp; omega), strs_at, List.getElem?_map, Nat.sub_zero, List.getElem?_append_left (by simp; omega)]
    rfl

/-- A copy. -/
theorem clone_any (B : Nat) (v : Value) (ns : List (List UInt8)) (w : World) (h : w.ownsRow B 9 1 v ns.length (strs ns)) (hn : ns.length < 1099511627776) :
    Calls Tryz.prog 81 #[v] w fun e w' => ∃ v', e = .returned v' ∧ w'.ownsRow w.heap.size 9 1 v' ns.length (strs ns) ∧ Below w.heap.size w w' := by
  rcases owns_cases h with ⟨rfl, h0, _⟩ | ⟨g, cap, cur, rfl, hBg, hgl, hg, hcap, hcm, hs, hl, hcur, hcell, hsome, hfz⟩
  · obtain rfl : ns = [] := List.eq_nil_of_length_eq_zero h0
    refine (Any.slices_Clone_string_nil laysClone 0 0 w).mono ?_
    rintro e w' ⟨rfl, rfl⟩
    exact ⟨_, rfl, World.ownsRow_nil _ _ _ _, Below.refl _ _⟩
  · have hz : ∀ j, j < (ns.map bs).length → w.cell? ⟨g, 0 + j, none⟩ = some (.string ((ns.map bs).getD j ByteArray.empty)) := by
      intro j hj
      rw [List.length_map] at hj
      rw [Nat.zero_add, hcell j hj, strs_at, List.getElem?_eq_getElem hj]
      simp [List.getD, hj]
    refine (Any.slices_Clone_string laysClone g 0 ns.length cap (ns.map bs) w (by simp) (by omega) hz).mono ?_
    rintro e w' ⟨v', rfl, h1, _, h3⟩
    refine ⟨v', rfl, ?_, h3⟩
    have e1 : ((ns.map bs).take ns.length).map Value.string = strs ns := by
      rw [List.take_of_length_le (by simp), List.map_map]; rfl
    rw [e1] at h1
    exact h1
end Go.Proofs.YtmekkbhblghbmaaGreatDoor.D

/- How a disk lies in memory: its own block, the map of its files, the row of its names, a row of bytes for each file. -/
namespace Go.Proofs.YtmekkbhblghbmaaGreatDoor.D
set_option maxRecDepth 100000
open Go.RowKit Go.Maps

/-- A file as it lies: its name, bytes, how many are sure; and the slice of its bytes. -/
structure Cf where
  f : Fl
  v : Value

def Cf.nm (c : Cf) : List UInt8 := c.f.nm
def Cf.ent (c : Cf) : Value := .agg #[c.v, .int .i64 c.f.sure]
def noEnt : Value := .agg #[.slice none 0 0, .int .i64 0]

/-- Bytes as they lie. -/
def bytesOf (l : List UInt8) : List Value := l.map fun c => .int .u8 c.toNat
theorem bytesOf_len (l : List UInt8) : (bytesOf l).length = l.length := by simp [bytesOf]

/-- An element of the map is told as it is. -/
def heldR (v : Value) : Option (DataW Value × List MemPlace) := some (.held v, [])
theorem heldR_inv {v : Value} {z : DataW Value} {ps : List MemPlace} (h : heldR v = some (z, ps)) : z = .held v := by
  simp [heldR] at h; exact h.1.symm
theorem heldR_ex {v u : Value} {ps : List MemPlace} (h : heldR v = some (.held u, ps)) : v = u := by
  have := heldR_inv h
  injection this with this
  exact this.symm

theorem strKey : Keyed Tryz.prog 9 := string_keyed Tryz.underlying9
theorem keyLit (n : List UInt8) (h : n.length ≤ maxLen) : keyOf Tryz.prog 9 (.string (bs n)) = some (.string n) := by
  rw [WideMaps.keyOf_string_mk Tryz.underlying9 (by rw [bs_size]; exact h)]; rfl
theorem zeroFile (w : World) : (zeroValue 107).run Tryz.prog w = .ok noEnt w := by kernel_rfl

/-- The map in block mb holds just these files. -/
def MapHas (w : World) (mb : Nat) (cs : List Cf) : Prop :=
  ∃ D : DataW Value, w.ownsMap Tryz.prog 9 heldR mb cs.length D ∧ Maps.size D = cs.length ∧
    (∀ c ∈ cs, Maps.has D (.string c.nm) = true ∧ ∀ z, D.atKey (.string c.nm) z = .held c.ent) ∧ (∀ n, Maps.has D (.string n) = true → ∃ c ∈ cs, c.nm = n)

theorem MapHas.kept {w w' : World} {mb : Nat} {cs : List Cf} (h : MapHas w mb cs) (hk : w'.heap[mb]? = w.heap[mb]?) : MapHas w' mb cs := by
  obtain ⟨D, ⟨es, clock, hb, r⟩, r2⟩ := h
  exact ⟨D, ⟨es, clock, by rw [hk]; exact hb, r⟩, r2⟩

theorem MapHas.lt {w : World} {mb : Nat} {cs : List Cf} (h : MapHas w mb cs) : mb < w.heap.size := by
  obtain ⟨D, h, _⟩ := h
  exact h.lt

theorem MapHas.look_yes {w : World} {mb : Nat} {cs : List Cf} (h : MapHas w mb cs) {c : Cf} (hc : c ∈ cs) (hl : c.nm.length ≤ maxLen) :
    (Instr.lookup 80 (.map (some mb)) (.string (bs c.nm)) false).run Tryz.prog w = .ok c.ent w ∧
    (Instr.lookup 80 (.map (some mb)) (.string (bs c.nm)) true).run Tryz.prog w = .ok (.tuple #[c.ent, .bool true]) w := by
  obtain ⟨D, hD, _, hin, _⟩ := h
  obtain ⟨h1, h2⟩ := hin c hc
  constructor
  · obtain ⟨v, ps, hr, hv⟩ := hD.lookup strKey Tryz.underlying80 (zeroFile w) (zd := .held noEnt) (zp := []) rfl (keyLit c.nm hl)
    rw [h2] at hv
    rw [hr, heldR_ex hv]
  · obtain ⟨v, ps, hr, hv⟩ := hD.look_ok strKey Tryz.underlying80 (zeroFile w) (zd := .held noEnt) (zp := []) rfl (keyLit c.nm hl)
    rw [h2] at hv
    rw [hr, heldR_ex hv, h1]

theorem MapHas.look_no {w : World} {mb : Nat} {cs : List Cf} (h : MapHas w mb cs) {n : List UInt8} (hn : ∀ c ∈ cs, c.nm ≠ n) (hl : n.length ≤ maxLen) :
    (Instr.lookup 80 (.map (some mb)) (.string (bs n)) false).run Tryz.prog w = .ok noEnt w ∧
    (Instr.lookup 80 (.map (some mb)) (.string (bs n)) true).run Tryz.prog w = .ok (.tuple #[noEnt, .bool false]) w := by
  obtain ⟨D, hD, _, _, hno⟩ := h
  have h1 : Maps.has D (.string n) = false := by
    cases g : Maps.has D (.string n)
    · rfl
    · obtain ⟨c, hc, e⟩ := hno n g
      exact absurd e (hn c hc)
  have h2 : ∀ z, D.atKey (.string n) z = z := fun z => atKey_of_not_has h1 z
  constructor
  · obtain ⟨v, ps, hr, hv⟩ := hD.lookup strKey Tryz.underlying80 (zeroFile w) (zd := .held noEnt) (zp := []) rfl (keyLit n hl)
    rw [h2] at hv
    rw [hr, heldR_ex hv]
  · obtain ⟨v, ps, hr, hv⟩ := hD.look_ok strKey Tryz.underlying80 (zeroFile w) (zd := .held noEnt) (zp := []) rfl (keyLit n hl)
    rw [h2] at hv
    rw [hr, heldR_ex hv, h1]

/-- A map has as many entries as it tells. -/
theorem owns_exact {w : World} {mb n : Nat} {D : DataW Value} (h : w.ownsMap Tryz.prog 9 heldR mb n D) : w.ownsMap Tryz.prog 9 heldR mb (Maps.size D) D := by
  obtain ⟨es, clock, hb, F, _, hD⟩ := h
  refine ⟨es, clock, hb, F, ?_, hD⟩
  rw [hD]
  simp [Maps.size, length_sorted]

theorem lit_key (n : List UInt8) : WideAt.IsKeyLit (.string n) := trivial
theorem lit_ne {n m : List UInt8} (h : n ≠ m) : (Lit.string n) ≠ .string m := fun e => h (by injection e)

/-- A file is laid into the map. -/
theorem MapHas.store {w : World} {mb : Nat} {cs : List Cf} (h : MapHas w mb cs) (hu : Up Cf.nm cs) (x : Cf) (hl : x.nm.length ≤ maxLen) (hs : cs.length < maxLen) :
    ∃ w', (Instr.mapUpdate 80 (.map (some mb)) (.string (bs x.nm)) x.ent).run Tryz.prog w = .ok () w' ∧ MapHas w' mb (ins Cf.nm (wo Cf.nm cs x.nm) x) ∧ w.grownBy w' (some mb) := by
  obtain ⟨D, hD, hsz, hin, hno⟩ := h
  obtain ⟨w', hr, hown, hg⟩ := hD.update strKey Tryz.underlying80 hs (keyLit x.nm hl) (val := x.ent) (d := .held x.ent) (ps := []) rfl
  refine ⟨w', hr, ⟨D.put (.string x.nm) (.held x.ent), ?_, ?_, ?_, ?_⟩, hg⟩
  · have hlen : Maps.size (D.put (.string x.nm) (.held x.ent)) = (ins Cf.nm (wo Cf.nm cs x.nm) x).length := by
      rw [size_put (hD.tidy strKey), length_ins, hsz]
      by_cases hx : Maps.has D (.string x.nm) = true
      · obtain ⟨c, hc, e⟩ := hno _ hx
        rw [if_pos hx, ← e, wo_at hu hc, List.length_append, List.length_take, List.length_drop]
        have := pos_lt hu hc
        omega
      · rw [if_neg hx, wo_id]
        intro c hc e
        have := (hin c hc).1
        rw [e] at this
        exact hx this
    rw [← hlen]; exact owns_exact hown
  · rw [size_put (hD.tidy strKey), length_ins, hsz]
    by_cases hx : Maps.has D (.string x.nm) = true
    · obtain ⟨c, hc, e⟩ := hno _ hx
      rw [if_pos hx, ← e, wo_at hu hc, List.length_append, List.length_take, List.length_drop]
      have := pos_lt hu hc
      omega
    · rw [if_neg hx, wo_id]
      intro c hc e
      have := (hin c hc).1
      rw [e] at this
      exact hx this
  · intro c hc
    rcases mem_ins.1 hc with rfl | hc
    · exact ⟨has_put_same hD.isMap (lit_key _) _, fun z => atKey_put_same hD.isMap (lit_key _) _ z⟩
    · obtain ⟨hc, hne⟩ := mem_wo.1 hc
      obtain ⟨a, b⟩ := hin c hc
      exact ⟨by rw [has_put_other (lit_ne hne)]; exact a, fun z => by rw [atKey_put_other (lit_ne hne)]; exact b z⟩
  · intro n hn
    by_cases e : n = x.nm
    · exact ⟨x, mem_ins.2 (Or.inl rfl), e.symm⟩
    · rw [has_put_other (lit_ne e)] at hn
      obtain ⟨c, hc, e'⟩ := hno n hn
      exact ⟨c, mem_ins.2 (Or.inr (mem_wo.2 ⟨hc, by rw [e']; exact e⟩)), e'⟩

/-- A file is taken out of the map. -/
theorem MapHas.drop {w : World} {mb : Nat} {cs : List Cf} (h : MapHas w mb cs) (hu : Up Cf.nm cs) {c : Cf} (hc : c ∈ cs) (hl : c.nm.length ≤ maxLen) (ty : TypeId) :
    ∃ w', (Builtin.delete_ #[80, 9] ty #[.map (some mb), .string (bs c.nm)]).run Tryz.prog w = .ok (.tuple #[]) w' ∧ MapHas w' mb (wo Cf.nm cs c.nm) ∧ w.grownBy w' (some mb) := by
  obtain ⟨D, hD, hsz, hin, hno⟩ := h
  obtain ⟨w', hr, hown, ht⟩ := hD.drop strKey Tryz.underlying80 (keyLit c.nm hl) ty
  have hlen : Maps.size (D.del (.string c.nm)) = (wo Cf.nm cs c.nm).length := by
    have h1 := size_del (k := .string c.nm) (hD.tidy strKey)
    rw [if_pos (hin c hc).1, hsz] at h1
    rw [wo_at hu hc, List.length_append, List.length_take, List.length_drop]
    have := pos_lt hu hc
    omega
  refine ⟨w', hr, ⟨D.del (.string c.nm), by rw [← hlen]; exact owns_exact hown, hlen, fun d hd => ?_, fun n hn => ?_⟩, ht.grown⟩
  · obtain ⟨hd, hne⟩ := mem_wo.1 hd
    obtain ⟨a, b⟩ := hin d hd
    exact ⟨by rw [has_del_other (lit_ne hne)]; exact a, fun z => by rw [atKey_del_other (lit_ne hne)]; exact b z⟩
  · by_cases e : n = c.nm
    · subst e; rw [has_del_same] at hn; cases hn
    · rw [has_del_other (lit_ne e)] at hn
      obtain ⟨d, hd, e'⟩ := hno n hn
      exact ⟨d, mem_wo.2 ⟨hd, by rw [e']; exact e⟩, e'⟩
end Go.Proofs.YtmekkbhblghbmaaGreatDoor.D

/- A disk in memory, and the calls that all others go through: may a name be, burn. -/
namespace Go.Proofs.YtmekkbhblghbmaaGreatDoor.D
set_option maxRecDepth 100000
open Go.RowKit Go.Maps

/-- The disk in block pb: its map mb, the slice nv of its names, its fuse u; the rows of bytes of all files but those of a hole. -/
structure Dk (B : Nat) (w : World) (pb mb : Nat) (nv : Value) (u : Int) (cs : List Cf) (S : St) (hole : List UInt8 → Prop) : Prop where
  pblk : w.heap[pb]? = some (.cells #[.map (some mb), nv, .int .i64 (left S), .int .i64 u, .bool S.down] 82 (0, 0))
  fuse : max u (-1) = S.lit ∧ -9223372036854775808 ≤ u
  map : MapHas w mb cs
  names : w.ownsRow B 9 1 nv (cs.map Cf.nm).length (strs (cs.map Cf.nm))
  fs : cs.map Cf.f = S.fs
  rows : ∀ c ∈ cs, ¬ hole c.nm → w.ownsRow B 5 1 c.v c.f.bt.length (bytesOf c.f.bt)
  form : ∀ c ∈ cs, ∃ a cap, c.v = .slice a c.f.bt.length cap
  apart : ∀ c ∈ cs, ∀ g, c.v.ownBlock = some g → g ≠ pb ∧ g ≠ mb ∧ nv.ownBlock ≠ some g ∧ B ≤ g ∧ g < w.heap.size ∧ ∀ d ∈ cs, d.nm ≠ c.nm → d.v.ownBlock ≠ some g
  base : B ≤ pb ∧ B ≤ mb ∧ mb ≠ pb ∧ nv.ownBlock ≠ some pb ∧ nv.ownBlock ≠ some mb ∧ B ≤ w.heap.size
  good : Good S

/-- The blocks of a disk: its own, its map's, its names'; and its files'. -/
def core (pb mb : Nat) (nv : Value) (k : Nat) : Prop := k = pb ∨ k = mb ∨ nv.ownBlock = some k
def foot (pb mb : Nat) (nv : Value) (cs : List Cf) (k : Nat) : Prop := core pb mb nv k ∨ ∃ c ∈ cs, c.v.ownBlock = some k
def none' (_ : List UInt8) : Prop := False

section
variable {B pb mb : Nat} {nv : Value} {u : Int} {cs : List Cf} {S : St} {hole : List UInt8 → Prop} {w w' : World}

theorem Dk.lt (h : Dk B w pb mb nv u cs S hole) : pb < w.heap.size ∧ mb < w.heap.size ∧ (∀ g, nv.ownBlock = some g → B ≤ g ∧ g < w.heap.size) :=
  ⟨(Array.getElem?_eq_some_iff.1 h.pblk).1, h.map.lt, h.names.lt⟩

theorem Dk.footLt (h : Dk B w pb mb nv u cs S hole) {k : Nat} (hk : foot pb mb nv cs k) : B ≤ k ∧ k < w.heap.size := by
  obtain ⟨h1, h2, h3⟩ := h.lt
  rcases hk with (rfl | rfl | hk) | ⟨c, hc, hk⟩
  · exact ⟨h.base.1, h1⟩
  · exact ⟨h.base.2.1, h2⟩
  · exact h3 k hk
  · exact ⟨(h.apart c hc k hk).2.2.2.1, (h.apart c hc k hk).2.2.2.2.1⟩

theorem Dk.upc (h : Dk B w pb mb nv u cs S hole) : Up Cf.nm cs := by
  have := h.good.up
  rw [← h.fs, up_map] at this
  exact this

theorem Dk.weaken (h : Dk B w pb mb nv u cs S hole) {hole' : List UInt8 → Prop} (hh : ∀ n, hole n → hole' n) : Dk B w pb mb nv u cs S hole' :=
  { h with rows := fun c hc hn => h.rows c hc (fun g => hn (hh _ g)) }

/-- What must not turn, for a disk to stay. -/
def must (pb mb : Nat) (nv : Value) (cs : List Cf) (hole : List UInt8 → Prop) (k : Nat) : Prop := core pb mb nv k ∨ ∃ c ∈ cs, ¬ hole c.nm ∧ c.v.ownBlock = some k

theorem Dk.kept {G : Nat → Prop} (h : Dk B w pb mb nv u cs S hole) (t : Turn G w w') (hG : ∀ k, k < w.heap.size → must pb mb nv cs hole k → ¬ G k) : Dk B w' pb mb nv u cs S hole := by
  obtain ⟨h1, h2, h3⟩ := h.lt
  have hlt : ∀ k, must pb mb nv cs hole k → k < w.heap.size := fun k hk => by
    rcases hk with hk | ⟨c, hc, _, hk⟩
    · exact (h.footLt (Or.inl hk)).2
    · exact (h.footLt (Or.inr ⟨c, hc, hk⟩)).2
  have hb : ∀ k, must pb mb nv cs hole k → w'.heap[k]? = w.heap[k]? := fun k hk => t.block k (hlt k hk) (hG k (hlt k hk) hk)
  exact { h with
    pblk := by rw [hb pb (Or.inl (Or.inl rfl))]; exact h.pblk
    map := h.map.kept (hb mb (Or.inl (Or.inr (Or.inl rfl))))
    names := owns_kept h.names (fun g hg => hb g (Or.inl (Or.inr (Or.inr hg))))
    rows := fun c hc hn => owns_kept (h.rows c hc hn) (fun g hg => hb g (Or.inr ⟨c, hc, hn, hg⟩))
    apart := fun c hc g hg => by
      obtain ⟨a1, a2, a3, a4, a5, a6⟩ := h.apart c hc g hg
      exact ⟨a1, a2, a3, a4, Nat.lt_of_lt_of_le a5 t.size, a6⟩
    base := by
      obtain ⟨b1, b2, b3, b4, b5, b6⟩ := h.base
      exact ⟨b1, b2, b3, b4, b5, Nat.le_trans b6 t.size⟩ }

theorem Dk.alloc (h : Dk B w pb mb nv u cs S hole) (o : Obj) : Dk B (w.alloc o) pb mb nv u cs S hole := h.kept ((Turn.refl (fun _ => False) w).alloc o) (fun _ _ _ f => f)

/-- The disk's own block alone has turned: its fuse, its power. -/
theorem Dk.head (h : Dk B w pb mb nv u cs S hole) (t : Turn (fun k => k = pb) w w') {S' : St} {u' : Int}
    (hp : w'.heap[pb]? = some (.cells #[.map (some mb), nv, .int .i64 (left S), .int .i64 u', .bool S'.down] 82 (0, 0)))
    (hf : S'.fs = S.fs) (hr : S'.room = S.room) (hu : max u' (-1) = S'.lit ∧ -9223372036854775808 ≤ u' ∧ u' ≤ 9223372036854775807) : Dk B w' pb mb nv u' cs S' hole := by
  have hb : ∀ k, k < w.heap.size → k ≠ pb → w'.heap[k]? = w.heap[k]? := fun k hk hn => t.block k hk hn
  obtain ⟨h1, h2, h3⟩ := h.lt
  obtain ⟨b1, b2, b3, b4, b5, b6⟩ := h.base
  refine ⟨?_, ⟨hu.1, hu.2.1⟩, h.map.kept (hb mb h2 b3), owns_kept h.names (fun g hg => hb g (h3 g hg).2 (fun e => b4 (e ▸ hg))), by rw [hf]; exact h.fs,
    fun c hc hn => owns_kept (h.rows c hc hn) (fun g hg => hb g (h.apart c hc g hg).2.2.2.2.1 (h.apart c hc g hg).1), h.form, ?_, ⟨b1, b2, b3, b4, b5, Nat.le_trans b6 t.size⟩, ?_⟩
  · rw [hp]; unfold left; rw [hf, hr]
  · intro c hc g hg
    obtain ⟨a1, a2, a3, a4, a5, a6⟩ := h.apart c hc g hg
    exact ⟨a1, a2, a3, a4, Nat.lt_of_lt_of_le a5 t.size, a6⟩
  · obtain ⟨g1, g2, g3, g4, g5, g6⟩ := h.good
    exact ⟨by rw [hf]; exact g1, by rw [hf]; exact g2, by rw [hf]; exact g3, by rw [hf, hr]; exact g4, by rw [hr]; exact g5, by omega⟩

theorem Dk.cells (h : Dk B w pb mb nv u cs S hole) : w.cell? ⟨pb, 0, none⟩ = some (.map (some mb)) ∧ w.cell? ⟨pb, 1, none⟩ = some nv ∧ w.cell? ⟨pb, 2, none⟩ = some (.int .i64 (left S)) ∧ w.cell? ⟨pb, 3, none⟩ = some (.int .i64 u) ∧
    w.cell? ⟨pb, 4, none⟩ = some (.bool S.down) ∧ (∀ j, w.frozen? ⟨pb, j, none⟩ = false) := by
  have hc : ∀ j, w.cell? ⟨pb, j, none⟩ = (#[Value.map (some mb), nv, .int .i64 (left S), .int .i64 u, .bool S.down])[j]? := fun j => cell_of_row w pb j _ _ (0, 0) h.pblk
  refine ⟨by rw [hc]; rfl, by rw [hc]; rfl, by rw [hc]; rfl, by rw [hc]; rfl, by rw [hc]; rfl, fun j => by simp [World.frozen?, h.pblk]⟩

theorem Dk.setAt (h : Dk B w pb mb nv u cs S hole) (j : Nat) (v : Value) : (w.setCell ⟨pb, j, none⟩ v).heap[pb]? = some (.cells ((#[Value.map (some mb), nv, .int .i64 (left S), .int .i64 u, .bool S.down]).setIfInBounds j v) 82 (0, 0)) :=
  heap_setCell_same w pb j _ _ v h.pblk

theorem Dk.ints (h : Dk B w pb mb nv u cs S hole) : 0 ≤ left S ∧ left S ≤ 1048576 ∧ -9223372036854775808 ≤ u ∧ u ≤ 9223372036854775807 := by
  have h1 := h.good.fits
  have h2 := h.good.room
  have h3 := h.good.lit
  have h4 := h.fuse
  unfold left
  omega
end

theorem turn_head (w : World) (pb j : Nat) (v : Value) : Turn (fun k => k = pb) w (w.setCell ⟨pb, j, none⟩ v) := (Turn.refl (fun k => k = pb) w).setCell (p := ⟨pb, j, none⟩) rfl v
theorem ret_bool {a b : Bool} (h : a = b) : Ending.returned (.bool a) = .returned (.bool b) := by rw [h]

/-! ### may a name be -/
theorem valid_any (n : List UInt8) (w : World) (hn : n.length ≤ maxLen) :
    Calls Tryz.prog 79 #[.string (bs n)] w fun e w' => e = .returned (.bool (rightName n)) ∧ w = w' := by
  have hs : ((bs n).size : Int) = n.length := by rw [bs_size]
  have hn' := hn
  unfold maxLen at hn'
  by_cases h1 : 1 ≤ n.length
  · have hr : rightName n = decide (n.length ≤ 20) := by simp [rightName, h1]
    rw [hr]
    have hsz : (bs n).size = n.length := bs_size n
    have HS := Lib.hid hsz; clear hsz hs hr hn
    have hb1 : (bs n).size ≤ 9223372036854775807 := by rw [HS.out]; omega
    have hb2 : 1 ≤ (bs n).size := by rw [HS.out]; omega
    by_cases h2 : n.length ≤ 20
    · have hb3 : (bs n).size ≤ 20 := by rw [HS.out]; omega
      have hd : decide (n.length ≤ 20) = true := by simpa using h2
      rw [hd]; clear hd
      go_enter Tryz.func79, Tryz.ntmps79
      go_wp2
      go_ret
      exact ⟨by simp; omega, rfl⟩
    · have hb3 : 20 < (bs n).size := by rw [HS.out]; omega
      have hd : decide (n.length ≤ 20) = false := by simpa using h2
      rw [hd]; clear hd
      go_enter Tryz.func79, Tryz.ntmps79
      go_wp2
      go_ret
      exact ⟨by simp; omega, rfl⟩
  · have hr : rightName n = false := by simp [rightName]; omega
    rw [hr]
    have hsz : (bs n).size = n.length := bs_size n
    have HS := Lib.hid hsz; clear hsz hs hr hn
    have hb2 : (bs n).size < 1 := by rw [HS.out]; omega
    go_enter Tryz.func79, Tryz.ntmps79
    go_wp2
    go_ret
    exact ⟨rfl, rfl⟩

/-! ### burn -/
def BurnPost (B : Nat) (pb mb : Nat) (nv : Value) (cs : List Cf) (S : St) (hole : List UInt8 → Prop) (w : World) (e : Ending) (w' : World) : Prop :=
  e = .returned (.bool (burns S)) ∧ ∃ u', Dk B w' pb mb nv u' cs (burnt S) hole ∧ Turn (fun k => k = pb) w w'

set_option maxHeartbeats 1000000 in
theorem burn_any {B pb mb : Nat} {nv : Value} {u : Int} {cs : List Cf} {S : St} {hole : List UInt8 → Prop} {w : World} (h : Dk B w pb mb nv u cs S hole) :
    Calls Tryz.prog 71 #[.pointer (some ⟨pb, 0, none⟩)] w (BurnPost B pb mb nv cs S hole w) := by
  obtain ⟨c0, c1, c2, c3, c4, fz⟩ := h.cells
  obtain ⟨i1, i2, i3, i4⟩ := h.ints
  obtain ⟨hl1, hl2⟩ := h.fuse
  have f3 := fz 3
  have f4 := fz 4
  clear fz
  have HL := Lib.hid hl1; clear hl1
  have hset4 := Lib.hid (h.setAt 4 (.bool true))
  have hset3 := Lib.hid (h.setAt 3 (.int .i64 (u - 1)))
  by_cases hd : S.down = true
  · have hb : burns S = false := by simp [burns, hd]
    have hbt : burnt S = { S with down := true } := by simp [burnt, hb]
    have HB := Lib.hid hb; have HT := Lib.hid hbt; clear hb hbt
    rw [hd] at c4
    have HD := Lib.hid hd; clear hd
    go_enter Tryz.func71, Tryz.ntmps71
    go_wp2
    go_ret
    refine ⟨ret_bool HB.out.symm, u, ?_, turn_head w pb _ _⟩
    rw [HT.out]
    exact h.head (turn_head w pb _ _) hset4.out rfl rfl ⟨HL.out, i3, i4⟩
  · have hd' : S.down = false := by simpa using hd
    clear hd
    rw [hd'] at c4
    by_cases hu0 : u = 0
    · subst hu0
      have hb : burns S = false := by have := HL.out; simp [burns]; intro _; omega
      have hbt : burnt S = { S with down := true } := by simp [burnt, hb]
      have HB := Lib.hid hb; have HT := Lib.hid hbt; clear hb hbt
      have HD := Lib.hid hd'; clear hd'
      go_enter Tryz.func71, Tryz.ntmps71
      go_wp2
      go_ret
      refine ⟨ret_bool HB.out.symm, 0, ?_, turn_head w pb _ _⟩
      rw [HT.out]
      exact h.head (turn_head w pb _ _) hset4.out rfl rfl ⟨HL.out, by omega, by omega⟩
    · have hne : (u == 0) = false := by simpa using hu0
      have hb : burns S = true := by
        have := HL.out
        simp [burns, hd']; omega
      by_cases hpos : 0 < u
      · have hbt : burnt S = { S with lit := u - 1 } := by
          have := HL.out
          have e : S.lit = u := by omega
          simp [burnt, hb, e, hpos]
        have HB := Lib.hid hb; have HT := Lib.hid hbt; clear hb hbt
        have HD := Lib.hid hd'; clear hd'
        have HU := Lib.hid hu0; clear hu0
        go_enter Tryz.func71, Tryz.ntmps71
        go_wp2
        go_ret
        refine ⟨ret_bool HB.out.symm, u - 1, ?_, turn_head w pb _ _⟩
        rw [HT.out]
        exact h.head (turn_head w pb _ _) (by rw [hset3.out]; simp) rfl rfl ⟨by simp; omega, by omega, by omega⟩
      · have hneg : u < 0 := by omega
        have hbt : burnt S = S := by
          have := HL.out
          have e : S.lit = -1 := by omega
          simp [burnt, hb, e]
          cases S
          simp_all
        have HB := Lib.hid hb; have HT := Lib.hid hbt; clear hb hbt
        have HD := Lib.hid hd'; clear hd'
        have HU := Lib.hid hu0; clear hu0
        go_enter Tryz.func71, Tryz.ntmps71
        go_wp2
        go_ret
        refine ⟨ret_bool HB.out.symm, u, ?_, Turn.refl _ w⟩
        rw [HT.out]
        exact h
end Go.Proofs.YtmekkbhblghbmaaGreatDoor.D

/- A file is put in. -/
namespace Go.Proofs.YtmekkbhblghbmaaGreatDoor.D
set_option maxRecDepth 100000
open Go.RowKit Go.Maps

/-- What a file must be that is put in. -/
structure PutIn (B : Nat) (w : World) (pb mb : Nat) (nv : Value) (cs : List Cf) (S : St) (x : Cf) : Prop where
  row : w.ownsRow B 5 1 x.v x.f.bt.length (bytesOf x.f.bt)
  right : 1 ≤ x.nm.length ∧ x.nm.length ≤ 20
  sure : x.f.sure ≤ x.f.bt.length
  fits : (total (puts S x.f).fs : Int) ≤ S.room
  apart : ∀ g, x.v.ownBlock = some g → g ≠ pb ∧ g ≠ mb ∧ nv.ownBlock ≠ some g ∧ ∀ d ∈ cs, d.nm ≠ x.nm → d.v.ownBlock ≠ some g

theorem owns_form {B : Nat} {w : World} {e : TypeId} {v : Value} {n : Nat} {xs : List Value} (h : w.ownsRow B e 1 v n xs) : ∃ a cap, v = .slice a n cap := by
  rcases owns_cases h with ⟨rfl, h0, _⟩ | ⟨g, cap, _, hv, _⟩
  · exact ⟨none, 0, by rw [h0]⟩
  · exact ⟨_, cap, hv⟩

theorem PutIn.kept {B pb mb : Nat} {nv : Value} {cs : List Cf} {S : St} {x : Cf} {w w' : World} {G : Nat → Prop} (h : PutIn B w pb mb nv cs S x) (t : Turn G w w') (hG : ∀ g, x.v.ownBlock = some g → ¬ G g) : PutIn B w' pb mb nv cs S x :=
  { h with row := owns_kept h.row (fun g hg => t.block g (h.row.lt g hg).2 (hG g hg)) }

theorem fs_puts {cs : List Cf} {S : St} (hf : cs.map Cf.f = S.fs) (x : Cf) : (ins Cf.nm (wo Cf.nm cs x.nm) x).map Cf.f = (puts S x.f).fs := by
  have e1 := map_ins (k := Fl.nm) Cf.f (wo Cf.nm cs x.nm) x
  have e2 := map_wo (k := Fl.nm) Cf.f cs x.nm
  show (ins (fun c : Cf => c.f.nm) (wo (fun c : Cf => c.f.nm) cs x.nm) x).map Cf.f = ins Fl.nm (wo Fl.nm S.fs x.f.nm) x.f
  rw [← hf]
  exact e1.trans (by rw [show wo Cf.nm cs x.nm = wo (fun c : Cf => c.f.nm) cs x.nm from rfl, e2]; rfl)

theorem Dk.putEnd {B pb mb : Nat} {nv nv' : Value} {u : Int} {cs : List Cf} {S : St} {x : Cf} {w w' : World} (h : Dk B w pb mb nv u cs S (fun m => m = x.nm)) (hx : PutIn B w pb mb nv cs S x)
    (hp : w'.heap[pb]? = some (.cells #[.map (some mb), nv', .int .i64 (left (puts S x.f)), .int .i64 u, .bool S.down] 82 (0, 0)))
    (hm : MapHas w' mb (ins Cf.nm (wo Cf.nm cs x.nm) x))
    (hn : w'.ownsRow B 9 1 nv' ((ins Cf.nm (wo Cf.nm cs x.nm) x).map Cf.nm).length (strs ((ins Cf.nm (wo Cf.nm cs x.nm) x).map Cf.nm)))
    (ht : Turn (core pb mb nv) w w') (hl : nv'.ownBlock = nv.ownBlock ∨ ∃ g, nv'.ownBlock = some g ∧ w.heap.size ≤ g) : Dk B w' pb mb nv' u (ins Cf.nm (wo Cf.nm cs x.nm) x) (puts S x.f) none' := by
  obtain ⟨b1, b2, b3, b4, b5, b6⟩ := h.base
  obtain ⟨l1, l2, l3⟩ := h.lt
  have hmem : ∀ c, c ∈ ins Cf.nm (wo Cf.nm cs x.nm) x ↔ c = x ∨ (c ∈ cs ∧ c.nm ≠ x.nm) := fun c => by rw [mem_ins, mem_wo]
  have hxl : ∀ g, x.v.ownBlock = some g → B ≤ g ∧ g < w.heap.size := hx.row.lt
  have hnew : ∀ g, g < w.heap.size → nv.ownBlock ≠ some g → nv'.ownBlock ≠ some g := fun g hg hne e => by
    rcases hl with hl | ⟨g', hl, hg'⟩
    · exact hne (hl ▸ e)
    · rw [hl] at e; cases e; omega
  have hfs := fs_puts h.fs x
  have hupw : Up Cf.nm (ins Cf.nm (wo Cf.nm cs x.nm) x) := up_ins (up_wo h.upc _) (fun c hc => (mem_wo.1 hc).2)
  have hmemf : ∀ f ∈ (puts S x.f).fs, f = x.f ∨ f ∈ S.fs := fun f hf => by
    rcases mem_ins.1 hf with rfl | hf
    · exact Or.inl rfl
    · exact Or.inr (mem_wo.1 hf).1
  obtain ⟨g1, g2, g3, g4, g5, g6⟩ := h.good
  refine ⟨hp, h.fuse, hm, hn, hfs, ?_, ?_, ?_, ⟨b1, b2, b3, hnew _ l1 b4, hnew _ l2 b5, Nat.le_trans b6 ht.size⟩, ⟨?_, ?_, ?_, hx.fits, g5, g6⟩⟩
  · intro c hc _
    rcases (hmem c).1 hc with rfl | ⟨hc, hne⟩
    · exact owns_kept hx.row (fun g hg => ht.block g (hxl g hg).2 (fun hco => by
        obtain ⟨a1, a2, a3, _⟩ := hx.apart g hg
        rcases hco with e | e | e
        · exact a1 e
        · exact a2 e
        · exact a3 e))
    · exact owns_kept (h.rows c hc hne) (fun g hg => by
        obtain ⟨a1, a2, a3, _, a5, _⟩ := h.apart c hc g hg
        refine ht.block g a5 (fun hco => ?_)
        rcases hco with e | e | e
        · exact a1 e
        · exact a2 e
        · exact a3 e)
  · intro c hc
    rcases (hmem c).1 hc with rfl | ⟨hc, hne⟩
    · exact owns_form hx.row
    · exact h.form c hc
  · intro c hc g hg
    rcases (hmem c).1 hc with rfl | ⟨hc, hne⟩
    · obtain ⟨a1, a2, a3, a4⟩ := hx.apart g hg
      refine ⟨a1, a2, hnew g (hxl g hg).2 a3, (hxl g hg).1, Nat.lt_of_lt_of_le (hxl g hg).2 ht.size, fun d hd hdn => ?_⟩
      rcases (hmem d).1 hd with rfl | ⟨hd, hdne⟩
      · exact absurd rfl hdn
      · exact a4 d hd hdne
    · obtain ⟨a1, a2, a3, a4, a5, a6⟩ := h.apart c hc g hg
      refine ⟨a1, a2, hnew g a5 a3, a4, Nat.lt_of_lt_of_le a5 ht.size, fun d hd hdn => ?_⟩
      rcases (hmem d).1 hd with e | ⟨hd, hdne⟩
      · subst e
        intro e
        exact (hx.apart g e).2.2.2 c ‹c ∈ cs› hne hg
      · exact a6 d hd hdn
  · rw [← hfs]
    exact (up_map (k := Fl.nm) Cf.f _).2 hupw
  · intro f hf
    rcases hmemf f hf with rfl | hf
    · exact hx.right
    · exact g2 f hf
  · intro f hf
    rcases hmemf f hf with rfl | hf
    · exact hx.sure
    · exact g3 f hf

/-- A look-up, where its run is known. -/
theorem wpList_lookup_run {P : Program} (w : World) {ops : Array Oper} {rest : List Oper} {o : Oper} {a : Act} {Q : Exit → Act → World → Prop}
    (hg : o.guard = none) (m x : Operand) (t : TypeId) (c : Bool) (hop : o.op = Op.lookup t m x c) (mv key : Value) (hm : a.eval m = mv) (hx : a.eval x = key) (v : Value)
    (hr : (Instr.lookup t mv key c).run P w = .ok v w) (hK : wpList P ops Q rest (a.put o.dst v) w) : wpList P ops Q (o :: rest) a w := by
  refine wpList_plain hg fun K' hK' => ?_
  unfold Oper.wp
  simp [execOp, hop, hm, hx, hr, Result.andThen]
  exact hK' _ _ hK

/-- A store into a map, where its run is known. -/
theorem wpList_mapUpdate_run {P : Program} (w : World) {ops : Array Oper} {rest : List Oper} {o : Oper} {a : Act} {Q : Exit → Act → World → Prop}
    (hg : o.guard = none) (m x v : Operand) (t : TypeId) (hop : o.op = Op.mapUpdate t m x v) (mv key val : Value) (hm : a.eval m = mv) (hx : a.eval x = key) (hv : a.eval v = val) (w' : World)
    (hr : (Instr.mapUpdate t mv key val).run P w = .ok () w') (hK : wpList P ops Q rest (a.put o.dst undef) w') : wpList P ops Q (o :: rest) a w := by
  refine wpList_plain hg fun K' hK' => ?_
  unfold Oper.wp
  simp [execOp, hop, hm, hx, hv, hr, Result.andThen]
  exact hK' _ _ hK

/-- What is behind a file that was put in. -/
def PutPost (B pb mb : Nat) (nv : Value) (u : Int) (cs : List Cf) (S : St) (x : Cf) (w : World) (e : Ending) (w' : World) : Prop :=
  e = .returned (.tuple #[]) ∧ ∃ nv', Dk B w' pb mb nv' u (ins Cf.nm (wo Cf.nm cs x.nm) x) (puts S x.f) none' ∧ Turn (core pb mb nv) w w' ∧ (nv'.ownBlock = nv.ownBlock ∨ ∃ g, nv'.ownBlock = some g ∧ w.heap.size ≤ g)

/-- .. of one that was there: its names stay where they are. -/
def PutThere (B pb mb : Nat) (nv : Value) (u : Int) (cs : List Cf) (S : St) (x : Cf) (w : World) (e : Ending) (w' : World) : Prop :=
  e = .returned (.tuple #[]) ∧ Dk B w' pb mb nv u (ins Cf.nm (wo Cf.nm cs x.nm) x) (puts S x.f) none' ∧ Turn (core pb mb nv) w w'

set_option maxHeartbeats 1000000 in
theorem put_there {B pb mb : Nat} {nv : Value} {u : Int} {cs : List Cf} {S : St} {w : World} {n : List UInt8} {cb xb : List UInt8} {csure xsure : Nat} {ca xa : Option Addr} {ccap xcap : Nat}
    (h : Dk B w pb mb nv u cs S (fun m => m = n)) (hx : PutIn B w pb mb nv cs S ⟨⟨n, xb, xsure⟩, .slice xa xb.length xcap⟩) (hc : (⟨⟨n, cb, csure⟩, .slice ca cb.length ccap⟩ : Cf) ∈ cs)
    (hn : n.length ≤ maxLen) (hxb : xb.length ≤ 1048576) (hcb : cb.length ≤ 1048576) (hcs : cs.length < 1099511627776) :
    Calls Tryz.prog 72 #[.pointer (some ⟨pb, 0, none⟩), .string (bs n), .agg #[.slice xa xb.length xcap, .int .i64 xsure]] w (PutThere B pb mb nv u cs S ⟨⟨n, xb, xsure⟩, .slice xa xb.length xcap⟩ w) := by
  obtain ⟨c0, c1, c2, c3, c4, fz⟩ := h.cells
  obtain ⟨i1, i2, i3, i4⟩ := h.ints
  have f2 := fz 2
  clear fz
  have hlt := h.lt.1
  have hset := Lib.hid (h.setAt 2 (.int .i64 (left S + ((cb.length : Int) - (xb.length : Int)))))
  have hleft : left (puts S ⟨n, xb, xsure⟩) = left S + ((cb.length : Int) - (xb.length : Int)) := by
    have hcf : (⟨n, cb, csure⟩ : Fl) ∈ S.fs := by rw [← h.fs]; exact List.mem_map_of_mem (f := Cf.f) hc
    have := total_wo h.good.up hcf
    simp only [left, puts, total_ins]
    dsimp only at this ⊢
    omega
  have HL := Lib.hid hleft; clear hleft
  go_enter Tryz.func72, Tryz.ntmps72
  go_wp2_with (first | (at_lookup; refine wpList_lookup_run _ rfl _ _ _ _ rfl _ _ rfl rfl (.tuple #[.agg #[.slice ca cb.length ccap, .int .i64 csure], .bool true]) (MapHas.look_yes (h.map.kept (Below.heap_alloc _ _ _ h.lt.2.1)) hc hn).2 ?_))
  go_region
  go_wp2
  generalize hW0 : World.drew _ = W0
  have d0 : W0.cell? ⟨pb, 0, none⟩ = some (.map (some mb)) := by rw [← hW0]; clear hW0; go_simp
  have d5 : W0.cell? ⟨w.heap.size, 0, none⟩ = some (.slice xa xb.length xcap) := by rw [← hW0]; clear hW0; go_simp
  have d6 : W0.cell? ⟨w.heap.size, 1, none⟩ = some (.int .i64 xsure) := by rw [← hW0]; clear hW0; go_simp
  have t0 : Turn (fun k => k = pb) w W0 := by
    rw [← hW0]
    exact ((((turn_head w pb 2 _).alloc _).alloc _).drew 1)
  have p0 : W0.heap[pb]? = some (.cells #[.map (some mb), nv, .int .i64 (left S + ((cb.length : Int) - (xb.length : Int))), .int .i64 u, .bool S.down] 82 (0, 0)) := by
    rw [← hW0]
    show ((((w.setCell _ _).alloc _).alloc _)).heap[pb]? = _
    rw [Below.heap_alloc _ _ _ (by simp [World.setCell]; omega), Below.heap_alloc _ _ _ (by simp [World.setCell]; omega), hset.out]
    rfl
  have m0 : MapHas W0.drew mb cs := (h.map.kept (t0.block mb h.lt.2.1 h.base.2.2.1))
  obtain ⟨w', hr, m1, hg⟩ := m0.store h.upc ⟨⟨n, xb, xsure⟩, .slice xa xb.length xcap⟩ hn (by unfold maxLen; omega)
  have hr' : (Instr.mapUpdate 80 (.map (some mb)) (.string (bs n)) (.agg #[.slice xa xb.length xcap, .int .i64 xsure])).run Tryz.prog W0.drew = .ok () w' := hr
  clear hr
  have HW := Lib.hid hW0; clear hW0
  have HP := Lib.hid p0; clear p0
  go_region
  have p1 : w'.heap[pb]? = W0.heap[pb]? := hg.block pb (by have := t0.size; show pb < W0.heap.size; omega) (fun e => h.base.2.2.1 (by injection e with e; exact e.symm))
  have t1 : Turn (core pb mb nv) w w' := (t0.mono (fun k _ hk => Or.inl hk)).grown (w' := w') (row := some mb) ⟨hg.os, hg.tape, hg.output, hg.size, hg.block⟩ (fun k hk => by cases hk; exact Or.inl (Or.inr (Or.inl rfl)))
  have hkeys : (ins Cf.nm (wo Cf.nm cs n) ⟨⟨n, xb, xsure⟩, .slice xa xb.length xcap⟩).map Cf.nm = cs.map Cf.nm := keys_again h.upc hc rfl
  go_end0
  refine ⟨rfl, h.putEnd hx ?_ m1 ?_ t1 (Or.inl rfl), t1⟩
  · rw [p1, HP.out, HL.out]
  · show w'.ownsRow B 9 1 nv ((ins Cf.nm (wo Cf.nm cs n) _).map Cf.nm).length (strs ((ins Cf.nm (wo Cf.nm cs n) _).map Cf.nm))
    rw [hkeys]
    refine owns_kept h.names (fun g hgn => ?_)
    have hgl := (h.lt.2.2 g hgn).2
    rw [hg.block g (by have := t0.size; show g < W0.heap.size; omega) (fun e => h.base.2.2.2.2.1 (by injection e with e; rw [← e]; exact hgn))]
    exact t0.block g hgl (fun e => h.base.2.2.2.1 (e ▸ hgn))

set_option maxHeartbeats 2000000 in
theorem put_new {B pb mb : Nat} {nv : Value} {u : Int} {cs : List Cf} {S : St} {w : World} {n : List UInt8} {xb : List UInt8} {xsure : Nat} {xa : Option Addr} {xcap : Nat}
    (h : Dk B w pb mb nv u cs S (fun m => m = n)) (hx : PutIn B w pb mb nv cs S ⟨⟨n, xb, xsure⟩, .slice xa xb.length xcap⟩) (hc : ∀ c ∈ cs, c.nm ≠ n)
    (hn : n.length ≤ maxLen) (hxb : xb.length ≤ 1048576) (hcs : cs.length < 1099511627776) :
    Calls Tryz.prog 72 #[.pointer (some ⟨pb, 0, none⟩), .string (bs n), .agg #[.slice xa xb.length xcap, .int .i64 xsure]] w (PutPost B pb mb nv u cs S ⟨⟨n, xb, xsure⟩, .slice xa xb.length xcap⟩ w) := by
  obtain ⟨c0, c1, c2, c3, c4, fz⟩ := h.cells
  obtain ⟨i1, i2, i3, i4⟩ := h.ints
  have f2 := fz 2
  have f1 := fz 1
  have hlt := h.lt.1
  have hleft : left (puts S ⟨n, xb, xsure⟩) = left S + -(xb.length : Int) := by
    have e : wo Fl.nm S.fs n = S.fs := wo_id (fun f hf => by
      rw [← h.fs, List.mem_map] at hf
      obtain ⟨c, hcc, rfl⟩ := hf
      exact hc c hcc)
    simp only [left, puts, total_ins, e]
    omega
  have HL := Lib.hid hleft; clear hleft
  have hpos : pos id (cs.map Cf.nm) n ≤ (cs.map Cf.nm).length := pos_le _ _
  have hlen : (cs.map Cf.nm).length < 1099511627776 := by simpa using hcs
  have hup : Up id (cs.map Cf.nm) := (up_map (k := id) Cf.nm cs).2 h.upc
  have HU := Lib.hid hup
  go_enter Tryz.func72, Tryz.ntmps72
  go_wp2_with (first
    | (at_lookup; refine wpList_lookup_run _ rfl _ _ _ _ rfl _ _ rfl rfl (.tuple #[.agg #[.slice none 0 0, .int .i64 0], .bool false]) (MapHas.look_no (h.map.kept (Below.heap_alloc _ _ _ h.lt.2.1)) hc hn).2 ?_)
    | (go_at_call 115; refine (search_any B nv (cs.map Cf.nm) n _ ((h.names.alloc _).alloc _) HU.out hlen).mono ?_; rintro e w1 ⟨q, y, rfl, rfl⟩)
    | fail)
  generalize hW1 : World.alloc _ _ = W1
  have z1 : W1.heap.size = w.heap.size + 3 := by rw [← hW1]; simp
  have t1 : Turn (fun _ => False) w W1 := by
    rw [← hW1]
    exact ((((Turn.refl _ w).alloc _).alloc _).drew q).alloc _
  have v1 : W1.heap[w.heap.size + 1 + 1]? = some (.cells #[.string (bs n)] 9 (0, 0)) := by
    rw [← hW1]
    have := heap_alloc_new (((w.alloc (Obj.cells #[Value.slice xa xb.length xcap, Value.int IntKind.i64 ↑xsure] 107)).alloc (Obj.cells #[Value.slice none 0 0, Value.int IntKind.i64 0] 107)).drewN q) (.cells #[.string (bs n)] 9)
    simpa using this
  have b5 : W1.heap[w.heap.size]? = some (.cells #[.slice xa xb.length xcap, .int .i64 xsure] 107 (0, 0)) := by
    rw [← hW1, Below.heap_alloc _ _ _ (by simp; omega)]
    show ((w.alloc _).alloc _).heap[w.heap.size]? = _
    rw [Below.heap_alloc _ _ _ (by simp)]
    exact heap_alloc_new w _
  have b6 : W1.heap[w.heap.size + 1]? = some (.cells #[.slice none 0 0, .int .i64 0] 107 (0, 0)) := by
    rw [← hW1, Below.heap_alloc _ _ _ (by simp)]
    have := heap_alloc_new (w.alloc (Obj.cells #[Value.slice xa xb.length xcap, Value.int IntKind.i64 ↑xsure] 107)) (Obj.cells #[Value.slice none 0 0, Value.int IntKind.i64 0] 107)
    simpa using this
  have n1 : W1.ownsRow B 9 1 nv (cs.map Cf.nm).length (strs (cs.map Cf.nm)) := owns_kept h.names (fun g hg => t1.block g (h.lt.2.2 g hg).2 (fun f => f))
  clear hW1
  refine (insert_any B nv (cs.map Cf.nm) _ n (w.heap.size + 1 + 1) W1 n1 hpos hlen v1 (fun e => by have := (h.lt.2.2 _ e).2; omega) (by have := h.base.2.2.2.2.2; omega)).mono ?_
  rintro e w2 ⟨nv', rfl, hown, hgrow, hloc⟩
  obtain ⟨na, ncap, hnv⟩ := owns_form hown
  obtain ⟨nl, hnl⟩ : ∃ nl, nl = (cs.map Cf.nm).length + 1 := ⟨_, rfl⟩
  rw [← hnl] at hnv hown
  subst hnv
  have HNL := Lib.hid hnl; clear hnl
  have hnb : ∀ g, nv.ownBlock = some g → g < w.heap.size := fun g hg => (h.lt.2.2 g hg).2
  have k2 : ∀ k, k < W1.heap.size → nv.ownBlock ≠ some k → w2.heap[k]? = W1.heap[k]? := fun k hk hne => hgrow.block k hk (fun e => hne e.symm)
  have pb2 : w2.heap[pb]? = some (.cells #[.map (some mb), nv, .int .i64 (left S), .int .i64 u, .bool S.down] 82 (0, 0)) := by
    rw [k2 pb (by omega) h.base.2.2.2.1, t1.block pb hlt (fun f => f)]; exact h.pblk
  have b52 := (k2 _ (by omega) (fun e => by have := hnb _ e; omega)).trans b5
  have b62 := (k2 _ (by omega) (fun e => by have := hnb _ e; omega)).trans b6
  have m2 : MapHas w2 mb cs := h.map.kept (by rw [k2 mb (by have := h.lt.2.1; omega) h.base.2.2.2.2.1, t1.block mb h.lt.2.1 (fun f => f)])
  have x0 : w2.cell? ⟨pb, 0, none⟩ = some (.map (some mb)) := by rw [cell_of_row w2 pb 0 _ _ (0, 0) pb2]; rfl
  have x1 : w2.cell? ⟨pb, 1, none⟩ = some nv := by rw [cell_of_row w2 pb 1 _ _ (0, 0) pb2]; rfl
  have x2 : w2.cell? ⟨pb, 2, none⟩ = some (.int .i64 (left S)) := by rw [cell_of_row w2 pb 2 _ _ (0, 0) pb2]; rfl
  have y1 : w2.frozen? ⟨pb, 1, none⟩ = false := by simp [World.frozen?, pb2]
  have y2 : w2.frozen? ⟨pb, 2, none⟩ = false := by simp [World.frozen?, pb2]
  have x5 : w2.cell? ⟨w.heap.size, 0, none⟩ = some (.slice xa xb.length xcap) := by rw [cell_of_row w2 _ 0 _ _ (0, 0) b52]; rfl
  have x6 : w2.cell? ⟨w.heap.size, 1, none⟩ = some (.int .i64 xsure) := by rw [cell_of_row w2 _ 1 _ _ (0, 0) b52]; rfl
  have x7 : w2.cell? ⟨w.heap.size + 1, 0, none⟩ = some (.slice none 0 0) := by rw [cell_of_row w2 _ 0 _ _ (0, 0) b62]; rfl
  have hl2 : W1.heap.size ≤ w2.heap.size := hgrow.size
  have PB := Lib.hid pb2; have M2 := Lib.hid m2; have K2 := Lib.hid k2; have OWN := Lib.hid hown; have GR := Lib.hid hgrow; have LOC := Lib.hid hloc; have NB := Lib.hid hnb
  clear pb2 m2 k2 hown hgrow hloc hnb b5 b6 b52 b62 v1 n1 fz
  have Z1 := Lib.hid z1
  have hz : w.heap.size + 3 ≤ w2.heap.size := by omega
  clear z1
  go_wp2
  go_region
  go_wp2
  generalize hW0 : World.drew _ = W0
  have d0 : W0.cell? ⟨pb, 0, none⟩ = some (.map (some mb)) := by rw [← hW0]; clear hW0; go_simp
  have d5 : W0.cell? ⟨w.heap.size, 0, none⟩ = some (.slice xa xb.length xcap) := by rw [← hW0]; clear hW0; go_simp
  have d6 : W0.cell? ⟨w.heap.size, 1, none⟩ = some (.int .i64 xsure) := by rw [← hW0]; clear hW0; go_simp
  have tw2 : Turn (core pb mb nv) w w2 := (t1.mono (fun _ _ f => f.elim)).grown GR.out (fun k hk => Or.inl (Or.inr (Or.inr hk)))
  have tw0 : Turn (fun k => k = pb) w2 W0 := by
    rw [← hW0]
    exact ((turn_head w2 pb 1 _).trans (turn_head _ pb 2 _)).drew 1
  have p0 : W0.heap[pb]? = some (.cells #[.map (some mb), .slice na nl ncap, .int .i64 (left S + -(xb.length : Int)), .int .i64 u, .bool S.down] 82 (0, 0)) := by
    rw [← hW0]
    exact heap_setCell_same _ pb 2 _ _ _ (heap_setCell_same w2 pb 1 _ _ _ PB.out)
  have m0 : MapHas W0.drew mb cs := M2.out.kept (tw0.block mb (by have := h.lt.2.1; omega) h.base.2.2.1)
  obtain ⟨w', hr, m1, hg⟩ := m0.store h.upc ⟨⟨n, xb, xsure⟩, .slice xa xb.length xcap⟩ hn (by unfold maxLen; omega)
  have hr' : (Instr.mapUpdate 80 (.map (some mb)) (.string (bs n)) (.agg #[.slice xa xb.length xcap, .int .i64 xsure])).run Tryz.prog W0.drew = .ok () w' := hr
  clear hr
  have HW := Lib.hid hW0; clear hW0
  have HP := Lib.hid p0; clear p0
  go_region
  have p1 : w'.heap[pb]? = W0.heap[pb]? := hg.block pb (by have := tw0.size; show pb < W0.heap.size; omega) (fun e => h.base.2.2.1 (by injection e with e; exact e.symm))
  have t2 : Turn (core pb mb nv) w W0 := tw2.trans (tw0.mono (fun k _ hk => Or.inl hk))
  have t3 : Turn (core pb mb nv) w w' := t2.grown (w' := w') (row := some mb) ⟨hg.os, hg.tape, hg.output, hg.size, hg.block⟩ (fun k hk => by cases hk; exact Or.inl (Or.inr (Or.inl rfl)))
  have hkeys : (ins Cf.nm (wo Cf.nm cs n) ⟨⟨n, xb, xsure⟩, .slice xa xb.length xcap⟩).map Cf.nm = (cs.map Cf.nm).take (pos id (cs.map Cf.nm) n) ++ [n] ++ (cs.map Cf.nm).drop (pos id (cs.map Cf.nm) n) := by
    have e1 := map_ins (k := id) Cf.nm cs ⟨⟨n, xb, xsure⟩, .slice xa xb.length xcap⟩
    have e2 := ins_at (k := id) (cs.map Cf.nm) n
    rw [wo_id hc]
    exact e1.trans e2
  have hkl : ((ins Cf.nm (wo Cf.nm cs n) ⟨⟨n, xb, xsure⟩, .slice xa xb.length xcap⟩).map Cf.nm).length = nl := by
    rw [wo_id hc, List.length_map, length_ins, HNL.out, List.length_map]
  have hblk : ∀ g, (Value.slice na nl ncap).ownBlock = some g → nv.ownBlock = some g ∨ w.heap.size ≤ g := fun g hg => by
    rcases LOC.out with e | e
    · exact Or.inl (e ▸ hg)
    · rw [e] at hg; cases hg; right; have := Z1.out; omega
  have hblk2 : (Value.slice na nl ncap).ownBlock = nv.ownBlock ∨ ∃ g, (Value.slice na nl ncap).ownBlock = some g ∧ w.heap.size ≤ g := by
    rcases LOC.out with e | e
    · exact Or.inl e
    · exact Or.inr ⟨_, e, by have := Z1.out; omega⟩
  go_end0
  refine ⟨rfl, .slice na nl ncap, h.putEnd hx ?_ m1 ?_ t3 hblk2, t3, hblk2⟩
  · rw [p1, HP.out, HL.out]
  · show w'.ownsRow B 9 1 _ ((ins Cf.nm (wo Cf.nm cs n) _).map Cf.nm).length (strs ((ins Cf.nm (wo Cf.nm cs n) _).map Cf.nm))
    rw [hkl, hkeys]
    refine owns_kept OWN.out (fun g hgn => ?_)
    have hg2 := (OWN.out.lt g hgn).2
    have hgm : g ≠ mb := fun e => by
      subst e
      rcases hblk g hgn with e | e
      · exact h.base.2.2.2.2.1 e
      · have := h.lt.2.1; omega
    have hgp : g ≠ pb := fun e => by
      subst e
      rcases hblk g hgn with e | e
      · exact h.base.2.2.2.1 e
      · omega
    rw [hg.block g (by have := tw0.size; show g < W0.heap.size; omega) (fun e => hgm (by injection e))]
    exact tw0.block g hg2 hgp

theorem len_le {S : St} (hg : Good S) {f : Fl} (hf : f ∈ S.fs) : f.bt.length ≤ 1048576 := by
  have h1 := len_le_total hf
  have h2 := hg.fits
  have h3 := hg.room
  omega

theorem put_any {B pb mb : Nat} {nv : Value} {u : Int} {cs : List Cf} {S : St} {w : World} {x : Cf} (h : Dk B w pb mb nv u cs S (fun m => m = x.nm)) (hx : PutIn B w pb mb nv cs S x) (hcs : cs.length < 1099511627776) :
    Calls Tryz.prog 72 #[.pointer (some ⟨pb, 0, none⟩), .string (bs x.nm), x.ent] w (PutPost B pb mb nv u cs S x w) := by
  obtain ⟨xa, xcap, hv⟩ := owns_form hx.row
  have hn : x.nm.length ≤ maxLen := by have := hx.right.2; unfold maxLen; omega
  have hxb : x.f.bt.length ≤ 1048576 := by
    have h1 : x.f ∈ (puts S x.f).fs := mem_ins.2 (Or.inl rfl)
    have h2 := len_le_total h1
    have h3 := hx.fits
    have h4 := h.good.room
    omega
  obtain ⟨⟨n, xb, xsure⟩, v⟩ := x
  dsimp only at hv hxb
  subst hv
  by_cases hc : ∃ c ∈ cs, c.nm = n
  · obtain ⟨c, hc, e⟩ := hc
    obtain ⟨ca, ccap, hcv⟩ := h.form c hc
    have hcb := len_le h.good (by rw [← h.fs]; exact List.mem_map_of_mem (f := Cf.f) hc)
    obtain ⟨⟨n', cb, csure⟩, v⟩ := c
    dsimp only at hcv hcb
    subst hcv
    obtain rfl : n' = n := e
    exact (put_there h hx hc hn hxb hcb hcs).mono fun e w' ⟨a1, a2, a3⟩ => ⟨a1, nv, a2, a3, Or.inl rfl⟩
  · exact put_new h hx (fun c hcc e => hc ⟨c, hcc, e⟩) hn hxb hcs
end Go.Proofs.YtmekkbhblghbmaaGreatDoor.D

/- A file is taken away. -/
namespace Go.Proofs.YtmekkbhblghbmaaGreatDoor.D
set_option maxRecDepth 100000
open Go.RowKit Go.Maps

theorem field_file (a : Option Addr) (l c : Nat) (k : Int) (W : World) : (Instr.field 107 (.agg #[.slice a l c, .int .i64 k]) 0).run Tryz.prog W = .ok (.slice a l c) W := by kernel_rfl

/-- What is behind a file that was taken away. -/
def DropPost (B pb mb : Nat) (nv : Value) (u : Int) (cs : List Cf) (S : St) (hole : List UInt8 → Prop) (n : List UInt8) (w : World) (e : Ending) (w' : World) : Prop :=
  e = .returned (.tuple #[]) ∧ ∃ nv', Dk B w' pb mb nv' u (wo Cf.nm cs n) { S with fs := wo Fl.nm S.fs n } hole ∧ Turn (core pb mb nv) w w' ∧ nv'.ownBlock = nv.ownBlock

theorem Dk.dropEnd {B pb mb : Nat} {nv nv' : Value} {u : Int} {cs : List Cf} {S : St} {hole : List UInt8 → Prop} {n : List UInt8} {w w' : World} (h : Dk B w pb mb nv u cs S hole)
    (hp : w'.heap[pb]? = some (.cells #[.map (some mb), nv', .int .i64 (left { S with fs := wo Fl.nm S.fs n }), .int .i64 u, .bool S.down] 82 (0, 0)))
    (hm : MapHas w' mb (wo Cf.nm cs n)) (hn : w'.ownsRow B 9 1 nv' ((wo Cf.nm cs n).map Cf.nm).length (strs ((wo Cf.nm cs n).map Cf.nm)))
    (ht : Turn (core pb mb nv) w w') (hl : nv'.ownBlock = nv.ownBlock) : Dk B w' pb mb nv' u (wo Cf.nm cs n) { S with fs := wo Fl.nm S.fs n } hole := by
  obtain ⟨b1, b2, b3, b4, b5, b6⟩ := h.base
  obtain ⟨g1, g2, g3, g4, g5, g6⟩ := h.good
  have hfs : (wo Cf.nm cs n).map Cf.f = wo Fl.nm S.fs n := by
    rw [← h.fs]; exact map_wo (k := Fl.nm) Cf.f cs n
  have htot : total (wo Fl.nm S.fs n) ≤ total S.fs := by
    by_cases hx : ∃ f ∈ S.fs, f.nm = n
    · obtain ⟨f, hf, rfl⟩ := hx
      have := total_wo g1 hf
      omega
    · rw [wo_id (fun f hf e => hx ⟨f, hf, e⟩)]
      exact Nat.le_refl _
  refine ⟨hp, h.fuse, hm, hn, hfs, ?_, ?_, ?_, ⟨b1, b2, b3, by rw [hl]; exact b4, by rw [hl]; exact b5, Nat.le_trans b6 ht.size⟩, ⟨up_wo g1 n, fun f hf => g2 f (mem_wo.1 hf).1, fun f hf => g3 f (mem_wo.1 hf).1, ?_, g5, g6⟩⟩
  · intro c hc hh
    have hc := (mem_wo.1 hc).1
    refine owns_kept (h.rows c hc hh) (fun g hg => ?_)
    obtain ⟨a1, a2, a3, _, a5, _⟩ := h.apart c hc g hg
    refine ht.block g a5 (fun hco => ?_)
    rcases hco with e | e | e
    · exact a1 e
    · exact a2 e
    · exact a3 e
  · exact fun c hc => h.form c (mem_wo.1 hc).1
  · intro c hc g hg
    obtain ⟨a1, a2, a3, a4, a5, a6⟩ := h.apart c (mem_wo.1 hc).1 g hg
    exact ⟨a1, a2, by rw [hl]; exact a3, a4, Nat.lt_of_lt_of_le a5 ht.size, fun d hd => a6 d (mem_wo.1 hd).1⟩
  · dsimp only
    omega

set_option maxHeartbeats 2000000 in
theorem drop_at {B pb mb : Nat} {nv : Value} {u : Int} {cs : List Cf} {S : St} {hole : List UInt8 → Prop} {w : World} {n : List UInt8} {cb : List UInt8} {csure : Nat} {ca : Option Addr} {ccap : Nat}
    (h : Dk B w pb mb nv u cs S hole) (hc : (⟨⟨n, cb, csure⟩, .slice ca cb.length ccap⟩ : Cf) ∈ cs) (hn : n.length ≤ maxLen) (hcb : cb.length ≤ 1048576) (hcs : cs.length < 1099511627776) :
    Calls Tryz.prog 85 #[.pointer (some ⟨pb, 0, none⟩), .string (bs n)] w (DropPost B pb mb nv u cs S hole n w) := by
  obtain ⟨c0, c1, c2, c3, c4, fz⟩ := h.cells
  obtain ⟨i1, i2, i3, i4⟩ := h.ints
  have hlt := h.lt.1
  have hleft : left { S with fs := wo Fl.nm S.fs n } = left S + (cb.length : Int) := by
    have hcf : (⟨n, cb, csure⟩ : Fl) ∈ S.fs := by rw [← h.fs]; exact List.mem_map_of_mem (f := Cf.f) hc
    have := total_wo h.good.up hcf
    simp only [left]
    dsimp only at this ⊢
    omega
  have HL := Lib.hid hleft; clear hleft
  have hlen : (cs.map Cf.nm).length < 1099511627776 := by simpa using hcs
  have hpos : pos id (cs.map Cf.nm) n < (cs.map Cf.nm).length := pos_lt (k := id) ((up_map (k := id) Cf.nm cs).2 h.upc) (List.mem_map_of_mem (f := Cf.nm) hc)
  have hup : Up id (cs.map Cf.nm) := (up_map (k := id) Cf.nm cs).2 h.upc
  have HU := Lib.hid hup; clear hup
  clear fz
  go_enter Tryz.func85, Tryz.ntmps85
  go_wp2_with (first
    | (go_at_call 115; refine (search_any B nv (cs.map Cf.nm) n _ h.names HU.out hlen).mono ?_; rintro e w1 ⟨q, y, rfl, rfl⟩)
    | fail)
  refine (delete_any B nv (cs.map Cf.nm) _ (w.drewN q) h.names hpos hlen).mono ?_
  rintro e w2 ⟨nv', rfl, hown, hgrow, hloc⟩
  obtain ⟨na, ncap, hnv⟩ := owns_form hown
  obtain ⟨nl, hnl⟩ : ∃ nl, nl = (cs.map Cf.nm).length - 1 := ⟨_, rfl⟩
  rw [← hnl] at hnv hown
  subst hnv
  have HNL := Lib.hid hnl; clear hnl
  have k2 : ∀ k, k < w.heap.size → nv.ownBlock ≠ some k → w2.heap[k]? = w.heap[k]? := fun k hk hne => hgrow.block k hk (fun e => hne e.symm)
  have pb2 : w2.heap[pb]? = some (.cells #[.map (some mb), nv, .int .i64 (left S), .int .i64 u, .bool S.down] 82 (0, 0)) := by
    rw [k2 pb hlt h.base.2.2.2.1]; exact h.pblk
  have m2 : MapHas w2 mb cs := h.map.kept (k2 mb h.lt.2.1 h.base.2.2.2.2.1)
  have x0 : w2.cell? ⟨pb, 0, none⟩ = some (.map (some mb)) := by rw [cell_of_row w2 pb 0 _ _ (0, 0) pb2]; rfl
  have x1 : w2.cell? ⟨pb, 1, none⟩ = some nv := by rw [cell_of_row w2 pb 1 _ _ (0, 0) pb2]; rfl
  have x2 : w2.cell? ⟨pb, 2, none⟩ = some (.int .i64 (left S)) := by rw [cell_of_row w2 pb 2 _ _ (0, 0) pb2]; rfl
  have y1 : w2.frozen? ⟨pb, 1, none⟩ = false := by simp [World.frozen?, pb2]
  have y2 : w2.frozen? ⟨pb, 2, none⟩ = false := by simp [World.frozen?, pb2]
  have t2 : Turn (core pb mb nv) w w2 := ((Turn.refl _ w).drew q).grown hgrow (fun k hk => Or.inl (Or.inr (Or.inr hk)))
  have PB := Lib.hid pb2; have M2 := Lib.hid m2; have K2 := Lib.hid k2; have OWN := Lib.hid hown; have GR := Lib.hid hgrow; have LOC := Lib.hid hloc
  clear pb2 m2 k2 hown hgrow hloc
  go_wp2
  generalize hW1 : World.setCell _ _ _ = W1
  have tw1 : Turn (fun k => k = pb) w2 W1 := by rw [← hW1]; exact turn_head w2 pb 1 _
  have d0 : W1.cell? ⟨pb, 0, none⟩ = some (.map (some mb)) := by rw [← hW1]; clear hW1; go_simp
  have d2 : W1.cell? ⟨pb, 2, none⟩ = some (.int .i64 (left S)) := by rw [← hW1]; clear hW1; go_simp
  have d3 : W1.frozen? ⟨pb, 2, none⟩ = false := by rw [← hW1]; clear hW1; go_simp
  have p1 : W1.heap[pb]? = some (.cells #[.map (some mb), .slice na nl ncap, .int .i64 (left S), .int .i64 u, .bool S.down] 82 (0, 0)) := by
    rw [← hW1]; exact heap_setCell_same w2 pb 1 _ _ _ PB.out
  have hmb : mb < w2.heap.size := by have := t2.size; have := h.lt.2.1; omega
  have m1 : MapHas W1 mb cs := M2.out.kept (tw1.block mb hmb h.base.2.2.1)
  have hlook : (Instr.lookup 80 (.map (some mb)) (.string (bs n)) false).run Tryz.prog W1.drew = .ok (.agg #[.slice ca cb.length ccap, .int .i64 csure]) W1.drew := (MapHas.look_yes (w := W1.drew) m1 hc hn).1
  have hfield := field_file ca cb.length ccap csure W1.drew
  have HW1 := Lib.hid hW1; clear hW1
  have P1 := Lib.hid p1; have M1 := Lib.hid m1; clear p1 m1
  go_region
  generalize hW2 : World.drew _ = W2
  have e0 : W2.cell? ⟨pb, 0, none⟩ = some (.map (some mb)) := by rw [← hW2]; clear hW2; go_simp
  have tw2 : Turn (fun k => k = pb) W1 W2 := by rw [← hW2]; exact (turn_head W1 pb 2 _).drew 1
  have p2 : W2.heap[pb]? = some (.cells #[.map (some mb), .slice na nl ncap, .int .i64 (left S + (cb.length : Int)), .int .i64 u, .bool S.down] 82 (0, 0)) := by
    rw [← hW2]; exact heap_setCell_same W1 pb 2 _ _ _ P1.out
  have m3 : MapHas W2 mb cs := M1.out.kept (tw2.block mb (by have := tw1.size; omega) h.base.2.2.1)
  obtain ⟨w', hr, m4, hg⟩ : ∃ w', (∀ ty, (Builtin.delete_ #[80, 9] ty #[.map (some mb), .string (bs n)]).run Tryz.prog W2 = .ok (.tuple #[]) w') ∧ MapHas w' mb (wo Cf.nm cs n) ∧ W2.grownBy w' (some mb) := by
    obtain ⟨w', hr, m4, hg⟩ := m3.drop h.upc hc hn 0
    exact ⟨w', fun ty => hr, m4, hg⟩
  have HR := Lib.hid hr; clear hr
  have HW2 := Lib.hid hW2; clear hW2
  have P2 := Lib.hid p2; clear p2
  go_wp2_with (first
    | (at_delete; refine wpList_delete_run _ rfl _ _ _ _ rfl _ _ rfl rfl w' HR.out ?_)
    | fail)
  have tA : Turn (core pb mb nv) w W2 := (t2.trans (tw1.mono (fun k _ hk => Or.inl hk))).trans (tw2.mono (fun k _ hk => Or.inl hk))
  have tB : Turn (core pb mb nv) w w' := tA.grown hg (fun k hk => by cases hk; exact Or.inl (Or.inr (Or.inl rfl)))
  have hpbl : pb < W2.heap.size := by have := tA.size; omega
  have hkeys : (wo Cf.nm cs n).map Cf.nm = (cs.map Cf.nm).take (pos id (cs.map Cf.nm) n) ++ (cs.map Cf.nm).drop (pos id (cs.map Cf.nm) n + 1) := by
    have e1 := map_wo (k := id) Cf.nm cs n
    have e2 := wo_at (k := id) (c := n) HU.out (List.mem_map_of_mem (f := Cf.nm) hc)
    exact e1.trans e2
  have hkl : ((wo Cf.nm cs n).map Cf.nm).length = nl := by
    rw [hkeys, HNL.out, List.length_append, List.length_take, List.length_drop]
    omega
  go_end0
  refine ⟨rfl, .slice na nl ncap, h.dropEnd ?_ m4 ?_ tB LOC.out, tB, LOC.out⟩
  · rw [hg.block pb hpbl (fun e => h.base.2.2.1 (by injection e with e; exact e.symm)), P2.out, HL.out]
  · rw [hkl, hkeys]
    refine owns_kept OWN.out (fun g hgn => ?_)
    have hgn' : nv.ownBlock = some g := LOC.out ▸ hgn
    have hg2 := (OWN.out.lt g hgn).2
    rw [hg.block g (by have := tw1.size; have := tw2.size; omega) (fun e => h.base.2.2.2.2.1 (by injection e with e; rw [← e]; exact hgn')),
      tw2.block g (by have := tw1.size; omega) (fun e => h.base.2.2.2.1 (e ▸ hgn')), tw1.block g hg2 (fun e => h.base.2.2.2.1 (e ▸ hgn'))]

theorem drop_any {B pb mb : Nat} {nv : Value} {u : Int} {cs : List Cf} {S : St} {hole : List UInt8 → Prop} {w : World} {c : Cf} (h : Dk B w pb mb nv u cs S hole) (hc : c ∈ cs) (hcs : cs.length < 1099511627776) :
    Calls Tryz.prog 85 #[.pointer (some ⟨pb, 0, none⟩), .string (bs c.nm)] w (DropPost B pb mb nv u cs S hole c.nm w) := by
  obtain ⟨ca, ccap, hcv⟩ := h.form c hc
  have hcf : c.f ∈ S.fs := by rw [← h.fs]; exact List.mem_map_of_mem (f := Cf.f) hc
  have hcb := len_le h.good hcf
  have hn : c.nm.length ≤ maxLen := by have := (h.good.names c.f hcf).2; unfold Cf.nm maxLen; omega
  obtain ⟨⟨n', cb, csure⟩, v⟩ := c
  dsimp only at hcv hcb
  subst hcv
  exact drop_at h hc hn hcb hcs
end Go.Proofs.YtmekkbhblghbmaaGreatDoor.D

/- A string's bytes are appended to a row of bytes that the program owns. -/
namespace Go.Proofs.YtmekkbhblghbmaaGreatDoor.D
set_option maxRecDepth 100000
open Go.RowKit Go.Maps

theorem infoU8 : (Tryz.prog.info? 5).map (fun i => (i.zero, i.size, i.bytes)) = some (some (.int .u8 0), 1, 1) := by kernel_rfl

theorem bytes_one (l : List UInt8) : ∀ u ∈ bytesOf l, u.oneCell' = true := fun u hu => by
  obtain ⟨_, _, rfl⟩ := List.mem_map.1 hu
  rfl
theorem bytes_app (l b : List UInt8) : bytesOf (l ++ b) = bytesOf l ++ bytesOf b := by simp [bytesOf]

theorem run_append_str {B : Nat} {v : Value} {l : List UInt8} {w : World} (h : w.ownsRow B 5 1 v l.length (bytesOf l)) (b : List UInt8) (hb : l.length + b.length ≤ 1099511627776) (hB : B ≤ w.heap.size) (ty : TypeId) :
    ∃ v' w', (Builtin.append_ #[105, 9] ty #[v, .string (bs b)]).run Tryz.prog w = .ok v' w' ∧ w'.ownsRow B 5 1 v' (l ++ b).length (bytesOf (l ++ b)) ∧ w.grownBy w' v.ownBlock ∧
      (v'.ownBlock = v.ownBlock ∨ v'.ownBlock = some w.heap.size) := by
  obtain ⟨i0, hi, hz0, hz1, hz2⟩ := info_parts infoU8
  have hbl : (byteCells (bs b)) = bytesOf b := rfl
  have hsrc : Src Tryz.prog i0.size 9 (.string (bs b)) b.length (bytesOf b) w := by
    have := Src.ofString (P := Tryz.prog) w Tryz.underlying9 (bs b)
    rw [bs_size, hbl] at this
    rw [hz1]; exact this
  have hlen : (l ++ b).length = l.length + b.length := List.length_append
  have hz : ∀ k, (Builtin.zeroCells (Value.int .u8 0).cells k).size = k := fun k => by rw [size_zeroCells]; simp [Value.cells]
  have grow : ∀ (base : Option Addr) (cap : Nat), cap < l.length + b.length → (Builtin.firstCells i0.size l.length (.slice base l.length cap)).run Tryz.prog w.drew = .ok (bytesOf l).toArray w.drew →
      v = .slice base l.length cap → l.length ≤ cap → ∃ v' w', (Builtin.append_ #[105, 9] ty #[v, .string (bs b)]).run Tryz.prog w = .ok v' w' ∧ w'.ownsRow B 5 1 v' (l ++ b).length (bytesOf (l ++ b)) ∧ w.grownBy w' v.ownBlock ∧
      (v'.ownBlock = v.ownBlock ∨ v'.ownBlock = some w.heap.size) := by
    intro base cap hcap hold hv hlc
    have hr := run_append_grow_src (P := Tryz.prog) w 105 9 ty 5 i0 _ Tryz.underlying105 hi hz0 base l.length cap (bytesOf l) hold (.string (bs b)) b.length (bytesOf b) hsrc hcap (by omega)
      (growslice_fits (by omega) (by rw [hz2]; omega))
    have hge := grownCap_ge w (l.length + b.length) cap 5
    refine ⟨_, _, by rw [hv]; exact hr, ?_, (grown_drewN 1 w _).trans (World.grownBy_alloc _ _ _), Or.inr rfl⟩
    rw [hlen]
    refine owns_of_cells hB (heap_alloc_new _ _) ?_ hge (grownCap_le_maxLen w _ _ _ (by unfold maxLen; omega)) (by rw [bytesOf_len, hlen]) (fun j hj => ?_)
    · simp only [Array.size_append, List.size_toArray, List.length_append, bytesOf_len, hz]
      omega
    · have : j < ((bytesOf l ++ bytesOf b).toArray).size := by simp [bytesOf_len]; omega
      rw [Array.getElem?_append_left this, bytes_app]
      simp
  rcases owns_cases h with ⟨rfl, h0, _⟩ | ⟨g, cap, cur, rfl, hBg, hgl, hg, hcap, hcm, hs, hl, hcur, hcell, hsome, hfz⟩
  · obtain rfl : l = [] := List.eq_nil_of_length_eq_zero h0
    by_cases hb0 : b = []
    · subst hb0
      have hr := run_append_nothing w 105 9 ty 5 i0 Tryz.underlying105 hi none 0 0 (Nat.le_refl _) (.string (bs [])) hsrc
      exact ⟨_, _, hr, World.ownsRow_nil _ _ _ _, ⟨rfl, rfl, rfl, Nat.le_refl _, fun _ _ _ => rfl⟩, Or.inl rfl⟩
    · have hbp : 0 < b.length := List.length_pos_iff.2 hb0
      exact grow none 0 (by simpa using hbp) (by rw [hz1]; exact run_firstCells_none w.drew 1 0 0 0) rfl (Nat.le_refl _)
  · by_cases hroom : l.length + b.length ≤ cap
    · have hr := run_append_room_src (P := Tryz.prog) w 105 9 ty 5 i0 Tryz.underlying105 hi g 0 l.length cap (.string (bs b)) b.length (bytesOf b) hsrc hroom
        (fun j hj => by rw [hz1, Nat.zero_add, Nat.mul_one]; rw [bytesOf_len] at hj; exact hsome _ (by omega)) (fun j _ => by rw [hz1, Nat.zero_add]; exact hfz _)
      rw [hz1, Nat.zero_add, Nat.mul_one] at hr
      obtain ⟨cur1, k1, k2, k3⟩ := block_setCells g 5 (bytesOf b) l.length w cur hg (by rw [bytesOf_len]; omega)
      refine ⟨_, _, hr, ?_, grown_setCells g _ _ _, Or.inl rfl⟩
      rw [hlen]
      refine owns_of_cells hBg k1 (by omega) hroom hcm (by rw [bytesOf_len, hlen]) (fun j hj => ?_)
      rw [k3 j, bytesOf_len, bytes_app]
      by_cases hj2 : j < l.length
      · rw [if_neg (by omega), List.getElem?_append_left (by rw [bytesOf_len]; omega), hcur j hj2]
      · rw [if_pos (by omega), List.getElem?_append_right (by rw [bytesOf_len]; omega), bytesOf_len]
    · refine grow _ cap (by omega) ?_ rfl hcap
      rw [hz1]
      refine run_firstCells_some w.drew 1 l.length ⟨g, 0, none⟩ l.length cap (bytesOf l) (by rw [bytesOf_len, Nat.mul_one]) (fun j u hu => ?_)
      have hj : j < l.length := by rw [← bytesOf_len l]; exact (List.getElem?_eq_some_iff.1 hu).1
      rw [Addr.add_lit, Nat.zero_add]
      show w.cell? _ = _
      rw [hcell j hj, hu]

end Go.Proofs.YtmekkbhblghbmaaGreatDoor.D

/- The calls of a disk, one by one, as its user sees them. -/
namespace Go.Proofs.YtmekkbhblghbmaaGreatDoor.D
set_option maxRecDepth 100000
open Go.RowKit Go.Maps

/-- A disk that lies in the blocks F, among those from B on. -/
def DkS (B : Nat) (w : World) (pb : Nat) (F : Nat → Prop) (S : St) : Prop := ∃ mb nv u cs, Dk B w pb mb nv u cs S none' ∧ ∀ k, foot pb mb nv cs k ↔ F k

/-- What is behind a call: its answer, the disk, what has turned. -/
def DkPost (B pb : Nat) (F : Nat → Prop) (S' : St) (r : Value) (w : World) (e : Ending) (w' : World) : Prop :=
  e = .returned r ∧ ∃ F', DkS B w' pb F' S' ∧ (∀ k, F' k → F k ∨ w.heap.size ≤ k) ∧ Turn F w w'

theorem DkS.good {B pb : Nat} {w : World} {F : Nat → Prop} {S : St} (h : DkS B w pb F S) : Good S := by obtain ⟨_, _, _, _, h, _⟩ := h; exact h.good
theorem DkS.lt {B pb : Nat} {w : World} {F : Nat → Prop} {S : St} (h : DkS B w pb F S) {k : Nat} (hk : F k) : B ≤ k ∧ k < w.heap.size := by
  obtain ⟨_, _, _, _, h, hF⟩ := h
  exact h.footLt ((hF k).2 hk)
theorem DkS.kept {B pb : Nat} {w w' : World} {F G : Nat → Prop} {S : St} (h : DkS B w pb F S) (t : Turn G w w') (hG : ∀ k, k < w.heap.size → F k → ¬ G k) : DkS B w' pb F S := by
  obtain ⟨mb, nv, u, cs, h, hF⟩ := h
  refine ⟨mb, nv, u, cs, h.kept t (fun k hk hm => hG k hk ((hF k).1 ?_)), hF⟩
  rcases hm with hm | ⟨c, hc, _, hm⟩
  · exact Or.inl hm
  · exact Or.inr ⟨c, hc, hm⟩

section
variable {B pb mb : Nat} {nv : Value} {u : Int} {cs : List Cf} {S : St} {w w' : World} {hole : List UInt8 → Prop}

theorem left_burnt (S : St) : left (burnt S) = left S := by unfold left burnt; split <;> rfl
theorem fs_burnt (S : St) : (burnt S).fs = S.fs := by unfold burnt; split <;> rfl
theorem room_burnt (S : St) : (burnt S).room = S.room := by unfold burnt; split <;> rfl

theorem burn_is (h : Dk B w pb mb nv u cs S hole) {b : Bool} (hb : burns S = b) :
    Calls Tryz.prog 71 #[.pointer (some ⟨pb, 0, none⟩)] w fun e w' => e = .returned (.bool b) ∧ ∃ u', Dk B w' pb mb nv u' cs (burnt S) hole ∧ Turn (fun k => k = pb) w w' := by
  subst hb; exact burn_any h

theorem valid_is {n : List UInt8} {b : Bool} (hb : rightName n = b) (hn : n.length ≤ maxLen) (w : World) :
    Calls Tryz.prog 79 #[.string (bs n)] w fun e w' => e = .returned (.bool b) ∧ w = w' := by
  subst hb; exact valid_any n w hn

theorem rightName_iff {n : List UInt8} : rightName n = true ↔ 1 ≤ n.length ∧ n.length ≤ 20 := by simp [rightName]

theorem Dk.has (h : Dk B w pb mb nv u cs S hole) {n : List UInt8} {f : Fl} (hf : find S.fs n = some f) : ∃ v, (⟨f, v⟩ : Cf) ∈ cs ∧ f.nm = n := by
  obtain ⟨h1, h2⟩ := find_mem hf
  rw [← h.fs, List.mem_map] at h1
  obtain ⟨⟨f', v⟩, hc, rfl⟩ := h1
  exact ⟨v, hc, h2⟩
theorem Dk.hasNot (h : Dk B w pb mb nv u cs S hole) {n : List UInt8} (hf : find S.fs n = none) : ∀ c ∈ cs, c.nm ≠ n := fun c hc => find_none hf c.f (by rw [← h.fs]; exact List.mem_map_of_mem (f := Cf.f) hc)
theorem Dk.len (h : Dk B w pb mb nv u cs S hole) : cs.length = S.fs.length := by rw [← h.fs, List.length_map]

/-- The file that a name stands for, or one without bytes. -/
structure Fetch (B : Nat) (w : World) (pb mb : Nat) (nv : Value) (cs : List Cf) (S : St) (n : List UInt8) (v : Value) (cb : List UInt8) (k : Nat) : Prop where
  row : w.ownsRow B 5 1 v cb.length (bytesOf cb)
  apart : ∀ g, v.ownBlock = some g → g ≠ pb ∧ g ≠ mb ∧ nv.ownBlock ≠ some g ∧ g < w.heap.size ∧ (∃ c ∈ cs, c.v.ownBlock = some g) ∧ ∀ d ∈ cs, d.nm ≠ n → d.v.ownBlock ≠ some g
  look : ∀ W : World, W.heap[mb]? = w.heap[mb]? → (Instr.lookup 80 (.map (some mb)) (.string (bs n)) false).run Tryz.prog W = .ok (.agg #[v, .int .i64 k]) W
  sure : k ≤ cb.length
  is : (∃ f, find S.fs n = some f ∧ f.nm = n ∧ f.bt = cb ∧ f.sure = k) ∨ (find S.fs n = none ∧ cb = [] ∧ k = 0)

theorem Dk.fetch (h : Dk B w pb mb nv u cs S none') (n : List UInt8) (hn : n.length ≤ maxLen) : ∃ a c cb k, Fetch B w pb mb nv cs S n (.slice a cb.length c) cb k := by
  cases hf : find S.fs n with
  | none =>
    refine ⟨none, 0, [], 0, World.ownsRow_nil _ _ _ _, (fun g hg => by cases hg), fun W hW => ?_, Nat.le_refl _, Or.inr ⟨hf, rfl, rfl⟩⟩
    exact ((h.map.kept hW).look_no (h.hasNot hf) hn).1
  | some f =>
    obtain ⟨v, hc, hfn⟩ := h.has hf
    obtain ⟨a, cap, hv⟩ := h.form _ hc
    dsimp only at hv
    subst hv
    refine ⟨a, cap, f.bt, f.sure, h.rows _ hc (fun f => f), fun g hg => ?_, fun W hW => ?_, h.good.sure f (find_mem hf).1, Or.inl ⟨f, hf, hfn, rfl, rfl⟩⟩
    · obtain ⟨a1, a2, a3, a4, a5, a6⟩ := h.apart _ hc g hg
      exact ⟨a1, a2, a3, a5, ⟨_, hc, hg⟩, fun d hd hdn => a6 d hd (by show d.nm ≠ f.nm; rw [hfn]; exact hdn)⟩
    · subst hfn
      exact ((h.map.kept hW).look_yes hc hn).1

/-- Behind a file that was put in: the blocks. -/
theorem foot_put {nv' : Value} {x : Cf} {F : Nat → Prop} {n0 : Nat} (hF : ∀ k, foot pb mb nv cs k ↔ F k) (hl : nv'.ownBlock = nv.ownBlock ∨ ∃ g, nv'.ownBlock = some g ∧ n0 ≤ g)
    (hx : ∀ g, x.v.ownBlock = some g → F g ∨ n0 ≤ g) : ∀ k, foot pb mb nv' (ins Cf.nm (wo Cf.nm cs x.nm) x) k → F k ∨ n0 ≤ k := by
  rintro k ((rfl | rfl | hk) | ⟨c, hc, hk⟩)
  · exact Or.inl ((hF _).1 (Or.inl (Or.inl rfl)))
  · exact Or.inl ((hF _).1 (Or.inl (Or.inr (Or.inl rfl))))
  · rcases hl with e | ⟨g, e, hg⟩
    · exact Or.inl ((hF _).1 (Or.inl (Or.inr (Or.inr (e ▸ hk)))))
    · rw [e] at hk; cases hk; exact Or.inr hg
  · rcases mem_ins.1 hc with rfl | hc
    · exact hx k hk
    · exact Or.inl ((hF _).1 (Or.inr ⟨c, (mem_wo.1 hc).1, hk⟩))
end

/-! ### Append -/
set_option maxHeartbeats 2000000 in
theorem append_go {B pb mb : Nat} {nv : Value} {u : Int} {cs : List Cf} {S : St} {w : World} {F : Nat → Prop} {n b : List UInt8} (h : Dk B w pb mb nv u cs S none') (hF : ∀ k, foot pb mb nv cs k ↔ F k) (hcs : cs.length < 1000000000)
    (hr : rightName n = true) (hbu : burns S = true) (hfit : (b.length : Int) ≤ left S) :
    Calls Tryz.prog 34 #[.pointer (some ⟨pb, 0, none⟩), .string (bs n), .string (bs b)] w
      (DkPost B pb F (puts (burnt S) (apF S n b)) (.int .i64 0) w) := by
  obtain ⟨r1, r2⟩ := rightName_iff.1 hr
  have hn : n.length ≤ maxLen := by unfold maxLen; omega
  have hV := valid_is hr hn w
  have HR := Lib.hid hr; have HB := Lib.hid hbu; clear hr hbu
  have hbs : ((bs b).size : Int) ≤ left S := by rw [bs_size]; exact hfit
  obtain ⟨i1, i2, _, _⟩ := h.ints
  go_enter Tryz.func34, Tryz.ntmps34
  go_wp2_with fail
  refine hV.mono ?_
  rintro e w1 ⟨rfl, rfl⟩
  go_wp2_with fail
  refine (burn_is h HB.out).mono ?_
  rintro e w1 ⟨rfl, u', h1, t1⟩
  obtain ⟨c0, c1, c2, c3, c4, fz⟩ := h1.cells
  rw [left_burnt] at c2
  clear fz
  obtain ⟨fa, fc, cb, k, fe⟩ := h1.fetch n hn
  have hmb1 := h1.lt.2.1
  have hx : apF S n b = ⟨n, cb ++ b, k⟩ := by
    unfold apF
    rcases fe.is with ⟨f, hf, e1, e2, e3⟩ | ⟨hf, e2, e3⟩
    · rw [fs_burnt] at hf
      rw [hf]
      cases f
      simp_all
    · rw [fs_burnt] at hf
      rw [hf, e2, e3]
      simp
  have hbtot : cb.length + b.length ≤ 1048576 ∧ ((total (puts (burnt S) ⟨n, cb ++ b, k⟩).fs : Nat) : Int) ≤ (burnt S).room := by
    have hg := h.good
    have g4 := hg.room
    have hle : (b.length : Int) ≤ S.room - total S.fs := hfit
    rcases fe.is with ⟨f, hf, e1, e2, e3⟩ | ⟨hf, e2, e3⟩
    · rw [fs_burnt] at hf
      have hm := find_mem hf
      have h2 := total_wo hg.up hm.1
      rw [hm.2, e2] at h2
      have h3 : total (puts (burnt S) ⟨n, cb ++ b, k⟩).fs = total (wo Fl.nm S.fs n) + (cb ++ b).length := by
        simp only [puts, total_ins, fs_burnt]
      rw [h3, room_burnt, List.length_append]
      omega
    · rw [fs_burnt] at hf
      have h3 : total (puts (burnt S) ⟨n, cb ++ b, k⟩).fs = total S.fs + (cb ++ b).length := by
        simp only [puts, total_ins, fs_burnt]
        rw [wo_id (find_none hf)]
      rw [h3, room_burnt, e2, List.nil_append, List.length_nil]
      omega
  obtain ⟨hb1, hb2⟩ := hbtot
  obtain ⟨v', w2, hrun, hown, hgr, hloc⟩ : ∃ v' w2, (∀ ty, (Builtin.append_ #[105, 9] ty #[.slice fa cb.length fc, .string (bs b)]).run Tryz.prog (w1.alloc (.cells #[.slice fa cb.length fc, .int .i64 k] 107)) = .ok v' w2) ∧ w2.ownsRow B 5 1 v' (cb ++ b).length (bytesOf (cb ++ b)) ∧
      (w1.alloc (.cells #[.slice fa cb.length fc, .int .i64 k] 107)).grownBy w2 (Value.slice fa cb.length fc).ownBlock ∧ (v'.ownBlock = (Value.slice fa cb.length fc).ownBlock ∨ v'.ownBlock = some (w1.heap.size + 1)) := by
    have h2 := h1.alloc (.cells #[.slice fa cb.length fc, .int .i64 k] 107)
    obtain ⟨v', w2, q1, q2, q3, q4⟩ := run_append_str (fe.row.alloc (.cells #[.slice fa cb.length fc, .int .i64 k] 107)) b (by omega) h2.base.2.2.2.2.2 0
    exact ⟨v', w2, fun _ => q1, q2, q3, q4.imp id (fun e => e.trans (by simp))⟩
  obtain ⟨na, nc, hnv⟩ := owns_form hown
  obtain ⟨nl, hnl⟩ : ∃ nl, nl = (cb ++ b).length := ⟨_, rfl⟩
  rw [← hnl] at hnv
  subst hnv
  have hne : ∀ g, (Value.slice fa cb.length fc).ownBlock = some g → g < w1.heap.size := fun g hg => (fe.apart g hg).2.2.2.1
  have bw : w2.heap[w1.heap.size]? = some (.cells #[.slice fa cb.length fc, .int .i64 k] 107 (0, 0)) := by
    rw [hgr.block w1.heap.size (by simp) (fun e => by have := hne _ e.symm; omega)]
    exact heap_alloc_new w1 _
  have x0 : w2.cell? ⟨w1.heap.size, 0, none⟩ = some (.slice fa cb.length fc) := by rw [cell_of_row w2 _ 0 _ _ (0, 0) bw]; rfl
  have x1 : w2.cell? ⟨w1.heap.size, 1, none⟩ = some (.int .i64 k) := by rw [cell_of_row w2 _ 1 _ _ (0, 0) bw]; rfl
  have y0 : w2.frozen? ⟨w1.heap.size, 0, none⟩ = false := by simp [World.frozen?, bw]
  have t2 : Turn (fun g => (Value.slice fa cb.length fc).ownBlock = some g) w1 w2 := ((Turn.refl _ w1).alloc _).grown hgr (fun g hg => Or.inl hg)
  have HRUN := Lib.hid hrun; have HOWN := Lib.hid hown; have HGR := Lib.hid hgr; have HLOC := Lib.hid hloc; have HX := Lib.hid hx; have HNL := Lib.hid hnl; have BW := Lib.hid bw
  clear hrun hown hgr hloc hx hnl bw
  go_wp2_with (first
    | (at_lookup; refine wpList_lookup_run _ rfl _ _ _ _ rfl _ _ rfl rfl _ (fe.look _ rfl) ?_)
    | (at_builtin; refine wpList_append_run _ rfl _ _ _ _ rfl _ _ rfl rfl _ _ HRUN.out ?_)
    | fail)
  have hgu := h1.good
  have t3 : Turn (fun g => (Value.slice fa cb.length fc).ownBlock = some g) w1 (w2.setCell ⟨w1.heap.size, 0, none⟩ (.slice na nl nc)) := t2.setNew (p := ⟨w1.heap.size, 0, none⟩) (Nat.le_refl _) _
  have h3 : Dk B (w2.setCell ⟨w1.heap.size, 0, none⟩ (.slice na nl nc)) pb mb nv u' cs (burnt S) (fun m => m = n) := by
    refine (h1.weaken (hole' := fun m => m = n) (fun _ f => f.elim)).kept t3 (fun g hg hm e => ?_)
    obtain ⟨a1, a2, a3, _, _, a6⟩ := fe.apart g e
    rcases hm with (e' | e' | e') | ⟨c, hc, hcn, e'⟩
    · exact a1 e'
    · exact a2 e'
    · exact a3 e'
    · exact a6 c hc hcn e'
  have hxp : PutIn B (w2.setCell ⟨w1.heap.size, 0, none⟩ (.slice na nl nc)) pb mb nv cs (burnt S) ⟨⟨n, cb ++ b, k⟩, .slice na nl nc⟩ := by
    have hvlt : ∀ g, (Value.slice na nl nc).ownBlock = some g → (Value.slice fa cb.length fc).ownBlock = some g ∨ g = w1.heap.size + 1 := fun g hg => by
      rcases HLOC.out with e | e
      · exact Or.inl (e ▸ hg)
      · rw [e] at hg; cases hg; exact Or.inr rfl
    refine ⟨owns_kept HOWN.out (fun g hg => Below.heap_setCell _ _ _ _ (fun e => ?_)), ⟨r1, r2⟩, by have := fe.sure; simp only [List.length_append]; omega, hb2, fun g hg => ?_⟩
    · rcases hvlt g hg with e' | e'
      · have := hne g e'; dsimp only at e; omega
      · dsimp only at e; omega
    · rcases hvlt g hg with e' | e'
      · obtain ⟨a1, a2, a3, _, _, a6⟩ := fe.apart g e'
        exact ⟨a1, a2, a3, a6⟩
      · have l1 := h1.lt
        refine ⟨by omega, by omega, fun e => by have := (l1.2.2 g e).2; omega, fun d hd _ e => ?_⟩
        have := (h1.apart d hd g e).2.2.2.2.1
        omega
  refine (put_any h3 hxp (by omega)).mono ?_
  rintro e w4 ⟨rfl, nv', h4, t4, hl4⟩
  go_wp2
  go_ret
  have hFk : ∀ k, must pb mb nv cs none' k → F k := fun k hk => (hF k).1 (by
    rcases hk with hk | ⟨c, hc, _, hk⟩
    · exact Or.inl hk
    · exact Or.inr ⟨c, hc, hk⟩)
  have s1 : w.heap.size ≤ w1.heap.size := t1.size
  have s3 : w1.heap.size ≤ (w2.setCell ⟨w1.heap.size, 0, none⟩ (.slice na nl nc)).heap.size := t3.size
  rw [HX.out]
  refine ⟨rfl, _, ⟨mb, nv', u', _, h4, fun _ => Iff.rfl⟩, foot_put hF (hl4.imp id (fun ⟨g, e, hg⟩ => ⟨g, e, by omega⟩)) (fun g hg => ?_), ?_⟩
  · rcases HLOC.out with e | e
    · exact Or.inl ((hF g).1 (Or.inr (fe.apart g (e ▸ hg)).2.2.2.2.1))
    · have hg' : (Value.slice na nl nc).ownBlock = some g := hg
      rw [e] at hg'; cases hg'; right; omega
  · have u1 : Turn F w w1 := t1.mono (fun k _ hk => by rw [hk]; exact hFk pb (Or.inl (Or.inl rfl)))
    have u2 : Turn F w _ := u1.trans (t3.mono (fun g _ hg => (hF g).1 (Or.inr (fe.apart g hg).2.2.2.2.1)))
    exact u2.trans (t4.mono (fun g _ hg => hFk g (Or.inl hg)))

theorem post_same {B pb mb : Nat} {nv : Value} {u : Int} {cs : List Cf} {S : St} {w w' : World} {F : Nat → Prop} {r : Value} (h : Dk B w' pb mb nv u cs S none') (hF : ∀ k, foot pb mb nv cs k ↔ F k) (t : Turn (fun k => k = pb) w w') :
    DkPost B pb F S r w (.returned r) w' :=
  ⟨rfl, F, ⟨mb, nv, u, cs, h, hF⟩, fun _ hk => Or.inl hk, t.mono (fun k _ hk => by rw [hk]; exact (hF pb).1 (Or.inl (Or.inl rfl)))⟩
theorem post_still {B pb mb : Nat} {nv : Value} {u : Int} {cs : List Cf} {S : St} {w w' : World} {F : Nat → Prop} {r : Value} (h : Dk B w pb mb nv u cs S none') (hF : ∀ k, foot pb mb nv cs k ↔ F k) (t : Turn (fun _ => False) w w') :
    DkPost B pb F S r w (.returned r) w' :=
  ⟨rfl, F, ⟨mb, nv, u, cs, h.kept t (fun _ _ _ f => f), hF⟩, fun _ hk => Or.inl hk, t.mono (fun _ _ hk => hk.elim)⟩

set_option maxHeartbeats 1000000 in
theorem append_any {B pb : Nat} {S : St} {w : World} {F : Nat → Prop} {n b : List UInt8} (h : DkS B w pb F S) (hn : n.length ≤ maxLen) (hb : b.length ≤ maxLen) (hcs : S.fs.length < 1000000000) :
    Calls Tryz.prog 34 #[.pointer (some ⟨pb, 0, none⟩), .string (bs n), .string (bs b)] w (DkPost B pb F (apS S n b) (.int .i64 (apE S n b)) w) := by
  obtain ⟨mb, nv, u, cs, h, hF⟩ := h
  unfold maxLen at hb
  by_cases hr : rightName n = true
  · by_cases hbu : burns S = true
    · by_cases hfit : (b.length : Int) ≤ left S
      · have e1 : apS S n b = puts (burnt S) (apF S n b) := by simp [apS, hr, hbu, hfit]
        have e2 : apE S n b = 0 := by simp [apE, hr, hbu, hfit]
        rw [e1, e2]
        exact append_go h hF (by rw [h.len]; exact hcs) hr hbu hfit
      · have e1 : apS S n b = burnt S := by simp [apS, hr, hbu, hfit]
        have e2 : apE S n b = 6 := by simp [apE, hr, hbu, hfit]
        rw [e1, e2]
        have hV := valid_is hr hn w
        have HR := Lib.hid hr; have HB := Lib.hid hbu; clear hr hbu e1 e2
        have hbs : left S < ((bs b).size : Int) := by rw [bs_size]; omega
        have hbs2 : ((bs b).size : Int) ≤ 9223372036854775807 := by rw [bs_size]; omega
        obtain ⟨i1, i2, _, _⟩ := h.ints
        go_enter Tryz.func34, Tryz.ntmps34
        go_wp2_with fail
        refine hV.mono ?_
        rintro e w1 ⟨rfl, rfl⟩
        go_wp2_with fail
        refine (burn_is h HB.out).mono ?_
        rintro e w1 ⟨rfl, u', h1, t1⟩
        obtain ⟨c0, c1, c2, c3, c4, fz⟩ := h1.cells
        rw [left_burnt] at c2
        clear fz
        go_wp2_with fail
        go_ret
        exact post_same h1 hF t1
    · have hbu' : burns S = false := by simpa using hbu
      have e1 : apS S n b = burnt S := by simp [apS, hr, hbu]
      have e2 : apE S n b = 8 := by simp [apE, hr, hbu]
      rw [e1, e2]
      have hV := valid_is hr hn w
      have HR := Lib.hid hr; have HB := Lib.hid hbu'; clear hr hbu hbu' e1 e2
      go_enter Tryz.func34, Tryz.ntmps34
      go_wp2_with fail
      refine hV.mono ?_
      rintro e w1 ⟨rfl, rfl⟩
      go_wp2_with fail
      refine (burn_is h HB.out).mono ?_
      rintro e w1 ⟨rfl, u', h1, t1⟩
      go_wp2_with fail
      go_ret
      exact post_same h1 hF t1
  · have hr' : rightName n = false := by simpa using hr
    have e1 : apS S n b = S := by simp [apS, hr]
    have e2 : apE S n b = 1 := by simp [apE, hr]
    rw [e1, e2]
    have hV := valid_is hr' hn w
    have HR := Lib.hid hr'; clear hr hr' e1 e2
    go_enter Tryz.func34, Tryz.ntmps34
    go_wp2_with fail
    refine hV.mono ?_
    rintro e w1 ⟨rfl, rfl⟩
    go_wp2_with fail
    go_ret
    exact post_still h hF (Turn.refl _ _)

/-! ### Left, Fuse, List, Size -/
theorem left_any {B pb : Nat} {S : St} {w : World} {F : Nat → Prop} (h : DkS B w pb F S) :
    Calls Tryz.prog 44 #[.pointer (some ⟨pb, 0, none⟩)] w fun e w' => e = .returned (.int .i64 (left S)) ∧ w = w' := by
  obtain ⟨mb, nv, u, cs, h, hF⟩ := h
  obtain ⟨c0, c1, c2, c3, c4, fz⟩ := h.cells
  clear fz
  go_enter Tryz.func44, Tryz.ntmps44
  go_wp2
  go_ret
  exact ⟨rfl, rfl⟩

theorem fuse_any {B pb : Nat} {S : St} {w : World} {F : Nat → Prop} (h : DkS B w pb F S) (n : Int) (h1 : -9223372036854775808 ≤ n) (h2 : n ≤ 9223372036854775807) :
    Calls Tryz.prog 31 #[.pointer (some ⟨pb, 0, none⟩), .int .i64 n] w (DkPost B pb F (fuS S n) (.tuple #[]) w) := by
  obtain ⟨mb, nv, u, cs, h, hF⟩ := h
  obtain ⟨c0, c1, c2, c3, c4, fz⟩ := h.cells
  have f3 := fz 3
  have HS := Lib.hid (h.setAt 3 (.int .i64 n))
  clear fz
  go_enter Tryz.func31, Tryz.ntmps31
  go_wp2
  go_end0
  exact post_same (h.head (S' := fuS S n) (turn_head w pb 3 _) HS.out rfl rfl ⟨rfl, h1, h2⟩) hF (turn_head w pb 3 _)

theorem names_of {B pb mb : Nat} {nv : Value} {u : Int} {cs : List Cf} {S : St} {w : World} {hole : List UInt8 → Prop} (h : Dk B w pb mb nv u cs S hole) : cs.map Cf.nm = S.fs.map Fl.nm := by
  rw [← h.fs, List.map_map]; rfl

theorem list_any {B pb : Nat} {S : St} {w : World} {F : Nat → Prop} (h : DkS B w pb F S) (hcs : S.fs.length < 1000000000) :
    Calls Tryz.prog 39 #[.pointer (some ⟨pb, 0, none⟩)] w fun e w' => ∃ v, e = .returned v ∧ w'.ownsRow w.heap.size 9 1 v (S.fs.map Fl.nm).length (strs (S.fs.map Fl.nm)) ∧ Below w.heap.size w w' := by
  obtain ⟨mb, nv, u, cs, h, hF⟩ := h
  obtain ⟨c0, c1, c2, c3, c4, fz⟩ := h.cells
  clear fz
  have hK := clone_any B nv (cs.map Cf.nm) w h.names (by rw [List.length_map, h.len]; omega)
  rw [names_of h] at hK
  go_enter Tryz.func39, Tryz.ntmps39
  go_wp2_with fail
  refine hK.mono ?_
  rintro e w1 ⟨v, rfl, ho, hb⟩
  obtain ⟨a, c, hv⟩ := owns_form ho
  obtain ⟨L, hL⟩ : ∃ L, L = (S.fs.map Fl.nm).length := ⟨_, rfl⟩
  rw [← hL] at hv ho
  subst hv
  have HL := Lib.hid hL; clear hL
  go_wp2
  go_ret
  rw [← HL.out]
  exact ⟨.slice a L c, rfl, ho, hb⟩

def szPost (S : St) (n : List UInt8) (w : World) (e : Ending) (w' : World) : Prop := e = .returned (.tuple #[.int .i64 (szN S n), .int .i64 (szE S n)]) ∧ Below w.heap.size w w'

set_option maxHeartbeats 1000000 in
theorem size_any {B pb : Nat} {S : St} {w : World} {F : Nat → Prop} {n : List UInt8} (h : DkS B w pb F S) (hn : n.length ≤ maxLen) :
    Calls Tryz.prog 49 #[.pointer (some ⟨pb, 0, none⟩), .string (bs n)] w (szPost S n w) := by
  obtain ⟨mb, nv, u, cs, h, hF⟩ := h
  obtain ⟨c0, c1, c2, c3, c4, fz⟩ := h.cells
  clear fz
  cases hf : find S.fs n with
  | none =>
    have e1 : szN S n = 0 := by simp [szN, hf]
    have e2 : szE S n = 5 := by simp [szE, hf]
    have hl := (h.map.look_no (h.hasNot hf) hn).2
    unfold szPost
    rw [e1, e2]
    clear hf e1 e2
    go_enter Tryz.func49, Tryz.ntmps49
    go_wp2_with (first | (at_lookup; refine wpList_lookup_run _ rfl _ _ _ _ rfl _ _ rfl rfl (.tuple #[.agg #[.slice none 0 0, .int .i64 0], .bool false]) hl ?_) | fail)
    go_ret2
    exact ⟨rfl, (Below.refl _ _).alloc (Nat.le_refl _) _⟩
  | some f =>
    obtain ⟨v, hc, hfn⟩ := h.has hf
    subst hfn
    obtain ⟨a, cap, hv⟩ := h.form _ hc
    have hbl := len_le h.good (find_mem hf).1
    dsimp only at hv
    subst hv
    have e1 : szN S f.nm = f.bt.length := by simp [szN, hf]
    have e2 : szE S f.nm = 0 := by simp [szE, hf]
    have hl := (h.map.look_yes hc hn).2
    unfold szPost
    rw [e1, e2]
    obtain ⟨fn, fb, fk⟩ := f
    dsimp only at hbl ⊢
    clear hf e1 e2
    go_enter Tryz.func49, Tryz.ntmps49
    go_wp2_with (first | (at_lookup; refine wpList_lookup_run _ rfl _ _ _ _ rfl _ _ rfl rfl (.tuple #[.agg #[.slice a fb.length cap, .int .i64 fk], .bool true]) hl ?_) | fail)
    go_ret2
    exact ⟨rfl, (Below.refl _ _).alloc (Nat.le_refl _) _⟩
end Go.Proofs.YtmekkbhblghbmaaGreatDoor.D

/- The calls of a disk, further: Sync, Remove, Rename, Cut, Read. -/
namespace Go.Proofs.YtmekkbhblghbmaaGreatDoor.D
set_option maxRecDepth 100000
open Go.RowKit Go.Maps

section
variable {B pb mb : Nat} {nv : Value} {u : Int} {cs : List Cf} {S : St} {w w' : World}

/-- A file that is there, put in anew with other bytes of its own row. -/
theorem Dk.putIn (h : Dk B w pb mb nv u cs S none') {f : Fl} {v : Value} (hc : (⟨f, v⟩ : Cf) ∈ cs) (x : Cf) (hxn : x.nm = f.nm) (hrow : w.ownsRow B 5 1 x.v x.f.bt.length (bytesOf x.f.bt)) (hblk : ∀ g, x.v.ownBlock = some g → v.ownBlock = some g)
    (hs : x.f.sure ≤ x.f.bt.length) (hle : x.f.bt.length ≤ f.bt.length) : PutIn B w pb mb nv cs S x := by
  have hf : f ∈ S.fs := by rw [← h.fs]; exact List.mem_map_of_mem (f := Cf.f) hc
  have hg := h.good
  refine ⟨hrow, by rw [hxn]; exact hg.names f hf, hs, ?_, fun g hgx => ?_⟩
  · have h2 := total_wo hg.up hf
    have h3 := hg.fits
    have e : x.f.nm = f.nm := hxn
    simp only [puts, total_ins, e]
    omega
  · obtain ⟨a1, a2, a3, _, _, a6⟩ := h.apart _ hc g (hblk g hgx)
    exact ⟨a1, a2, a3, fun d hd hdn => a6 d hd (by show d.nm ≠ f.nm; rw [← hxn]; exact hdn)⟩

end

theorem post_put {B pb mb : Nat} {nv : Value} {u : Int} {cs : List Cf} {S S' : St} {w w1 w2 : World} {F : Nat → Prop} {x : Cf} {r : Value} {e : Ending} (hF : ∀ k, foot pb mb nv cs k ↔ F k) (t : Turn F w w1)
    (hp : PutPost B pb mb nv u cs S x w1 e w2) (hS : S' = puts S x.f) (hx : ∀ g, x.v.ownBlock = some g → F g ∨ w.heap.size ≤ g) : DkPost B pb F S' r w (.returned r) w2 := by
  obtain ⟨_, nv', h4, t4, hl4⟩ := hp
  subst hS
  have hs := t.size
  exact ⟨rfl, _, ⟨mb, nv', u, _, h4, fun _ => Iff.rfl⟩, foot_put hF (hl4.imp id (fun ⟨g, e, hg⟩ => ⟨g, e, by omega⟩)) hx, t.trans (t4.mono (fun g _ hg => (hF g).1 (Or.inl hg)))⟩

set_option maxHeartbeats 1000000 in
theorem sync_any {B pb : Nat} {S : St} {w : World} {F : Nat → Prop} {n : List UInt8} (h : DkS B w pb F S) (hn : n.length ≤ maxLen) (hcs : S.fs.length < 1000000000) :
    Calls Tryz.prog 27 #[.pointer (some ⟨pb, 0, none⟩), .string (bs n)] w (DkPost B pb F (syS S n) (.int .i64 (syE S n)) w) := by
  obtain ⟨mb, nv, u, cs, h, hF⟩ := h
  obtain ⟨c0, c1, c2, c3, c4, fz⟩ := h.cells
  clear fz
  cases hf : find S.fs n with
  | none =>
    have e1 : syS S n = S := by simp [syS, hf]
    have e2 : syE S n = 5 := by simp [syE, hf]
    have hl := (h.map.look_no (h.hasNot hf) hn).2
    rw [e1, e2]
    clear hf e1 e2
    go_enter Tryz.func27, Tryz.ntmps27
    go_wp2_with (first | (at_lookup; refine wpList_lookup_run _ rfl _ _ _ _ rfl _ _ rfl rfl (.tuple #[.agg #[.slice none 0 0, .int .i64 0], .bool false]) hl ?_) | fail)
    go_ret
    exact post_still h hF ((Turn.refl _ _).alloc _)
  | some f =>
    obtain ⟨v, hc, hfn⟩ := h.has hf
    subst hfn
    obtain ⟨a, cap, hv⟩ := h.form _ hc
    have hbl := len_le h.good (find_mem hf).1
    dsimp only at hv
    subst hv
    have hl := (h.map.look_yes hc hn).2
    by_cases hbu : burns S = true
    · have e1 : syS S f.nm = puts (burnt S) { f with sure := f.bt.length } := by simp [syS, hf, hbu]
      have e2 : syE S f.nm = 0 := by simp [syE, hf, hbu]
      rw [e1, e2]
      have HB := Lib.hid hbu
      obtain ⟨fn, fb, fk⟩ := f
      dsimp only at hbl ⊢
      clear hf e1 e2 hbu
      go_enter Tryz.func27, Tryz.ntmps27
      go_wp2_with (first | (at_lookup; refine wpList_lookup_run _ rfl _ _ _ _ rfl _ _ rfl rfl (.tuple #[.agg #[.slice a fb.length cap, .int .i64 fk], .bool true]) hl ?_) | fail)
      refine (burn_is (h.alloc _) HB.out).mono ?_
      rintro e w1 ⟨rfl, u', h1, t1⟩
      have bw : w1.heap[w.heap.size]? = some (.cells #[.slice a fb.length cap, .int .i64 fk] 107 (0, 0)) := by
        rw [t1.block w.heap.size (by simp) (fun e => by have := h.lt.1; omega)]
        exact heap_alloc_new w _
      have x0 : w1.cell? ⟨w.heap.size, 0, none⟩ = some (.slice a fb.length cap) := by rw [cell_of_row w1 _ 0 _ _ (0, 0) bw]; rfl
      have x1 : w1.cell? ⟨w.heap.size, 1, none⟩ = some (.int .i64 fk) := by rw [cell_of_row w1 _ 1 _ _ (0, 0) bw]; rfl
      have y1 : w1.frozen? ⟨w.heap.size, 1, none⟩ = false := by simp [World.frozen?, bw]
      clear bw
      go_wp2_with fail
      have tA : Turn F w w1 := ((Turn.refl _ w).alloc _).trans (t1.mono (fun k _ hk => by rw [hk]; exact (hF pb).1 (Or.inl (Or.inl rfl))))
      have t2 : Turn (fun k => k = w.heap.size) w1 (w1.setCell ⟨w.heap.size, 1, none⟩ (.int .i64 fb.length)) := (Turn.refl (fun k => k = w.heap.size) w1).setCell (p := ⟨w.heap.size, 1, none⟩) rfl _
      have h2 : Dk B (w1.setCell ⟨w.heap.size, 1, none⟩ (.int .i64 fb.length)) pb mb nv u' cs (burnt S) none' := h1.kept t2 (fun k hk hm e => by
        have : k < w.heap.size := by
          rcases hm with hm | ⟨c, hc, _, hm⟩
          · exact (h.footLt (Or.inl hm)).2
          · exact (h.footLt (Or.inr ⟨c, hc, hm⟩)).2
        omega)
      have hx := h2.putIn hc ⟨⟨fn, fb, fb.length⟩, .slice a fb.length cap⟩ rfl (h2.rows ⟨⟨fn, fb, fk⟩, .slice a fb.length cap⟩ hc (fun f => f)) (fun g hg => hg) (Nat.le_refl _) (Nat.le_refl _)
      refine (put_any (h2.weaken (fun _ f => f.elim)) hx (by rw [h.len]; omega)).mono ?_
      rintro e w4 hp
      obtain ⟨rfl, hp'⟩ := id hp
      go_wp2_with fail
      go_ret
      exact post_put hF (tA.then t2 (fun i hi => Or.inr (by rw [hi]; exact Nat.le_refl _))) hp rfl (fun g hg => Or.inl ((hF g).1 (Or.inr ⟨_, hc, hg⟩)))
    · have hbu' : burns S = false := by simpa using hbu
      have e1 : syS S f.nm = burnt S := by simp [syS, hf, hbu]
      have e2 : syE S f.nm = 8 := by simp [syE, hf, hbu]
      rw [e1, e2]
      have HB := Lib.hid hbu'
      obtain ⟨fn, fb, fk⟩ := f
      dsimp only at hbl ⊢
      clear hf e1 e2 hbu hbu'
      go_enter Tryz.func27, Tryz.ntmps27
      go_wp2_with (first | (at_lookup; refine wpList_lookup_run _ rfl _ _ _ _ rfl _ _ rfl rfl (.tuple #[.agg #[.slice a fb.length cap, .int .i64 fk], .bool true]) hl ?_) | fail)
      refine (burn_is (h.alloc _) HB.out).mono ?_
      rintro e w1 ⟨rfl, u', h1, t1⟩
      go_wp2_with fail
      go_ret
      exact post_same h1 hF (((Turn.refl _ w).alloc _).trans t1)

/-- What is behind a file that was taken away. -/
theorem post_drop {B pb mb : Nat} {nv : Value} {u : Int} {cs : List Cf} {S S' : St} {n : List UInt8} {w w1 w2 : World} {F : Nat → Prop} {r : Value} {e : Ending} (hF : ∀ k, foot pb mb nv cs k ↔ F k) (t : Turn F w w1)
    (hp : DropPost B pb mb nv u cs S none' n w1 e w2) (hS : S' = { S with fs := wo Fl.nm S.fs n }) : DkPost B pb F S' r w (.returned r) w2 := by
  obtain ⟨_, nv', h4, t4, hl4⟩ := hp
  subst hS
  refine ⟨rfl, _, ⟨mb, nv', u, _, h4, fun _ => Iff.rfl⟩, fun k hk => Or.inl ((hF k).1 ?_), t.trans (t4.mono (fun g _ hg => (hF g).1 (Or.inl hg)))⟩
  rcases hk with (hk | hk | hk) | ⟨c, hc, hk⟩
  · exact Or.inl (Or.inl hk)
  · exact Or.inl (Or.inr (Or.inl hk))
  · exact Or.inl (Or.inr (Or.inr (hl4 ▸ hk)))
  · exact Or.inr ⟨c, (mem_wo.1 hc).1, hk⟩

set_option maxHeartbeats 1000000 in
theorem remove_any {B pb : Nat} {S : St} {w : World} {F : Nat → Prop} {n : List UInt8} (h : DkS B w pb F S) (hn : n.length ≤ maxLen) (hcs : S.fs.length < 1000000000) :
    Calls Tryz.prog 50 #[.pointer (some ⟨pb, 0, none⟩), .string (bs n)] w (DkPost B pb F (rmS S n) (.int .i64 (rmE S n)) w) := by
  obtain ⟨mb, nv, u, cs, h, hF⟩ := h
  obtain ⟨c0, c1, c2, c3, c4, fz⟩ := h.cells
  clear fz
  cases hf : find S.fs n with
  | none =>
    have e1 : rmS S n = S := by simp [rmS, hf]
    have e2 : rmE S n = 5 := by simp [rmE, hf]
    have hl := (h.map.look_no (h.hasNot hf) hn).2
    rw [e1, e2]
    clear hf e1 e2
    go_enter Tryz.func50, Tryz.ntmps50
    go_wp2_with (first | (at_lookup; refine wpList_lookup_run _ rfl _ _ _ _ rfl _ _ rfl rfl (.tuple #[.agg #[.slice none 0 0, .int .i64 0], .bool false]) hl ?_) | fail)
    go_ret
    exact post_still h hF ((Turn.refl _ _).alloc _)
  | some f =>
    obtain ⟨v, hc, hfn⟩ := h.has hf
    subst hfn
    obtain ⟨a, cap, hv⟩ := h.form _ hc
    have hbl := len_le h.good (find_mem hf).1
    dsimp only at hv
    subst hv
    have hl := (h.map.look_yes hc hn).2
    by_cases hbu : burns S = true
    · have e1 : rmS S f.nm = { burnt S with fs := wo Fl.nm (burnt S).fs f.nm } := by simp [rmS, hf, hbu, fs_burnt]
      have e2 : rmE S f.nm = 0 := by simp [rmE, hf, hbu]
      rw [e1, e2]
      have HB := Lib.hid hbu
      obtain ⟨fn, fb, fk⟩ := f
      dsimp only at hbl ⊢
      clear hf e1 e2 hbu
      go_enter Tryz.func50, Tryz.ntmps50
      go_wp2_with (first | (at_lookup; refine wpList_lookup_run _ rfl _ _ _ _ rfl _ _ rfl rfl (.tuple #[.agg #[.slice a fb.length cap, .int .i64 fk], .bool true]) hl ?_) | fail)
      refine (burn_is (h.alloc _) HB.out).mono ?_
      rintro e w1 ⟨rfl, u', h1, t1⟩
      go_wp2_with fail
      have tA : Turn F w w1 := ((Turn.refl _ w).alloc _).trans (t1.mono (fun k _ hk => by rw [hk]; exact (hF pb).1 (Or.inl (Or.inl rfl))))
      refine (drop_any h1 hc (by rw [h.len]; omega)).mono ?_
      rintro e w4 hp
      obtain ⟨rfl, hp'⟩ := id hp
      go_wp2_with fail
      go_ret
      exact post_drop hF tA hp rfl
    · have hbu' : burns S = false := by simpa using hbu
      have e1 : rmS S f.nm = burnt S := by simp [rmS, hf, hbu]
      have e2 : rmE S f.nm = 8 := by simp [rmE, hf, hbu]
      rw [e1, e2]
      have HB := Lib.hid hbu'
      obtain ⟨fn, fb, fk⟩ := f
      dsimp only at hbl ⊢
      clear hf e1 e2 hbu hbu'
      go_enter Tryz.func50, Tryz.ntmps50
      go_wp2_with (first | (at_lookup; refine wpList_lookup_run _ rfl _ _ _ _ rfl _ _ rfl rfl (.tuple #[.agg #[.slice a fb.length cap, .int .i64 fk], .bool true]) hl ?_) | fail)
      refine (burn_is (h.alloc _) HB.out).mono ?_
      rintro e w1 ⟨rfl, u', h1, t1⟩
      go_wp2_with fail
      go_ret
      exact post_same h1 hF (((Turn.refl _ w).alloc _).trans t1)

end Go.Proofs.YtmekkbhblghbmaaGreatDoor.D

/- The calls of a disk, further: Cut, Read. -/
namespace Go.Proofs.YtmekkbhblghbmaaGreatDoor.D
set_option maxRecDepth 100000
open Go.RowKit Go.Maps

theorem elemU8 : Tryz.prog.elem 105 = 5 := by kernel_rfl
theorem sizeU8 (w : World) : (Go.sizeOf 5).run Tryz.prog w = .ok 1 w := by kernel_rfl

/-- A piece of a slice that begins at its row's beginning. -/
theorem cut_run (a : Option Addr) (ha : ∀ x, a = some x → ∃ g, x = ⟨g, 0, none⟩) (l cap k : Nat) (hk : k ≤ cap) (W : World) :
    (Instr.slice 105 (.slice a l cap) none (some (.int .i64 (k : Int))) none).run Tryz.prog W = .ok (.slice a k cap) W := by
  rw [run_slice_h (P := Tryz.prog) (t := 105) (ht := by kernel_rfl) (kh := .i64) (h := (k : Int)) (h0 := by omega) (h2 := by omega), elemU8, sizeU8]
  have e : (if cap = 0 then a else a.map (·.add (0 * 1))) = a := by
    split
    · rfl
    · cases a with
      | none => rfl
      | some x => obtain ⟨g, rfl⟩ := ha x rfl; simp [Addr.add]
  simp [Result.andThen, sliced, e]

theorem owns_addr {B : Nat} {w : World} {e : TypeId} {a : Option Addr} {l n cap : Nat} {xs : List Value} (h : w.ownsRow B e 1 (.slice a l cap) n xs) : (∀ x, a = some x → ∃ g, x = ⟨g, 0, none⟩) ∧ l = n ∧ n ≤ cap ∧ cap ≤ maxLen := by
  rcases owns_cases h with ⟨hv, h0, _⟩ | ⟨g, cap', cur, hv, _, _, _, h1, h2, _⟩
  · injection hv with e1 e2 e3
    subst e1 e2 e3 h0
    exact ⟨(fun x hx => by cases hx), rfl, Nat.le_refl _, by unfold maxLen; omega⟩
  · injection hv with e1 e2 e3
    subst e1 e2 e3
    exact ⟨(fun x hx => by cases hx; exact ⟨g, rfl⟩), rfl, h1, h2⟩

theorem owns_take {B : Nat} {w : World} {e : TypeId} {a : Option Addr} {l cap k : Nat} {xs : List Value} (h : w.ownsRow B e 1 (.slice a l cap) l xs) (hk : k ≤ l) : w.ownsRow B e 1 (.slice a k cap) k (xs.take k) := by
  rcases owns_cases h with ⟨hv, h0, hx⟩ | ⟨g, cap', cur, hv, hB, _, hg, h1, h2, hs, hl, hc, _⟩
  · injection hv with e1 e2 e3
    subst e1 e3 h0 hx
    obtain rfl : k = 0 := by omega
    exact World.ownsRow_nil _ _ _ _
  · injection hv with e1 e2 e3
    subst e1 e3
    refine owns_of_cells hB hg hs (by omega) h2 (by rw [List.length_take]; omega) (fun j hj => ?_)
    rw [List.getElem?_take, if_pos hj, hc j (by omega)]

theorem bytes_take (l : List UInt8) (k : Nat) : (bytesOf l).take k = bytesOf (l.take k) := by simp [bytesOf]

def ctPost (B pb : Nat) (F : Nat → Prop) (S : St) (n : List UInt8) (m : Int) (w : World) : Ending → World → Prop := DkPost B pb F (ctS S n m) (.int .i64 (ctE S n m)) w

set_option maxHeartbeats 1000000 in
theorem cut_any {B pb : Nat} {S : St} {w : World} {F : Nat → Prop} {n : List UInt8} {m : Int} (h : DkS B w pb F S) (hn : n.length ≤ maxLen) (hm1 : -9223372036854775808 ≤ m) (hm2 : m ≤ 9223372036854775807) (hcs : S.fs.length < 1000000000) :
    Calls Tryz.prog 64 #[.pointer (some ⟨pb, 0, none⟩), .string (bs n), .int .i64 m] w (DkPost B pb F (ctS S n m) (.int .i64 (ctE S n m)) w) := by
  obtain ⟨mb, nv, u, cs, h, hF⟩ := h
  obtain ⟨c0, c1, c2, c3, c4, fz⟩ := h.cells
  clear fz
  cases hf : find S.fs n with
  | none =>
    have e1 : ctS S n m = S := by simp [ctS, hf]
    have e2 : ctE S n m = 5 := by simp [ctE, hf]
    have hl := (h.map.look_no (h.hasNot hf) hn).2
    rw [e1, e2]
    clear hf e1 e2
    go_enter Tryz.func64, Tryz.ntmps64
    go_wp2_with (first | (at_lookup; refine wpList_lookup_run _ rfl _ _ _ _ rfl _ _ rfl rfl (.tuple #[.agg #[.slice none 0 0, .int .i64 0], .bool false]) hl ?_) | fail)
    go_ret
    exact post_still h hF ((Turn.refl _ _).alloc _)
  | some f =>
    obtain ⟨v, hc, hfn⟩ := h.has hf
    subst hfn
    obtain ⟨a, cap, hv⟩ := h.form _ hc
    have hbl := len_le h.good (find_mem hf).1
    dsimp only at hv
    subst hv
    have hl := (h.map.look_yes hc hn).2
    by_cases hin : 0 ≤ m ∧ m ≤ f.bt.length
    · obtain ⟨k, rfl⟩ : ∃ k : Nat, m = (k : Int) := ⟨m.toNat, by omega⟩
      have hkl : k ≤ f.bt.length := by omega
      by_cases hbu : burns S = true
      · have e1 : ctS S f.nm k = puts (burnt S) { f with bt := f.bt.take k, sure := min f.sure k } := by simp only [ctS, hf, hbu, hin]; simp
        have e2 : ctE S f.nm k = 0 := by simp only [ctE, hf, hbu, hin]; simp
        rw [e1, e2]
        have HB := Lib.hid hbu
        have hrow := h.rows _ hc (fun f => f)
        have hsure := h.good.sure f (find_mem hf).1
        obtain ⟨fn, fb, fk⟩ := f
        dsimp only at hbl hkl hrow hsure ⊢
        obtain ⟨ha, _, hlc, hcm⟩ := owns_addr hrow
        have hcut := cut_run a ha fb.length cap k (by omega)
        clear hf e1 e2 hbu hin hm1 hm2
        go_enter Tryz.func64, Tryz.ntmps64
        go_wp2_with (first | (at_lookup; refine wpList_lookup_run _ rfl _ _ _ _ rfl _ _ rfl rfl (.tuple #[.agg #[.slice a fb.length cap, .int .i64 fk], .bool true]) hl ?_) | fail)
        refine (burn_is (h.alloc _) HB.out).mono ?_
        rintro e w1 ⟨rfl, u', h1, t1⟩
        have bw : w1.heap[w.heap.size]? = some (.cells #[.slice a fb.length cap, .int .i64 fk] 107 (0, 0)) := by
          rw [t1.block w.heap.size (by simp) (fun e => by have := h.lt.1; omega)]
          exact heap_alloc_new w _
        have x0 : w1.cell? ⟨w.heap.size, 0, none⟩ = some (.slice a fb.length cap) := by rw [cell_of_row w1 _ 0 _ _ (0, 0) bw]; rfl
        have x1 : w1.cell? ⟨w.heap.size, 1, none⟩ = some (.int .i64 fk) := by rw [cell_of_row w1 _ 1 _ _ (0, 0) bw]; rfl
        have y0 : w1.frozen? ⟨w.heap.size, 0, none⟩ = false := by simp [World.frozen?, bw]
        have y1 : w1.frozen? ⟨w.heap.size, 1, none⟩ = false := by simp [World.frozen?, bw]
        clear bw
        go_wp2_with fail
        rw [show min (fk : Int) (k : Int) = ((min fk k : Nat) : Int) by omega]
        have tA : Turn F w w1 := ((Turn.refl _ w).alloc _).trans (t1.mono (fun k _ hk => by rw [hk]; exact (hF pb).1 (Or.inl (Or.inl rfl))))
        have t2 : Turn (fun k => k = w.heap.size) w1 ((w1.setCell ⟨w.heap.size, 0, none⟩ (.slice a k cap)).setCell ⟨w.heap.size, 1, none⟩ (.int .i64 (min fk k : Nat))) :=
          ((Turn.refl (fun k => k = w.heap.size) w1).setCell (p := ⟨w.heap.size, 0, none⟩) rfl _).setCell (p := ⟨w.heap.size, 1, none⟩) rfl _
        have h2 := h1.kept t2 (fun k hk hm e => by
          have : k < w.heap.size := by
            rcases hm with hm | ⟨c, hc, _, hm⟩
            · exact (h.footLt (Or.inl hm)).2
            · exact (h.footLt (Or.inr ⟨c, hc, hm⟩)).2
          omega)
        have hx := h2.putIn hc ⟨⟨fn, fb.take k, min fk k⟩, .slice a k cap⟩ rfl (by
          have := owns_take (h2.rows _ hc (fun f => f)) hkl
          rw [bytes_take] at this
          dsimp only
          rw [List.length_take, Nat.min_eq_left hkl]
          exact this) (fun g hg => by cases a <;> simp_all [Value.ownBlock]) (by dsimp only; rw [List.length_take]; omega) (by dsimp only; rw [List.length_take]; omega)
        refine (put_any (h2.weaken (fun _ f => f.elim)) hx (by rw [h.len]; omega)).mono ?_
        rintro e w4 hp
        obtain ⟨rfl, hp'⟩ := id hp
        go_wp2_with fail
        go_ret
        exact post_put hF (tA.then t2 (fun i hi => Or.inr (by rw [hi]; exact Nat.le_refl _))) hp rfl (fun g hg => Or.inl ((hF g).1 (Or.inr ⟨_, hc, by cases a <;> simp_all [Value.ownBlock]⟩)))
      · have hbu' : burns S = false := by simpa using hbu
        have e1 : ctS S f.nm k = burnt S := by simp only [ctS, hf, hbu, hin]; simp
        have e2 : ctE S f.nm k = 8 := by simp only [ctE, hf, hbu, hin]; simp
        rw [e1, e2]
        have HB := Lib.hid hbu'
        obtain ⟨fn, fb, fk⟩ := f
        dsimp only at hbl hkl ⊢
        clear hf e1 e2 hbu hbu' hin hm1 hm2
        go_enter Tryz.func64, Tryz.ntmps64
        go_wp2_with (first | (at_lookup; refine wpList_lookup_run _ rfl _ _ _ _ rfl _ _ rfl rfl (.tuple #[.agg #[.slice a fb.length cap, .int .i64 fk], .bool true]) hl ?_) | fail)
        refine (burn_is (h.alloc _) HB.out).mono ?_
        rintro e w1 ⟨rfl, u', h1, t1⟩
        go_wp2_with fail
        go_ret
        exact post_same h1 hF (((Turn.refl _ w).alloc _).trans t1)
    · have e1 : ctS S f.nm m = S := by simp only [ctS, hf]; rw [if_neg hin]
      have e2 : ctE S f.nm m = 1 := by simp only [ctE, hf]; rw [if_neg hin]
      rw [e1, e2]
      obtain ⟨fn, fb, fk⟩ := f
      dsimp only at hbl hin ⊢
      clear hf e1 e2
      by_cases h0 : m < 0
      · clear hin
        go_enter Tryz.func64, Tryz.ntmps64
        go_wp2_with (first | (at_lookup; refine wpList_lookup_run _ rfl _ _ _ _ rfl _ _ rfl rfl (.tuple #[.agg #[.slice a fb.length cap, .int .i64 fk], .bool true]) hl ?_) | fail)
        go_ret
        exact post_still h hF ((Turn.refl _ _).alloc _)
      · have hgt : (fb.length : Int) < m := by omega
        clear hin
        go_enter Tryz.func64, Tryz.ntmps64
        go_wp2_with (first | (at_lookup; refine wpList_lookup_run _ rfl _ _ _ _ rfl _ _ rfl rfl (.tuple #[.agg #[.slice a fb.length cap, .int .i64 fk], .bool true]) hl ?_) | fail)
        go_ret
        exact post_still h hF ((Turn.refl _ _).alloc _)

/-- A piece of a row of bytes, as a string. -/
theorem piece_run {B : Nat} {w : World} {a : Option Addr} {cap : Nat} {fb : List UInt8} (h : w.ownsRow B 5 1 (.slice a fb.length cap) fb.length (bytesOf fb)) (i j : Nat) (hij : i + j ≤ fb.length) :
    ∃ A c, (∀ W, (Instr.slice 105 (.slice a fb.length cap) (some (.int .i64 (i : Int))) (some (.int .i64 ((i : Int) + (j : Int)))) none).run Tryz.prog W = .ok (.slice A j c) W) ∧
      (∀ W, (∀ g, (Value.slice a fb.length cap).ownBlock = some g → W.heap[g]? = w.heap[g]?) → (convert 105 9 (.slice A j c)).run Tryz.prog W = .ok (.string (bs ((fb.drop i).take j))) W) := by
  obtain ⟨ha, _, hlc, hcm⟩ := owns_addr h
  have hs : ∀ W, (Instr.slice 105 (.slice a fb.length cap) (some (.int .i64 (i : Int))) (some (.int .i64 ((i : Int) + (j : Int)))) none).run Tryz.prog W = .ok (sliced a i (i + j) cap 1) W := fun W => by
    rw [run_slice_lh (P := Tryz.prog) (t := 105) (ht := by kernel_rfl) (kl := .i64) (kh := .i64) (l := (i : Int)) (h := (i : Int) + (j : Int)) (h0 := by omega) (h1 := by omega) (h2 := by omega), elemU8, sizeU8]
    simp only [Result.andThen]
    rw [Int.toNat_natCast, show ((i : Int) + (j : Int)).toNat = i + j by omega]
  rcases owns_cases h with ⟨hv, h0, hx⟩ | ⟨g, cap', cur, hv, hB, hlt, hg, h1, h2, hsz, hl, hc, hcell, _⟩
  · injection hv with e1 e2 e3
    subst e1 e3
    have hi : i = 0 := by omega
    have hj : j = 0 := by omega
    subst hi hj
    refine ⟨none, 0, fun W => ?_, fun W _ => ?_⟩
    · rw [hs W]; simp [sliced]
    · have := run_convert_bytes_nil (P := Tryz.prog) W 105 5 (by kernel_rfl) (by kernel_rfl) 0 0 9 (by kernel_rfl)
      rw [this]
      simp; rfl
  · injection hv with e1 e2 e3
    subst e1 e3
    refine ⟨if cap = i then some ⟨g, 0, none⟩ else some ⟨g, i, none⟩, cap - i, fun W => ?_, fun W hW => ?_⟩
    · rw [hs W]
      unfold sliced
      rw [show i + j - i = j by omega]
      by_cases hci : cap = i
      · rw [if_pos hci, if_pos hci]
      · rw [if_neg hci, if_neg hci]; simp [Addr.add]; omega
    · have hL : ((fb.drop i).take j).length = j := by rw [List.length_take, List.length_drop]; omega
      have key : ∀ A : Addr, (∀ t, t < j → A.add t = ⟨g, i + t, none⟩) → (convert 105 9 (.slice (some A) j (cap - i))).run Tryz.prog W = .ok (.string (bs ((fb.drop i).take j))) W := by
        intro A hA
        have := run_convert_bytes_back W 105 9 5 A (cap - i) ((fb.drop i).take j) (by kernel_rfl) (by kernel_rfl) (by kernel_rfl) (P := Tryz.prog) (fun t ht => by
          rw [hL] at ht
          rw [hA t ht, cell_of_row W g (i + t) cur 5 (0, 0) (by rw [hW g rfl]; exact hg), hc (i + t) (by omega)]
          have hlt' : i + t < fb.length := by omega
          simp [bytesOf, hlt'])
        rw [hL] at this
        exact this
      by_cases hci : cap = i
      · rw [if_pos hci]
        exact key _ (fun t ht => by omega)
      · rw [if_neg hci]
        exact key _ (fun t _ => by rw [Addr.add_lit])

def rdPost (S : St) (n : List UInt8) (off m : Int) (w : World) (e : Ending) (w' : World) : Prop := e = .returned (.tuple #[.string (bs (rdB S n off m)), .int .i64 (rdE S n off m)]) ∧ Below w.heap.size w w'

set_option maxHeartbeats 2000000 in
theorem read_any {B pb : Nat} {S : St} {w : World} {F : Nat → Prop} {n : List UInt8} {off m : Int} (h : DkS B w pb F S) (hn : n.length ≤ maxLen) (ho1 : -9223372036854775808 ≤ off) (ho2 : off ≤ 9223372036854775807) (hm1 : -9223372036854775808 ≤ m) (hm2 : m ≤ 9223372036854775807) :
    Calls Tryz.prog 59 #[.pointer (some ⟨pb, 0, none⟩), .string (bs n), .int .i64 off, .int .i64 m] w (rdPost S n off m w) := by
  obtain ⟨mb, nv, u, cs, h, hF⟩ := h
  obtain ⟨c0, c1, c2, c3, c4, fz⟩ := h.cells
  clear fz
  cases hf : find S.fs n with
  | none =>
    have e1 : rdB S n off m = [] := by simp [rdB, hf]
    have e2 : rdE S n off m = 5 := by simp [rdE, hf]
    have hl := (h.map.look_no (h.hasNot hf) hn).2
    unfold rdPost
    rw [e1, e2]
    clear hf e1 e2
    go_enter Tryz.func59, Tryz.ntmps59
    go_wp2_with (first | (at_lookup; refine wpList_lookup_run _ rfl _ _ _ _ rfl _ _ rfl rfl (.tuple #[.agg #[.slice none 0 0, .int .i64 0], .bool false]) hl ?_) | fail)
    go_ret2
    exact ⟨rfl, (Below.refl _ _).alloc (Nat.le_refl _) _⟩
  | some f =>
    obtain ⟨v, hc, hfn⟩ := h.has hf
    subst hfn
    obtain ⟨a, cap, hv⟩ := h.form _ hc
    have hbl := len_le h.good (find_mem hf).1
    dsimp only at hv
    subst hv
    have hl := (h.map.look_yes hc hn).2
    have hrow := h.rows _ hc (fun f => f)
    unfold rdPost
    by_cases hin : 0 ≤ off ∧ 0 ≤ m ∧ m ≤ f.bt.length - off
    · have e1 : rdB S f.nm off m = (f.bt.drop off.toNat).take m.toNat := by simp only [rdB, hf]; rw [if_pos hin]
      have e2 : rdE S f.nm off m = 0 := by simp only [rdE, hf]; rw [if_pos hin]
      rw [e1, e2]
      obtain ⟨fn, fb, fk⟩ := f
      dsimp only at hbl hrow hin ⊢
      clear hf e1 e2
      obtain ⟨hi1, hi2, hi3⟩ := hin
      obtain ⟨i, rfl⟩ : ∃ i : Nat, off = (i : Int) := ⟨off.toNat, by omega⟩
      obtain ⟨j, rfl⟩ : ∃ j : Nat, m = (j : Int) := ⟨m.toNat, by omega⟩
      have hij : i + j ≤ fb.length := by omega
      obtain ⟨A, c, hsl, hcv⟩ := piece_run hrow i j hij
      have hcv' := hcv (w.alloc (.cells #[.slice a fb.length cap, .int .i64 fk] 107)) (fun g hg => Below.heap_alloc _ _ _ (h.apart _ hc g hg).2.2.2.2.1)
      clear hcv
      have T1 : (i : Int).toNat = i := Int.toNat_natCast i
      have T2 : (j : Int).toNat = j := Int.toNat_natCast j
      rw [T1, T2]
      clear T1 T2
      clear ho1 hm1 hi1 hi2
      go_enter Tryz.func59, Tryz.ntmps59
      go_wp2_with (first | (at_lookup; refine wpList_lookup_run _ rfl _ _ _ _ rfl _ _ rfl rfl (.tuple #[.agg #[.slice a fb.length cap, .int .i64 fk], .bool true]) hl ?_) | fail)
      go_ret2
      exact ⟨rfl, (Below.refl _ _).alloc (Nat.le_refl _) _⟩
    · have e1 : rdB S f.nm off m = [] := by simp only [rdB, hf]; rw [if_neg hin]
      have e2 : rdE S f.nm off m = 1 := by simp only [rdE, hf]; rw [if_neg hin]
      rw [e1, e2]
      obtain ⟨fn, fb, fk⟩ := f
      dsimp only at hbl hrow hin ⊢
      clear hf e1 e2 hrow
      by_cases h0 : off < 0
      · clear hin
        go_enter Tryz.func59, Tryz.ntmps59
        go_wp2_with (first | (at_lookup; refine wpList_lookup_run _ rfl _ _ _ _ rfl _ _ rfl rfl (.tuple #[.agg #[.slice a fb.length cap, .int .i64 fk], .bool true]) hl ?_) | fail)
        go_ret2
        exact ⟨rfl, (Below.refl _ _).alloc (Nat.le_refl _) _⟩
      · by_cases h1 : m < 0
        · have h0' : 0 ≤ off := by omega
          clear hin
          go_enter Tryz.func59, Tryz.ntmps59
          go_wp2_with (first | (at_lookup; refine wpList_lookup_run _ rfl _ _ _ _ rfl _ _ rfl rfl (.tuple #[.agg #[.slice a fb.length cap, .int .i64 fk], .bool true]) hl ?_) | fail)
          go_ret2
          exact ⟨rfl, (Below.refl _ _).alloc (Nat.le_refl _) _⟩
        · have h0' : 0 ≤ off := by omega
          have h1' : 0 ≤ m := by omega
          have h2 : (fb.length : Int) - off < m := by omega
          clear hin
          go_enter Tryz.func59, Tryz.ntmps59
          go_wp2_with (first | (at_lookup; refine wpList_lookup_run _ rfl _ _ _ _ rfl _ _ rfl rfl (.tuple #[.agg #[.slice a fb.length cap, .int .i64 fk], .bool true]) hl ?_) | fail)
          go_ret2
          exact ⟨rfl, (Below.refl _ _).alloc (Nat.le_refl _) _⟩
end Go.Proofs.YtmekkbhblghbmaaGreatDoor.D

/- The power goes and comes back; a new disk. -/
namespace Go.Proofs.YtmekkbhblghbmaaGreatDoor.D
set_option maxRecDepth 100000
open Go.RowKit Go.Maps

/-- A slice of integers that lies in none of the blocks F. -/
def IntsIn (w : World) (F : Nat → Prop) (a : Option Addr) (l : List Int) : Prop :=
  ∀ i (h : i < l.length), ∃ b off, a = some ⟨b, off, none⟩ ∧ w.cell? ⟨b, off + i, none⟩ = some (.int .i64 l[i]) ∧ b < w.heap.size ∧ ¬ F b ∧ -9223372036854775808 ≤ l[i] ∧ l[i] ≤ 9223372036854775807

theorem IntsIn.kept {w w' : World} {F : Nat → Prop} {a : Option Addr} {l : List Int} (h : IntsIn w F a l) (t : Turn F w w') : IntsIn w' F a l := fun i hi => by
  obtain ⟨b, off, h1, h2, h3, h4, h5⟩ := h i hi
  exact ⟨b, off, h1, by rw [World.cell?_of_block (w := w) (t.block b h3 h4)]; exact h2, Nat.lt_of_lt_of_le h3 t.size, h4, h5⟩

/-- Somewhere within a crash: the first i files have been gone through. -/
def Mid (B : Nat) (w0 : World) (pb mb : Nat) (nv : Value) (u : Int) (F : Nat → Prop) (S : St) (kept : List Int) (i : Nat) (w : World) : Prop :=
  ∃ cs, Dk B w pb mb nv u cs { S with fs := crashed kept i S.fs } none' ∧ (∀ k, foot pb mb nv cs k → F k) ∧ Turn F w0 w

theorem stays_le (kept : List Int) (i : Nat) {f : Fl} (h : f.sure ≤ f.bt.length) : stays kept i f ≤ f.bt.length ∧ f.sure ≤ stays kept i f := by
  unfold stays
  split <;> omega

/-- One file of a crash is laid anew. -/
theorem mid_put {B pb mb : Nat} {nv : Value} {u : Int} {F : Nat → Prop} {S : St} {kept : List Int} {i : Nat} {w0 w w3 : World} {cs : List Cf} {f : Fl} {a : Option Addr} {cap : Nat}
    (h : Dk B w pb mb nv u cs { S with fs := crashed kept i S.fs } none') (hF : ∀ k, foot pb mb nv cs k → F k) (t : Turn F w0 w) (hu : Up Fl.nm S.fs) (hf : S.fs[i]? = some f) (hc : (⟨f, .slice a f.bt.length cap⟩ : Cf) ∈ cs)
    (hcs : S.fs.length < 1000000000) (t3 : Turn (fun k => k = w.heap.size) w w3) :
    Calls Tryz.prog 72 #[.pointer (some ⟨pb, 0, none⟩), .string (bs f.nm), .agg #[.slice a (stays kept i f) cap, .int .i64 (stays kept i f : Nat)]] w3 fun e w' => e = .returned (.tuple #[]) ∧ Mid B w0 pb mb nv u F S kept (i + 1) w' := by
  have h3 := h.kept t3 (fun k hk hm e => by omega)
  have hmf : f ∈ crashed kept i S.fs := by rw [(crashed_at hf).1]; simp
  have hsl := stays_le kept i (h.good.sure f hmf)
  have hn := h.good.names f hmf
  have hbl := len_le (S := { S with fs := crashed kept i S.fs }) h.good hmf
  have hx : PutIn B w3 pb mb nv cs { S with fs := crashed kept i S.fs } ⟨crash1 kept i f, .slice a (stays kept i f) cap⟩ := by
    refine h3.putIn hc ⟨crash1 kept i f, .slice a (stays kept i f) cap⟩ rfl ?_ (fun g hg => by cases a <;> simp_all [Value.ownBlock]) ?_ ?_
    · have := owns_take (h3.rows _ hc (fun f => f)) hsl.1
      rw [bytes_take] at this
      have e : (crash1 kept i f).bt.length = stays kept i f := by simp only [crash1, List.length_take]; omega
      dsimp only
      rw [e]
      exact this
    · simp only [crash1, List.length_take]; omega
    · simp only [crash1, List.length_take]; omega
  have hcl : cs.length < 1099511627776 := by
    have h5 := h.len
    have h6 : (crashed kept i S.fs).length = S.fs.length := by have := congrArg List.length (crashed_names kept i S.fs); simpa using this
    have h7 : cs.length = (crashed kept i S.fs).length := h5
    omega
  have hbt : (crash1 kept i f).bt.length = stays kept i f := by simp only [crash1, List.length_take]; omega
  have hp := put_there (u := u) (n := f.nm) (cb := f.bt) (xb := (crash1 kept i f).bt) (csure := f.sure) (xsure := stays kept i f) (ca := a) (xa := a) (ccap := cap) (xcap := cap) (h3.weaken (fun _ f => f.elim)) (by rw [hbt]; exact hx) hc (by unfold maxLen; omega) (by rw [hbt]; omega) hbl hcl
  rw [hbt] at hp
  refine hp.mono ?_
  rintro e w' ⟨rfl, h4, t4⟩
  have hst : puts { S with fs := crashed kept i S.fs } (crash1 kept i f) = { S with fs := crashed kept (i + 1) S.fs } := by
    have := crashed_step (kept := kept) hf hu
    simp only [puts]
    rw [show (crash1 kept i f).nm = f.nm from rfl, this]
  refine ⟨rfl, _, by rw [← hst]; exact h4, ?_, ?_⟩
  · rintro k (hk | ⟨c, hcc, hk⟩)
    · exact hF k (Or.inl hk)
    · rcases mem_ins.1 hcc with rfl | hcc
      · exact hF k (Or.inr ⟨_, hc, by cases a <;> simp_all [Value.ownBlock]⟩)
      · exact hF k (Or.inr ⟨c, (mem_wo.1 hcc).1, hk⟩)
  · have tA : Turn F w0 w3 := t.then t3 (fun j hj => Or.inr (by rw [hj]; exact t.size))
    exact tA.trans (t4.mono (fun g _ hg => hF g (Or.inl hg)))

set_option maxHeartbeats 2000000 in
theorem crash_any {B pb : Nat} {S : St} {w : World} {F : Nat → Prop} {ka : Option Addr} {kc : Nat} {kept : List Int} (h : DkS B w pb F S) (hk : IntsIn w F ka kept) (hkl : kept.length ≤ maxLen) (hcs : S.fs.length < 1000000000) :
    Calls Tryz.prog 36 #[.pointer (some ⟨pb, 0, none⟩), .slice ka kept.length kc] w (DkPost B pb F (crS S kept) (.tuple #[]) w) := by
  obtain ⟨mb, nv, u, cs, h, hF⟩ := h
  obtain ⟨c0, c1, c2, c3, c4, fz⟩ := h.cells
  clear fz
  unfold maxLen at hkl
  have hnr := h.names
  rw [names_of h] at hnr
  obtain ⟨na, ncap, hnv⟩ := owns_form hnr
  obtain ⟨nl, hnl⟩ : ∃ nl, nl = (S.fs.map Fl.nm).length := ⟨_, rfl⟩
  rw [← hnl] at hnv
  subst hnv
  have hnl2 : nl < 1000000000 := by rw [hnl, List.length_map]; exact hcs
  have hup := h.good.up
  have HU := Lib.hid hup; have HNL := Lib.hid hnl; have HK := Lib.hid hk; clear hup hnl hk hnr
  obtain ⟨kl, hkl'⟩ : ∃ kl, kl = kept.length := ⟨_, rfl⟩
  rw [← hkl']
  have hkl2 : kl ≤ 9223372036854775807 := by omega
  have HKL := Lib.hid hkl'; clear hkl'
  have HM : Hid (Mid B w pb mb (.slice na nl ncap) u F S kept 0 w) := Lib.hid ⟨cs, by rw [crashed_zero]; exact h, fun k hk => (hF k).1 hk, Turn.refl _ _⟩
  go_enter Tryz.func36, Tryz.ntmps36
  go_wp2_with fail
  go_loopw [12] (fun it wr => ∃ i : Nat, i ≤ nl ∧ it = .int .i64 i ∧ Mid B w pb mb (.slice na nl ncap) u F S kept i wr) (fun it _ => nl - (intOf it).toNat)
  case atStart => exact ⟨0, by omega, rfl, HM.out⟩
  case round =>
    obtain ⟨i, hi, rfl, hmid⟩ := hrel
    by_cases hlt : i < nl
    · obtain ⟨cs', h1, hF1, t1⟩ := hmid
      have hil : i < S.fs.length := by have := HNL.out; rw [List.length_map] at this; omega
      obtain ⟨f, hf⟩ : ∃ f, S.fs[i]? = some f := ⟨S.fs[i], List.getElem?_eq_getElem hil⟩
      obtain ⟨d0, d1, d2, d3, d4, dz⟩ := h1.cells
      clear dz
      have hnr := h1.names
      rw [names_of h1, crashed_names] at hnr
      have hmf : f ∈ crashed kept i S.fs := by rw [(crashed_at hf).1]; simp
      obtain ⟨v, hc, _⟩ := h1.has (find_of h1.good.up hmf)
      obtain ⟨fa, cap, hv⟩ := h1.form _ hc
      dsimp only at hv
      subst hv
      have hn := h1.good.names f hmf
      have hlook := (h1.map.look_yes hc (show f.nm.length ≤ maxLen by unfold maxLen; omega)).1
      have hbl := len_le (S := { S with fs := crashed kept i S.fs }) h1.good hmf
      have hsure := h1.good.sure f hmf
      have hsl := stays_le kept i hsure
      have hrow := h1.rows _ hc (fun f => f)
      obtain ⟨ha, _, hlc, hcm⟩ := owns_addr hrow
      dsimp only at ha hlc
      have hcut := cut_run fa ha f.bt.length cap (stays kept i f) (by omega)
      have hput := fun w3 t3 => mid_put (kept := kept) (w3 := w3) h1 hF1 t1 HU.out hf hc hcs t3
      obtain ⟨g, hna, hcell⟩ : ∃ g, na = some ⟨g, 0, none⟩ ∧ wr.cell? ⟨g, i, none⟩ = some (.string (bs f.nm)) := by
        rcases owns_cases hnr with ⟨_, h0, _⟩ | ⟨g, cap', cur, hv, _, _, _, _, _, _, _, _, hce, _⟩
        · have := HNL.out; omega
        · injection hv with e1 e2 e3
          refine ⟨g, e1, ?_⟩
          rw [hce i (by have := HNL.out; omega), strs_at, List.getElem?_map, hf]; rfl
      subst hna
      have hst : ∀ x, kept[i]? = some x → ((stays kept i f : Nat) : Int) = (f.sure : Int) + min (max x 0) ((f.bt.length : Int) - (f.sure : Int)) := fun x hx => by
        unfold stays
        rw [hx]
        dsimp only
        omega
      have hst2 : kept[i]? = none → stays kept i f = f.sure := fun hx => by unfold stays; rw [hx]
      have HST := Lib.hid hst; have HST2 := Lib.hid hst2; have HPUT := Lib.hid hput; have HF1 := Lib.hid hF1; have HF0 := Lib.hid hf
      clear hst hst2 hput hF1 hf hrow ha hnr
      obtain ⟨d, hd⟩ : ∃ d, d = stays kept i f := ⟨_, rfl⟩
      rw [← hd] at hcut hsl
      have HD := Lib.hid hd; clear hd
      obtain ⟨fn, fb, fk⟩ := f
      dsimp only at hbl hsure hsl hcut hcell hlook hn hlc
      obtain ⟨hs1, hs2⟩ := hsl
      by_cases hik : i < kl
      · have hik' : i < kept.length := by rw [← HKL.out]; exact hik
        obtain ⟨b, off, hka, hkc, hkb, _, r1, r2⟩ := (HK.out.kept t1) i hik'
        subst hka
        obtain ⟨x, hx⟩ : ∃ x, x = kept[i] := ⟨_, rfl⟩
        rw [← hx] at hkc r1 r2
        have HX := Lib.hid hx; clear hx
        go_wp2_with (first | (at_lookup; refine wpList_lookup_run _ rfl _ _ _ _ rfl _ _ rfl rfl (.agg #[.slice fa fb.length cap, .int .i64 fk]) hlook ?_) | fail)
        go_region
        have hdx : (fk : Int) + min (max x 0) ((fb.length : Int) - (fk : Int)) = (d : Int) := by
          rw [HD.out]
          exact (HST.out x (by rw [HX.out]; exact List.getElem?_eq_getElem hik')).symm
        rw [hdx]
        clear hdx
        generalize hW : World.drew _ = W3
        have tw : Turn (fun _ => False) wr W3 := by rw [← hW]; exact ((Turn.refl _ wr).alloc _).drew 1
        have bw : W3.heap[wr.heap.size]? = some (.cells #[.slice fa fb.length cap, .int .i64 d] 107 (0, 0)) := by rw [← hW]; exact heap_alloc_new wr _
        have hsz3 : wr.heap.size < W3.heap.size := (Array.getElem?_eq_some_iff.1 bw).1
        have x0 : W3.cell? ⟨wr.heap.size, 0, none⟩ = some (.slice fa fb.length cap) := by rw [cell_of_row W3 _ 0 _ _ (0, 0) bw]; rfl
        have x1 : W3.cell? ⟨wr.heap.size, 1, none⟩ = some (.int .i64 d) := by rw [cell_of_row W3 _ 1 _ _ (0, 0) bw]; rfl
        have y0 : W3.frozen? ⟨wr.heap.size, 0, none⟩ = false := by simp [World.frozen?, bw]
        clear hW bw
        go_wp2_with fail
        have hp := HPUT.out (W3.setCell ⟨wr.heap.size, 0, none⟩ (.slice fa d cap)) (Turn.setCell (F := fun k => k = wr.heap.size) (tw.mono (fun _ _ f => f.elim)) (p := ⟨wr.heap.size, 0, none⟩) rfl _)
        rw [← HD.out] at hp
        refine hp.mono ?_
        rintro e w5 ⟨rfl, hm5⟩
        clear hp
        go_wp2_with fail
        go_roundw
        case rel => exact ⟨i + 1, by omega, by go_num, hm5⟩
        case measure => simp [intOf]; omega
      · have hdk : d = fk := by
          rw [HD.out]
          exact HST2.out (List.getElem?_eq_none (by have := HKL.out; omega))
        subst hdk
        go_wp2_with (first | (at_lookup; refine wpList_lookup_run _ rfl _ _ _ _ rfl _ _ rfl rfl (.agg #[.slice fa fb.length cap, .int .i64 d]) hlook ?_) | fail)
        have hp := HPUT.out (wr.alloc (.cells #[.slice fa d cap, .int .i64 d] 107)) ((Turn.refl (fun k => k = wr.heap.size) wr).alloc _)
        rw [← HD.out] at hp
        refine hp.mono ?_
        rintro e w5 ⟨rfl, hm5⟩
        clear hp
        go_wp2_with fail
        go_roundw
        case rel => exact ⟨i + 1, by omega, by go_num, hm5⟩
        case measure => simp [intOf]; omega
    · obtain rfl : i = nl := by omega
      obtain ⟨cs', h1, hF1, t1⟩ := hmid
      obtain ⟨d0, d1, d2, d3, d4, dz⟩ := h1.cells
      have z3 := dz 3
      have z4 := dz 4
      clear dz
      have hall : crashed kept i S.fs = crash kept 0 S.fs := by rw [HNL.out, List.length_map, crashed_all]
      have HALL := Lib.hid hall; clear hall
      have HF1 := Lib.hid hF1; clear hF1
      go_wp2_with fail
      go_end0
      have ht : Turn (fun k => k = pb) wr ((wr.setCell ⟨pb, 4, none⟩ (.bool false)).setCell ⟨pb, 3, none⟩ (.int .i64 (-1))) := (turn_head wr pb 4 _).trans (turn_head _ pb 3 _)
      have hb := heap_setCell_same _ pb 3 _ _ (.int .i64 (-1)) (h1.setAt 4 (.bool false))
      have h2 := h1.head (S' := crS S kept) (u' := -1) ht (by rw [hb]; rfl) (by show crash kept 0 S.fs = _; rw [← HALL.out]) rfl ⟨rfl, by omega, by omega⟩
      exact ⟨rfl, _, ⟨mb, _, -1, cs', h2, fun _ => Iff.rfl⟩, fun k hk => Or.inl (HF1.out k hk), t1.trans (ht.mono (fun k _ hk => by rw [hk]; exact HF1.out pb (Or.inl (Or.inl rfl))))⟩

/-! ### New -/
def newPost (room : Int) (w : World) (e : Ending) (w' : World) : Prop :=
  ∃ pb F, e = .returned (.tuple #[.pointer (some ⟨pb, 0, none⟩), .int .i64 0]) ∧ DkS w.heap.size w' pb F ⟨room, [], -1, false⟩ ∧ (∀ k, F k → w.heap.size ≤ k) ∧ Below w.heap.size w w'

theorem new_no (room : Int) (w : World) (h : room < 0 ∨ 1048576 < room) (h1 : -9223372036854775808 ≤ room) (h2 : room ≤ 9223372036854775807) :
    Calls Tryz.prog 8 #[.int .i64 room] w fun e w' => e = .returned (.tuple #[.pointer none, .int .i64 1]) ∧ w = w' := by
  by_cases h0 : room < 0
  · clear h
    go_enter Tryz.func8, Tryz.ntmps8
    go_wp2
    go_ret2
    exact ⟨rfl, rfl⟩
  · have h3 : 1048576 < room := by omega
    have h4 : 0 ≤ room := by omega
    clear h
    go_enter Tryz.func8, Tryz.ntmps8
    go_wp2
    go_ret2
    exact ⟨rfl, rfl⟩

theorem new_yes (room : Int) (w : World) (h0 : 0 ≤ room) (h1 : room ≤ 1048576) : Calls Tryz.prog 8 #[.int .i64 room] w (newPost room w) := by
  have hmm := @run_makeMap Tryz.prog
  have HR := Lib.hid h1
  go_enter Tryz.func8, Tryz.ntmps8
  go_wp2
  have hD : Dk w.heap.size ((w.alloc (.map #[] 0)).alloc (.cells #[.map (some w.heap.size), .slice none 0 0, .int .i64 room, .int .i64 (-1), .bool false] 82)) (w.heap.size + 1) w.heap.size (.slice none 0 0) (-1) [] ⟨room, [], -1, false⟩ none' := by
    have hm : (w.alloc (.map #[] 0)).ownsMap Tryz.prog 9 heldR w.heap.size 0 (.map []) := World.ownsMap_made w _ _ _
    have hsz : (w.alloc (.map #[] 0)).heap.size = w.heap.size + 1 := by simp
    refine ⟨?_, ⟨rfl, by omega⟩, ⟨.map [], hm.alloc _, rfl, fun c hc => (by cases hc), fun n hn => (by simp [Maps.has] at hn)⟩, World.ownsRow_nil _ _ _ _, rfl, fun c hc => (by cases hc), fun c hc => (by cases hc), fun c hc => (by cases hc),
      ⟨by omega, Nat.le_refl _, by omega, by simp [Value.ownBlock], by simp [Value.ownBlock], by simp; omega⟩, ⟨List.Pairwise.nil, fun f hf => (by cases hf), fun f hf => (by cases hf), by simp [total]; exact h0, HR.out, ⟨by simp, by simp⟩⟩⟩
    have := heap_alloc_new (w.alloc (.map #[] 0)) (.cells #[.map (some w.heap.size), .slice none 0 0, .int .i64 room, .int .i64 (-1), .bool false] 82)
    rw [hsz] at this
    rw [this]
    simp [left, total]
  go_ret2
  refine ⟨w.heap.size + 1, _, rfl, ⟨_, _, _, _, hD, fun _ => Iff.rfl⟩, fun k hk => ?_, ((Below.refl _ _).alloc (Nat.le_refl _) _).alloc (by simp) _⟩
  exact (hD.footLt hk).1
end Go.Proofs.YtmekkbhblghbmaaGreatDoor.D
