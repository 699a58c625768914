/- Merged out of 8 texts, in build order: Mmath, Mlays, Mrep, Mrem, Mfate, Mscript, Mput, Mcall. -/
import Derived.Test.YtkdidinekoaobaaGreatDoorBb
import Derived.Shelf.Slices.Clone
import Derived.Shelf.SlIter.Nil
import Derived.Shelf.SortM.Plain
import Derived.Shelf.SortM.SortNone
import Derived.Test.YtkdidinekoaobaaGreatDoorRows
import Derived.Deep.RegionHeld3
import Derived.Deep.Upon
import Derived.StillTailTactics
import Derived.RegionTactic

/- Plain facts on a remote: what a call comes to. Nothing of the program is used here. -/
namespace Go.Proofs.YtkdidinekoaobaaGreatDoor.M

/-- An object: its name, its bytes. -/
structure Ob where
  nm : List UInt8
  bt : List UInt8

/-- A remote: its objects by rising names, what is left of the script, how many calls. -/
structure Rs where
  obs : List Ob
  sc : List Int
  n : Int

def look (l : List Ob) (n : List UInt8) : Option Ob := l.find? (fun f => f.nm == n)
/-- An object is laid in place of the one of its name. -/
def lays (l : List Ob) (n b : List UInt8) : List Ob := ins Ob.nm (wo Ob.nm l n) ⟨n, b⟩

/-- The fate of the next call; the remote when it is used, and the call counted. -/
def fateOf (S : Rs) : Int := S.sc.headD 0
def used (S : Rs) : Rs := { S with sc := S.sc.tail, n := S.n + 1 }
def far (S : Rs) : Prop := fateOf S = 1 ∨ fateOf S = 2
instance (S : Rs) : Decidable (far S) := by unfold far; infer_instance

/-- .. with other objects, if it is not lost. -/
def takes (S : Rs) (l : List Ob) : Rs := { used S with obs := if fateOf S = 1 then S.obs else l }
def errOf (S : Rs) (e : Int) : Int := if far S then 9 else e

def newE (l : List Ob) (n : List UInt8) : Int := match look l n with | some _ => 7 | none => 0
def newL (l : List Ob) (n b : List UInt8) : List Ob := match look l n with | some _ => l | none => lays l n b
def getB (l : List Ob) (n : List UInt8) : List UInt8 := match look l n with | some o => o.bt | none => []
def getE (l : List Ob) (n : List UInt8) : Int := match look l n with | some _ => 0 | none => 5

theorem look_none {l : List Ob} {n : List UInt8} (h : look l n = none) : ∀ f ∈ l, f.nm ≠ n := by
  intro f hf e
  have := List.find?_eq_none.1 h f hf
  simp [e] at this
theorem look_mem {l : List Ob} {n : List UInt8} {f : Ob} (h : look l n = some f) : f ∈ l ∧ f.nm = n :=
  ⟨List.mem_of_find?_eq_some h, by simpa using List.find?_some h⟩
theorem look_of {l : List Ob} {f : Ob} (h : Up Ob.nm l) (hf : f ∈ l) : look l f.nm = some f := by
  cases e : look l f.nm with
  | none => exact absurd rfl (look_none e f hf)
  | some g =>
    obtain ⟨h1, h2⟩ := look_mem e
    rw [up_inj h h1 hf h2]

theorem up_lays {l : List Ob} (h : Up Ob.nm l) (n b : List UInt8) : Up Ob.nm (lays l n b) := up_ins (up_wo h _) (fun _ hc => (mem_wo.1 hc).2)
theorem up_newL {l : List Ob} (h : Up Ob.nm l) (n b : List UInt8) : Up Ob.nm (newL l n b) := by
  unfold newL
  split
  · exact h
  · exact up_lays h n b
theorem len_lays (l : List Ob) (n b : List UInt8) : (lays l n b).length ≤ l.length + 1 := by
  unfold lays
  rw [length_ins]
  have : (wo Ob.nm l n).length ≤ l.length := List.length_filter_le _ _
  omega
theorem len_newL (l : List Ob) (n b : List UInt8) : (newL l n b).length ≤ l.length + 1 := by
  unfold newL
  split
  · omega
  · exact len_lays l n b
theorem look_lays {l : List Ob} (h : Up Ob.nm l) (n b : List UInt8) : look (lays l n b) n = some ⟨n, b⟩ := look_of (f := ⟨n, b⟩) (up_lays h n b) (mem_ins.2 (Or.inl rfl))

/-- What holds of every remote that is met. -/
structure Ok (S : Rs) : Prop where
  up : Up Ob.nm S.obs
  short : ∀ o ∈ S.obs, o.nm.length ≤ 9223372036854775807
  few : S.obs.length ≤ 1000000000
  calls : 0 ≤ S.n ∧ S.n ≤ 1000000000000
  nums : ∀ y ∈ S.sc, -9223372036854775808 ≤ y ∧ y ≤ 9223372036854775807
end Go.Proofs.YtkdidinekoaobaaGreatDoor.M

/- What the calls of packages slices and maps do that a remote makes: Clone, Sorted, Keys. -/
namespace Go.Proofs.YtkdidinekoaobaaGreatDoor.M
open Go.Shelf
def laysCloneI_ren : Go.Shelf.Ren := ⟨fun | 15 => 49 | n => n, fun | 22 => 28 | 3 => 3 | 4 => 4 | n => n, fun | n => n⟩
theorem laysCloneI : Go.Proofs.Lays2.n15 Tryz.prog laysCloneI_ren := {
  mixed := by kernel_rfl
  f15 := Tryz.func49.trans (congrArg some (by kernel_rfl))
  t3 := Tryz.underlying3
  a3 := Tryz.isAgg3
  z3 := Tryz.sizeOf3
  v3 := Tryz.zeroValue3
  t4 := Tryz.underlying4
  a4 := Tryz.isAgg4
  z4 := Tryz.sizeOf4
  v4 := Tryz.zeroValue4
  t22 := Tryz.underlying28
  a22 := Tryz.isAgg28
  z22 := Tryz.sizeOf28
  v22 := Tryz.zeroValue28
  i3 := by kernel_rfl }
def laysKeys_ren : Go.Shelf.Ren := ⟨fun | 7 => 90 | 10 => 116 | n => n, fun | 23 => 73 | 26 => 9 | 3 => 136 | 28 => 142 | 0 => 0 | 27 => 141 | 33 => 103 | 4 => 4 | n => n, fun | n => n⟩
theorem laysKeys : Go.Proofs.SlLaysZ.n7 Tryz.prog laysKeys_ren := {
  mixed := by kernel_rfl
  f7 := ⟨Tryz.f90.name, by decide, Tryz.func90.trans (congrArg some (by kernel_rfl))⟩
  f10 := ⟨Tryz.f116.name, by decide, Tryz.func116.trans (congrArg some (by kernel_rfl))⟩
  t0 := Tryz.underlying0
  a0 := Tryz.isAgg0
  z0 := Tryz.sizeOf0
  v0 := Tryz.zeroValue0
  t4 := Tryz.underlying4
  a4 := Tryz.isAgg4
  z4 := Tryz.sizeOf4
  v4 := Tryz.zeroValue4
  t23 := Tryz.underlying73
  a23 := Tryz.isAgg73
  z23 := Tryz.sizeOf73
  v23 := Tryz.zeroValue73
  t26 := Tryz.underlying9
  a26 := Tryz.isAgg9
  z26 := Tryz.sizeOf9
  v26 := Tryz.zeroValue9
  t27 := Tryz.underlying141
  a27 := Tryz.isAgg141
  z27 := Tryz.sizeOf141
  v27 := Tryz.zeroValue141
  t28 := Tryz.underlying142
  a28 := Tryz.isAgg142
  z28 := Tryz.sizeOf142
  v28 := Tryz.zeroValue142
  t33 := Tryz.underlying103
  a33 := Tryz.isAgg103
  z33 := Tryz.sizeOf103
  v33 := Tryz.zeroValue103 }
def laysSorted_ren : Go.Shelf.Ren := ⟨fun | 6 => 89 | 8 => 115 | 9 => 58 | 11 => 142 | 13 => 88 | 12 => 87 | 23 => 113 | 24 => 114 | 14 => 104 | 15 => 105 | 16 => 106 | 17 => 107 | 18 => 108 | 19 => 109 | 20 => 110 | 21 => 111 | 22 => 112 | 25 => 136 | 26 => 137 | 27 => 138 | 28 => 139 | 29 => 140 | 30 => 141 | 31 => 152 | n => n, fun | 26 => 9 | 28 => 142 | 24 => 65 | 0 => 0 | 3 => 3 | 37 => 139 | 48 => 49 | 50 => 120 | 4 => 4 | 40 => 151 | 39 => 150 | 45 => 81 | 5 => 5 | 9 => 9 | 51 => 181 | 55 => 185 | 57 => 198 | 58 => 199 | 33 => 103 | n => n, fun | n => n⟩
theorem laysSorted : Go.Proofs.SlLaysZ.n6 Tryz.prog laysSorted_ren := {
  mixed := by kernel_rfl
  f6 := ⟨Tryz.f89.name, by decide, Tryz.func89.trans (congrArg some (by kernel_rfl))⟩
  f8 := ⟨Tryz.f115.name, by decide, Tryz.func115.trans (congrArg some (by kernel_rfl))⟩
  f11 := ⟨Tryz.f142.name, by decide, Tryz.func142.trans (congrArg some (by kernel_rfl))⟩
  t0 := Tryz.underlying0
  a0 := Tryz.isAgg0
  z0 := Tryz.sizeOf0
  v0 := Tryz.zeroValue0
  t24 := Tryz.underlying65
  a24 := Tryz.isAgg65
  z24 := Tryz.sizeOf65
  v24 := Tryz.zeroValue65
  t26 := Tryz.underlying9
  a26 := Tryz.isAgg9
  z26 := Tryz.sizeOf9
  v26 := Tryz.zeroValue9
  t28 := Tryz.underlying142
  a28 := Tryz.isAgg142
  z28 := Tryz.sizeOf142
  v28 := Tryz.zeroValue142
  i26 := by kernel_rfl }
def laysSort_ren : Go.Shelf.Ren := ⟨fun | 6 => 58 | 8 => 88 | 9 => 87 | 19 => 113 | 20 => 114 | 21 => 104 | 22 => 105 | 23 => 106 | 24 => 107 | 25 => 108 | 26 => 109 | 27 => 110 | 28 => 111 | 29 => 112 | 36 => 136 | 31 => 137 | 32 => 138 | 37 => 139 | 38 => 140 | 39 => 141 | 41 => 152 | n => n, fun | 27 => 65 | 29 => 9 | 3 => 3 | 32 => 139 | 26 => 65 | 0 => 0 | 44 => 49 | 46 => 120 | 4 => 4 | 36 => 151 | 35 => 150 | 41 => 81 | 5 => 5 | 9 => 9 | 53 => 181 | 57 => 185 | 63 => 198 | 64 => 199 | n => n, fun | n => n⟩
theorem laysSort : Go.Proofs.SlLaysM.n6 Tryz.prog laysSort_ren := {
  mixed := by kernel_rfl
  f6 := ⟨Tryz.f58.name, by decide, Tryz.func58.trans (congrArg some (by kernel_rfl))⟩
  f8 := Tryz.func88.trans (congrArg some (by kernel_rfl))
  f9 := ⟨Tryz.f87.name, by decide, Tryz.func87.trans (congrArg some (by kernel_rfl))⟩
  f19 := Tryz.func113.trans (congrArg some (by kernel_rfl))
  f20 := Tryz.func114.trans (congrArg some (by kernel_rfl))
  f21 := ⟨Tryz.f104.name, by decide, Tryz.func104.trans (congrArg some (by kernel_rfl))⟩
  f22 := ⟨Tryz.f105.name, by decide, Tryz.func105.trans (congrArg some (by kernel_rfl))⟩
  f23 := ⟨Tryz.f106.name, by decide, Tryz.func106.trans (congrArg some (by kernel_rfl))⟩
  f24 := ⟨Tryz.f107.name, by decide, Tryz.func107.trans (congrArg some (by kernel_rfl))⟩
  f25 := ⟨Tryz.f108.name, by decide, Tryz.func108.trans (congrArg some (by kernel_rfl))⟩
  f26 := ⟨Tryz.f109.name, by decide, Tryz.func109.trans (congrArg some (by kernel_rfl))⟩
  f27 := ⟨Tryz.f110.name, by decide, Tryz.func110.trans (congrArg some (by kernel_rfl))⟩
  f28 := ⟨Tryz.f111.name, by decide, Tryz.func111.trans (congrArg some (by kernel_rfl))⟩
  f29 := ⟨Tryz.f112.name, by decide, Tryz.func112.trans (congrArg some (by kernel_rfl))⟩
  f31 := Tryz.func137.trans (congrArg some (by kernel_rfl))
  f32 := Tryz.func138.trans (congrArg some (by kernel_rfl))
  f36 := ⟨Tryz.f136.name, by decide, Tryz.func136.trans (congrArg some (by kernel_rfl))⟩
  f37 := ⟨Tryz.f139.name, by decide, Tryz.func139.trans (congrArg some (by kernel_rfl))⟩
  f38 := ⟨Tryz.f140.name, by decide, Tryz.func140.trans (congrArg some (by kernel_rfl))⟩
  f39 := ⟨Tryz.f141.name, by decide, Tryz.func141.trans (congrArg some (by kernel_rfl))⟩
  f41 := ⟨Tryz.f152.name, by decide, Tryz.func152.trans (congrArg some (by kernel_rfl))⟩
  t0 := Tryz.underlying0
  a0 := Tryz.isAgg0
  z0 := Tryz.sizeOf0
  v0 := Tryz.zeroValue0
  t3 := Tryz.underlying3
  a3 := Tryz.isAgg3
  z3 := Tryz.sizeOf3
  v3 := Tryz.zeroValue3
  t4 := Tryz.underlying4
  a4 := Tryz.isAgg4
  z4 := Tryz.sizeOf4
  v4 := Tryz.zeroValue4
  t5 := Tryz.underlying5
  a5 := Tryz.isAgg5
  z5 := Tryz.sizeOf5
  v5 := Tryz.zeroValue5
  t9 := Tryz.underlying9
  a9 := Tryz.isAgg9
  z9 := Tryz.sizeOf9
  v9 := Tryz.zeroValue9
  t26 := Tryz.underlying65
  a26 := Tryz.isAgg65
  z26 := Tryz.sizeOf65
  v26 := Tryz.zeroValue65
  t27 := Tryz.underlying65
  a27 := Tryz.isAgg65
  z27 := Tryz.sizeOf65
  v27 := Tryz.zeroValue65
  t29 := Tryz.underlying9
  a29 := Tryz.isAgg9
  z29 := Tryz.sizeOf9
  v29 := Tryz.zeroValue9
  t32 := Tryz.underlying139
  a32 := Tryz.isAgg139
  z32 := Tryz.sizeOf139
  v32 := Tryz.zeroValue139
  t35 := Tryz.underlying150
  a35 := Tryz.isAgg150
  z35 := Tryz.sizeOf150
  v35 := Tryz.zeroValue150
  t36 := Tryz.underlying151
  a36 := Tryz.isAgg151
  z36 := Tryz.sizeOf151
  v36 := Tryz.zeroValue151
  t41 := Tryz.underlying81
  a41 := Tryz.isAgg81
  z41 := Tryz.sizeOf81
  v41 := Tryz.zeroValue81
  t44 := Tryz.underlying49
  a44 := Tryz.isAgg49
  z44 := Tryz.sizeOf49
  v44 := Tryz.zeroValue49
  t46 := Tryz.underlying120
  a46 := Tryz.isAgg120
  z46 := Tryz.sizeOf120
  v46 := Tryz.zeroValue120
  t53 := Tryz.underlying181
  a53 := Tryz.isAgg181
  z53 := Tryz.sizeOf181
  v53 := Tryz.zeroValue181
  t57 := Tryz.underlying185
  a57 := Tryz.isAgg185
  z57 := Tryz.sizeOf185
  v57 := Tryz.zeroValue185
  t63 := Tryz.underlying198
  a63 := Tryz.isAgg198
  z63 := Tryz.sizeOf198
  v63 := Tryz.zeroValue198
  t64 := Tryz.underlying199
  a64 := Tryz.isAgg199
  z64 := Tryz.sizeOf199
  v64 := Tryz.zeroValue199 }
end Go.Proofs.YtkdidinekoaobaaGreatDoor.M

/- How a remote lies in memory: its own block, the map of its objects, what is left of its script. -/
namespace Go.Proofs.YtkdidinekoaobaaGreatDoor.M
open Go.RowKit Go.Maps

def Ob.ent (c : Ob) : Value := .agg #[.string (bs c.bt)]
def noOb : Value := .agg #[.string (bs [])]

/-- An element of the map is told as it is. -/
def heldR (v : Value) : Option (DataW Value × List MemPlace) := some (.held v, [])
theorem heldR_inv {v : Value} {z : DataW Value} {ps : List MemPlace} (h : heldR v = some (z, ps)) : z = .held v := by
  simp [heldR] at h; exact h.1.symm
theorem heldR_ex {v u : Value} {ps : List MemPlace} (h : heldR v = some (.held u, ps)) : v = u := by
  have := heldR_inv h
  injection this with this
  exact this.symm

theorem strKey : Keyed Tryz.prog 9 := string_keyed Tryz.underlying9
theorem keyLit (n : List UInt8) (h : n.length ≤ maxLen) : keyOf Tryz.prog 9 (.string (bs n)) = some (.string n) := by
  rw [WideMaps.keyOf_string_mk Tryz.underlying9 (by rw [bs_size]; exact h)]; rfl
theorem zeroOb (w : World) : (zeroValue 136).run Tryz.prog w = .ok noOb w := by kernel_rfl

/-- The map in block mb holds just these objects. -/
def MapHas (w : World) (mb : Nat) (cs : List Ob) : Prop :=
  ∃ D : DataW Value, w.ownsMap Tryz.prog 9 heldR mb cs.length D ∧ Maps.size D = cs.length ∧
    (∀ c ∈ cs, Maps.has D (.string c.nm) = true ∧ ∀ z, D.atKey (.string c.nm) z = .held c.ent) ∧ (∀ n, Maps.has D (.string n) = true → ∃ c ∈ cs, c.nm = n)

theorem MapHas.kept {w w' : World} {mb : Nat} {cs : List Ob} (h : MapHas w mb cs) (hk : w'.heap[mb]? = w.heap[mb]?) : MapHas w' mb cs := by
  obtain ⟨D, ⟨es, clock, hb, r⟩, r2⟩ := h
  exact ⟨D, ⟨es, clock, by rw [hk]; exact hb, r⟩, r2⟩

theorem MapHas.lt {w : World} {mb : Nat} {cs : List Ob} (h : MapHas w mb cs) : mb < w.heap.size := by
  obtain ⟨D, h, _⟩ := h
  exact h.lt

theorem MapHas.look_yes {w : World} {mb : Nat} {cs : List Ob} (h : MapHas w mb cs) {c : Ob} (hc : c ∈ cs) (hl : c.nm.length ≤ maxLen) :
    (Instr.lookup 73 (.map (some mb)) (.string (bs c.nm)) false).run Tryz.prog w = .ok c.ent w ∧
    (Instr.lookup 73 (.map (some mb)) (.string (bs c.nm)) true).run Tryz.prog w = .ok (.tuple #[c.ent, .bool true]) w := by
  obtain ⟨D, hD, _, hin, _⟩ := h
  obtain ⟨h1, h2⟩ := hin c hc
  constructor
  · obtain ⟨v, ps, hr, hv⟩ := hD.lookup strKey Tryz.underlying73 (zeroOb w) (zd := .held noOb) (zp := []) rfl (keyLit c.nm hl)
    rw [h2] at hv
    rw [hr, heldR_ex hv]
  · obtain ⟨v, ps, hr, hv⟩ := hD.look_ok strKey Tryz.underlying73 (zeroOb w) (zd := .held noOb) (zp := []) rfl (keyLit c.nm hl)
    rw [h2] at hv
    rw [hr, heldR_ex hv, h1]

theorem MapHas.look_no {w : World} {mb : Nat} {cs : List Ob} (h : MapHas w mb cs) {n : List UInt8} (hn : ∀ c ∈ cs, c.nm ≠ n) (hl : n.length ≤ maxLen) :
    (Instr.lookup 73 (.map (some mb)) (.string (bs n)) false).run Tryz.prog w = .ok noOb w ∧
    (Instr.lookup 73 (.map (some mb)) (.string (bs n)) true).run Tryz.prog w = .ok (.tuple #[noOb, .bool false]) w := by
  obtain ⟨D, hD, _, _, hno⟩ := h
  have h1 : Maps.has D (.string n) = false := by
    cases g : Maps.has D (.string n)
    · rfl
    · obtain ⟨c, hc, e⟩ := hno n g
      exact absurd e (hn c hc)
  have h2 : ∀ z, D.atKey (.string n) z = z := fun z => atKey_of_not_has h1 z
  constructor
  · obtain ⟨v, ps, hr, hv⟩ := hD.lookup strKey Tryz.underlying73 (zeroOb w) (zd := .held noOb) (zp := []) rfl (keyLit n hl)
    rw [h2] at hv
    rw [hr, heldR_ex hv]
  · obtain ⟨v, ps, hr, hv⟩ := hD.look_ok strKey Tryz.underlying73 (zeroOb w) (zd := .held noOb) (zp := []) rfl (keyLit n hl)
    rw [h2] at hv
    rw [hr, heldR_ex hv, h1]

/-- A map has as many entries as it tells. -/
theorem owns_exact {w : World} {mb n : Nat} {D : DataW Value} (h : w.ownsMap Tryz.prog 9 heldR mb n D) : w.ownsMap Tryz.prog 9 heldR mb (Maps.size D) D := by
  obtain ⟨es, clock, hb, F, _, hD⟩ := h
  refine ⟨es, clock, hb, F, ?_, hD⟩
  rw [hD]
  simp [Maps.size, length_sorted]

theorem lit_key (n : List UInt8) : WideAt.IsKeyLit (.string n) := trivial
theorem lit_ne {n m : List UInt8} (h : n ≠ m) : (Lit.string n) ≠ .string m := fun e => h (by injection e)

/-- An object is laid into the map. -/
theorem MapHas.store {w : World} {mb : Nat} {cs : List Ob} (h : MapHas w mb cs) (hu : Up Ob.nm cs) (x : Ob) (hl : x.nm.length ≤ maxLen) (hs : cs.length < maxLen) :
    ∃ w', (Instr.mapUpdate 73 (.map (some mb)) (.string (bs x.nm)) x.ent).run Tryz.prog w = .ok () w' ∧ MapHas w' mb (ins Ob.nm (wo Ob.nm cs x.nm) x) ∧ w.grownBy w' (some mb) := by
  obtain ⟨D, hD, hsz, hin, hno⟩ := h
  obtain ⟨w', hr, hown, hg⟩ := hD.update strKey Tryz.underlying73 hs (keyLit x.nm hl) (val := x.ent) (d := .held x.ent) (ps := []) rfl
  refine ⟨w', hr, ⟨D.put (.string x.nm) (.held x.ent), ?_, ?_, ?_, ?_⟩, hg⟩
  · have hlen : Maps.size (D.put (.string x.nm) (.held x.ent)) = (ins Ob.nm (wo Ob.nm cs x.nm) x).length := by
      rw [size_put (hD.tidy strKey), length_ins, hsz]
      by_cases hx : Maps.has D (.string x.nm) = true
      · obtain ⟨c, hc, e⟩ := hno _ hx
        rw [if_pos hx, ← e, wo_at hu hc, List.length_append, List.length_take, List.length_drop]
        have := pos_lt hu hc
        omega
      · rw [if_neg hx, wo_id]
        intro c hc e
        have := (hin c hc).1
        rw [e] at this
        exact hx this
    rw [← hlen]; exact owns_exact hown
  · rw [size_put (hD.tidy strKey), length_ins, hsz]
    by_cases hx : Maps.has D (.string x.nm) = true
    · obtain ⟨c, hc, e⟩ := hno _ hx
      rw [if_pos hx, ← e, wo_at hu hc, List.length_append, List.length_take, List.length_drop]
      have := pos_lt hu hc
      omega
    · rw [if_neg hx, wo_id]
      intro c hc e
      have := (hin c hc).1
      rw [e] at this
      exact hx this
  · intro c hc
    rcases mem_ins.1 hc with rfl | hc
    · exact ⟨has_put_same hD.isMap (lit_key _) _, fun z => atKey_put_same hD.isMap (lit_key _) _ z⟩
    · obtain ⟨hc, hne⟩ := mem_wo.1 hc
      obtain ⟨a, b⟩ := hin c hc
      exact ⟨by rw [has_put_other (lit_ne hne)]; exact a, fun z => by rw [atKey_put_other (lit_ne hne)]; exact b z⟩
  · intro n hn
    by_cases e : n = x.nm
    · exact ⟨x, mem_ins.2 (Or.inl rfl), e.symm⟩
    · rw [has_put_other (lit_ne e)] at hn
      obtain ⟨c, hc, e'⟩ := hno n hn
      exact ⟨c, mem_ins.2 (Or.inr (mem_wo.2 ⟨hc, by rw [e']; exact e⟩)), e'⟩

/-- An object is taken out of the map. -/
theorem MapHas.drop {w : World} {mb : Nat} {cs : List Ob} (h : MapHas w mb cs) (hu : Up Ob.nm cs) {c : Ob} (hc : c ∈ cs) (hl : c.nm.length ≤ maxLen) (ty : TypeId) :
    ∃ w', (Builtin.delete_ #[73, 9] ty #[.map (some mb), .string (bs c.nm)]).run Tryz.prog w = .ok (.tuple #[]) w' ∧ MapHas w' mb (wo Ob.nm cs c.nm) ∧ w.grownBy w' (some mb) := by
  obtain ⟨D, hD, hsz, hin, hno⟩ := h
  obtain ⟨w', hr, hown, ht⟩ := hD.drop strKey Tryz.underlying73 (keyLit c.nm hl) ty
  have hlen : Maps.size (D.del (.string c.nm)) = (wo Ob.nm cs c.nm).length := by
    have h1 := size_del (k := .string c.nm) (hD.tidy strKey)
    rw [if_pos (hin c hc).1, hsz] at h1
    rw [wo_at hu hc, List.length_append, List.length_take, List.length_drop]
    have := pos_lt hu hc
    omega
  refine ⟨w', hr, ⟨D.del (.string c.nm), by rw [← hlen]; exact owns_exact hown, hlen, fun d hd => ?_, fun n hn => ?_⟩, ht.grown⟩
  · obtain ⟨hd, hne⟩ := mem_wo.1 hd
    obtain ⟨a, b⟩ := hin d hd
    exact ⟨by rw [has_del_other (lit_ne hne)]; exact a, fun z => by rw [atKey_del_other (lit_ne hne)]; exact b z⟩
  · by_cases e : n = c.nm
    · subst e; rw [has_del_same] at hn; cases hn
    · rw [has_del_other (lit_ne e)] at hn
      obtain ⟨d, hd, e'⟩ := hno n hn
      exact ⟨d, mem_wo.2 ⟨hd, by rw [e']; exact e⟩, e'⟩
end Go.Proofs.YtkdidinekoaobaaGreatDoor.M

/- A remote in memory, and how it stays. -/
namespace Go.Proofs.YtkdidinekoaobaaGreatDoor.M
open Go.RowKit Go.Maps

/-- An object is taken out of the map, if it is there. -/
theorem MapHas.dropAny {w : World} {mb : Nat} {cs : List Ob} (h : MapHas w mb cs) (hu : Up Ob.nm cs) (n : List UInt8) (hl : n.length ≤ maxLen) (ty : TypeId) :
    ∃ w', (Builtin.delete_ #[73, 9] ty #[.map (some mb), .string (bs n)]).run Tryz.prog w = .ok (.tuple #[]) w' ∧ MapHas w' mb (wo Ob.nm cs n) ∧ w.grownBy w' (some mb) := by
  by_cases hc : ∃ c ∈ cs, c.nm = n
  · obtain ⟨c, hc, rfl⟩ := hc
    exact h.drop hu hc hl ty
  · have hno : ∀ c ∈ cs, c.nm ≠ n := fun c hcc e => hc ⟨c, hcc, e⟩
    obtain ⟨D, hD, hsz, hin, hno'⟩ := h
    obtain ⟨w', hr, hown, ht⟩ := hD.drop strKey Tryz.underlying73 (keyLit n hl) ty
    have h0 : Maps.has D (.string n) = false := by
      cases g : Maps.has D (.string n)
      · rfl
      · obtain ⟨c, hcc, e⟩ := hno' n g
        exact absurd e (hno c hcc)
    have hlen : Maps.size (D.del (.string n)) = (wo Ob.nm cs n).length := by
      have h1 := size_del (k := .string n) (hD.tidy strKey)
      rw [h0] at h1
      rw [wo_id hno, ← hsz]
      simpa using h1
    refine ⟨w', hr, ⟨D.del (.string n), by rw [← hlen]; exact owns_exact hown, hlen, fun d hd => ?_, fun m hm => ?_⟩, ht.grown⟩
    · obtain ⟨hd, hne⟩ := mem_wo.1 hd
      obtain ⟨a, b⟩ := hin d hd
      exact ⟨by rw [has_del_other (lit_ne hne)]; exact a, fun z => by rw [atKey_del_other (lit_ne hne)]; exact b z⟩
    · by_cases e : m = n
      · subst e; rw [has_del_same] at hm; cases hm
      · rw [has_del_other (lit_ne e)] at hm
        obtain ⟨d, hd, e'⟩ := hno' m hm
        exact ⟨d, mem_wo.2 ⟨hd, by rw [e']; exact e⟩, e'⟩

/-- What is left of the script, as it lies. -/
def Sc (B : Nat) (w : World) (pb mb : Nat) (sv : Value) (sc : List Int) : Prop :=
  ∃ a cap, sv = .slice a sc.length cap ∧ sc.length ≤ cap ∧ cap ≤ maxLen ∧ (a = none → sc = []) ∧ ∀ A, a = some A → ∃ g off, A = ⟨g, off, none⟩ ∧ B ≤ g ∧ g < w.heap.size ∧ g ≠ pb ∧ g ≠ mb ∧ ∀ i y, sc[i]? = some y → w.cell? ⟨g, off + i, none⟩ = some (.int .i64 y)

/-- The blocks of a remote: its own, its map's, its script's. -/
def foot (pb mb : Nat) (sv : Value) (k : Nat) : Prop := k = pb ∨ k = mb ∨ ∃ off n c, sv = .slice (some ⟨k, off, none⟩) n c

/-- The remote in block pb. -/
structure Rk (B : Nat) (w : World) (pb mb : Nat) (sv : Value) (S : Rs) : Prop where
  blk : w.heap[pb]? = some (.cells #[.map (some mb), sv, .int .i64 S.n] 75 (0, 0))
  map : MapHas w mb S.obs
  script : Sc B w pb mb sv S.sc
  base : B ≤ pb ∧ B ≤ mb ∧ mb ≠ pb ∧ B ≤ w.heap.size
  ok : Ok S

section
variable {B pb mb : Nat} {sv : Value} {S : Rs} {w w' : World}

theorem Rk.lt (h : Rk B w pb mb sv S) : pb < w.heap.size ∧ mb < w.heap.size := ⟨(Array.getElem?_eq_some_iff.1 h.blk).1, h.map.lt⟩

theorem Rk.footLt (h : Rk B w pb mb sv S) {k : Nat} (hk : foot pb mb sv k) : B ≤ k ∧ k < w.heap.size := by
  rcases hk with rfl | rfl | ⟨off, n, c, hk⟩
  · exact ⟨h.base.1, h.lt.1⟩
  · exact ⟨h.base.2.1, h.lt.2⟩
  · obtain ⟨a, cap, hv, _, _, _, ha⟩ := h.script
    rw [hk] at hv
    injection hv with e1 e2 e3
    obtain ⟨g, off', hA, hB, hg, _⟩ := ha _ e1.symm
    injection hA with e1 e2 e3
    subst e1
    exact ⟨hB, hg⟩

theorem Sc.kept {sc : List Int} (h : Sc B w pb mb sv sc) (hs : w.heap.size ≤ w'.heap.size) (hk : ∀ k off n c, k < w.heap.size → sv = .slice (some ⟨k, off, none⟩) n c → w'.heap[k]? = w.heap[k]?) : Sc B w' pb mb sv sc := by
  obtain ⟨a, cap, hv, h1, h2, h3, h4⟩ := h
  refine ⟨a, cap, hv, h1, h2, h3, fun A hA => ?_⟩
  obtain ⟨g, off, rfl, hB, hg, n1, n2, hc⟩ := h4 A hA
  refine ⟨g, off, rfl, hB, Nat.lt_of_lt_of_le hg hs, n1, n2, fun i y hy => ?_⟩
  have hb := hk g off _ _ hg (by rw [hv, hA])
  have := hc i y hy
  simp only [World.cell?, hb] at this ⊢
  exact this

theorem Rk.kept {G : Nat → Prop} (h : Rk B w pb mb sv S) (t : Turn G w w') (hG : ∀ k, k < w.heap.size → foot pb mb sv k → ¬ G k) : Rk B w' pb mb sv S := by
  obtain ⟨l1, l2⟩ := h.lt
  have hb : ∀ k, k < w.heap.size → foot pb mb sv k → w'.heap[k]? = w.heap[k]? := fun k hl hk => t.block k hl (hG k hl hk)
  exact ⟨by rw [hb pb l1 (Or.inl rfl)]; exact h.blk, h.map.kept (hb mb l2 (Or.inr (Or.inl rfl))), h.script.kept t.size (fun k off n c hk e => hb k hk (Or.inr (Or.inr ⟨off, n, c, e⟩))), ⟨h.base.1, h.base.2.1, h.base.2.2.1, Nat.le_trans h.base.2.2.2 t.size⟩, h.ok⟩

theorem Rk.below (h : Rk B w pb mb sv S) (hb : Below w.heap.size w w') : Rk B w' pb mb sv S := h.kept (Turn.of_below (fun _ => False) hb (Nat.le_refl _)) (fun _ _ _ f => f)

theorem Rk.cells (h : Rk B w pb mb sv S) : w.cell? ⟨pb, 0, none⟩ = some (.map (some mb)) ∧ w.cell? ⟨pb, 1, none⟩ = some sv ∧ w.cell? ⟨pb, 2, none⟩ = some (.int .i64 S.n) ∧ (∀ j, w.frozen? ⟨pb, j, none⟩ = false) := by
  have hc : ∀ j, w.cell? ⟨pb, j, none⟩ = (#[Value.map (some mb), sv, .int .i64 S.n])[j]? := fun j => cell_of_row w pb j _ _ (0, 0) h.blk
  exact ⟨by rw [hc]; rfl, by rw [hc]; rfl, by rw [hc]; rfl, fun j => by simp [World.frozen?, h.blk]⟩

theorem Rk.setAt (h : Rk B w pb mb sv S) (j : Nat) (v : Value) : (w.setCell ⟨pb, j, none⟩ v).heap[pb]? = some (.cells ((#[Value.map (some mb), sv, .int .i64 S.n]).setIfInBounds j v) 75 (0, 0)) :=
  heap_setCell_same w pb j _ _ v h.blk

/-- Its own block alone has turned: the script that is left, the count. -/
theorem Rk.head (h : Rk B w pb mb sv S) (t : Turn (fun k => k = pb) w w') {sv' : Value} {sc' : List Int} {n' : Int} (hp : w'.heap[pb]? = some (.cells #[.map (some mb), sv', .int .i64 n'] 75 (0, 0)))
    (hs : Sc B w' pb mb sv' sc') (ho : Ok { S with sc := sc', n := n' }) : Rk B w' pb mb sv' { S with sc := sc', n := n' } :=
  ⟨hp, h.map.kept (t.block mb h.lt.2 h.base.2.2.1), hs, ⟨h.base.1, h.base.2.1, h.base.2.2.1, Nat.le_trans h.base.2.2.2 t.size⟩, ho⟩

/-- The map alone has turned. -/
theorem Rk.mapped (h : Rk B w pb mb sv S) (t : Turn (fun k => k = mb) w w') {l : List Ob} (hm : MapHas w' mb l) (ho : Ok { S with obs := l }) : Rk B w' pb mb sv { S with obs := l } :=
  ⟨by rw [t.block pb h.lt.1 (fun e => h.base.2.2.1 e.symm)]; exact h.blk, hm, h.script.kept t.size (fun k off n c hk e => t.block k hk (fun ek => by
    obtain ⟨a, cap, hv, _, _, _, ha⟩ := h.script
    rw [e] at hv
    injection hv with e1 e2 e3
    obtain ⟨g, off', hA, _, _, _, hgm, _⟩ := ha _ e1.symm
    injection hA with e1 e2 e3
    exact hgm (e1 ▸ ek))), ⟨h.base.1, h.base.2.1, h.base.2.2.1, Nat.le_trans h.base.2.2.2 t.size⟩, ho⟩
end

theorem turn_head (w : World) (pb j : Nat) (v : Value) : Turn (fun k => k = pb) w (w.setCell ⟨pb, j, none⟩ v) := (Turn.refl (fun k => k = pb) w).setCell (p := ⟨pb, j, none⟩) rfl v

/-- What a step leaves: the remote, what has turned of it, where it lies now. -/
def RkStep (B pb mb : Nat) (sv : Value) (w : World) (S' : Rs) (w' : World) : Prop := ∃ sv', Rk B w' pb mb sv' S' ∧ (∀ k, foot pb mb sv' k → foot pb mb sv k) ∧ Turn (foot pb mb sv) w w'

theorem RkStep.trans {B pb mb : Nat} {sv : Value} {w w' w'' : World} {S' S'' : Rs} (h : RkStep B pb mb sv w S' w') (k : ∀ sv', Rk B w' pb mb sv' S' → RkStep B pb mb sv' w' S'' w'') : RkStep B pb mb sv w S'' w'' := by
  obtain ⟨sv', h1, h2, h3⟩ := h
  obtain ⟨sv2, k1, k2, k3⟩ := k sv' h1
  exact ⟨sv2, k1, fun i hi => h2 i (k2 i hi), h3.then k3 (fun i hi => Or.inl (h2 i hi))⟩

theorem RkStep.same {B pb mb : Nat} {sv : Value} {w w' : World} {S : Rs} (h : Rk B w pb mb sv S) (t : Below w.heap.size w w') : RkStep B pb mb sv w S w' :=
  ⟨sv, h.below t, fun _ hk => hk, Turn.of_below _ t (Nat.le_refl _)⟩
end Go.Proofs.YtkdidinekoaobaaGreatDoor.M

/- The fate of a call; a script; how many calls. -/
namespace Go.Proofs.YtkdidinekoaobaaGreatDoor.M
open Go.RowKit Go.Maps

/-- Behind a fate: the script is one shorter. -/
def fatePost (B pb mb : Nat) (sv : Value) (S : Rs) (w : World) (e : Ending) (w' : World) : Prop :=
  e = .returned (.int .i64 (fateOf S)) ∧ RkStep B pb mb sv w { S with sc := S.sc.tail } w'

theorem ok_tail {S : Rs} (h : Ok S) : Ok { S with sc := S.sc.tail } := { h with nums := fun y hy => h.nums y (List.mem_of_mem_tail hy) }

/-- The script is cut by one. -/
theorem fate_end {B pb mb : Nat} {S : Rs} {w : World} {y : Int} {r : List Int} {g off cap off' cap' : Nat} (hs : S.sc = y :: r) (h : Rk B w pb mb (.slice (some ⟨g, off, none⟩) S.sc.length cap) S) (hc : ∀ i z, (y :: r)[i]? = some z → w.cell? ⟨g, off + i, none⟩ = some (.int .i64 z))
    (hg : B ≤ g ∧ g < w.heap.size ∧ g ≠ pb ∧ g ≠ mb) (ho : off' = off + 1 ∨ r = []) (h1 : r.length ≤ cap') (h2 : cap' ≤ maxLen) :
    RkStep B pb mb (.slice (some ⟨g, off, none⟩) S.sc.length cap) w { S with sc := S.sc.tail } (w.setCell ⟨pb, 1, none⟩ (.slice (some ⟨g, off', none⟩) r.length cap')) := by
  obtain ⟨g1, g2, g3, g4⟩ := hg
  have ht := turn_head w pb 1 (.slice (some ⟨g, off', none⟩) r.length cap')
  refine ⟨.slice (some ⟨g, off', none⟩) r.length cap', h.head (sc' := S.sc.tail) (n' := S.n) ht (h.setAt 1 _) ?_ (ok_tail h.ok), ?_, ht.mono (fun k _ e => Or.inl e)⟩
  · rw [hs]
    refine ⟨_, cap', rfl, h1, h2, (fun e => by cases e), fun A hA => ?_⟩
    cases hA
    refine ⟨g, off', rfl, g1, by simpa [World.setCell] using g2, g3, g4, fun i z hz => ?_⟩
    have hb : (w.setCell ⟨pb, 1, none⟩ (.slice (some ⟨g, off', none⟩) r.length cap')).heap[g]? = w.heap[g]? := ht.block g g2 g3
    have e : off' = off + 1 := by
      rcases ho with e | e
      · exact e
      · subst e; simp at hz
    subst e
    have := hc (i + 1) z (by simpa using hz)
    rw [show off + (i + 1) = off + 1 + i by omega] at this
    simp only [World.cell?, hb] at this ⊢
    exact this
  · rintro k (rfl | rfl | ⟨o, n, c, e⟩)
    · exact Or.inl rfl
    · exact Or.inr (Or.inl rfl)
    · injection e with e1 e2 e3
      injection e1 with e1
      injection e1 with e1
      subst e1
      exact Or.inr (Or.inr ⟨_, _, _, rfl⟩)

theorem fate_any {B pb mb : Nat} {sv : Value} {S : Rs} {w : World} (h : Rk B w pb mb sv S) :
    Calls Tryz.prog 86 #[.pointer (some ⟨pb, 0, none⟩)] w (fatePost B pb mb sv S w) := by
  obtain ⟨a, cap, hv, h1, h2, h3, h4⟩ := h.script
  subst hv
  obtain ⟨c0, c1, c2, fz⟩ := h.cells
  have f1 := fz 1
  clear fz
  have hlt := h.lt.1
  cases hs : S.sc with
  | nil =>
    rw [hs] at c1 h1
    have H := Lib.hid h; clear h
    have HS := Lib.hid hs; clear hs
    go_enter Tryz.func86, Tryz.ntmps86
    go_wp2
    go_ret
    refine ⟨ret_int (by rw [fateOf, HS.out]; rfl), ?_⟩
    have e : ({ S with sc := S.sc.tail } : Rs) = S := by
      have hs := HS.out
      obtain ⟨o, sc, n⟩ := S
      dsimp only at hs
      subst hs
      rfl
    rw [e, show 0 = S.sc.length by rw [HS.out]; rfl]
    exact RkStep.same H.out (Below.refl _ _)
  | cons y r =>
    rw [hs] at c1 h1 h4
    rw [List.length_cons] at c1 h1
    have ha : a ≠ none := fun e => by have := h3 e; rw [hs] at this; cases this
    obtain ⟨A, rfl⟩ := Option.ne_none_iff_exists'.1 ha
    obtain ⟨g, off, rfl, hB, hg, n1, n2, hc⟩ := h4 A rfl
    have hy := hc 0 y rfl
    rw [Nat.add_zero] at hy
    have HC := Lib.hid hc; clear hc h3 h4 ha
    have HB : B ≤ g ∧ g < w.heap.size ∧ g ≠ pb ∧ g ≠ mb := ⟨hB, hg, n1, n2⟩
    have hm : cap ≤ 9223372036854775807 := by unfold maxLen at h2; omega
    have HM := Lib.hid h2; clear h2
    by_cases h1c : cap = 1
    · subst h1c
      obtain rfl : r = [] := List.eq_nil_of_length_eq_zero (by omega)
      have HE := Lib.hid (fate_end (off' := off) (cap' := 0) hs h HC.out HB (Or.inr rfl) (Nat.le_refl _) (by unfold maxLen; omega))
      have HS := Lib.hid hs; clear hs h
      go_enter Tryz.func86, Tryz.ntmps86
      go_wp2
      go_ret
      exact ⟨ret_int (by rw [fateOf, HS.out]; rfl), by have e := HE.out; rw [show S.sc.length = 1 by rw [HS.out]; rfl] at e; exact e⟩
    · have HE := Lib.hid (fate_end (off' := off + 1) (cap' := cap - 1) hs h HC.out HB (Or.inl rfl) (by omega) (by unfold maxLen; omega))
      have HS := Lib.hid hs; clear hs h
      go_enter Tryz.func86, Tryz.ntmps86
      go_wp2
      all_goals
        go_ret
        exact ⟨ret_int (by rw [fateOf, HS.out]; rfl), by rw [show r.length + 1 = S.sc.length by rw [HS.out]; rfl]; exact HE.out⟩
end Go.Proofs.YtkdidinekoaobaaGreatDoor.M

/- New, Script, Calls. -/
namespace Go.Proofs.YtkdidinekoaobaaGreatDoor.M
open Go.RowKit Go.Maps Go.Shelf

/-- A remote that lies in the blocks F, among those from B on. -/
def RkS (B : Nat) (w : World) (pb : Nat) (F : Nat → Prop) (S : Rs) : Prop := ∃ mb sv, Rk B w pb mb sv S ∧ ∀ k, foot pb mb sv k ↔ F k

/-- What is behind a call: its answer, the remote, what has turned. -/
def RkPost (B pb : Nat) (F : Nat → Prop) (S' : Rs) (r : Value) (w : World) (e : Ending) (w' : World) : Prop :=
  e = .returned r ∧ ∃ F', RkS B w' pb F' S' ∧ (∀ k, F' k → F k ∨ w.heap.size ≤ k) ∧ Turn F w w'

section
variable {B pb : Nat} {w w' : World} {F G : Nat → Prop} {S S' : Rs}
theorem RkS.ok (h : RkS B w pb F S) : Ok S := by obtain ⟨_, _, h, _⟩ := h; exact h.ok
theorem RkS.lt (h : RkS B w pb F S) {k : Nat} (hk : F k) : B ≤ k ∧ k < w.heap.size := by
  obtain ⟨_, _, h, hF⟩ := h
  exact h.footLt ((hF k).2 hk)
theorem RkS.kept (h : RkS B w pb F S) (t : Turn G w w') (hG : ∀ k, k < w.heap.size → F k → ¬ G k) : RkS B w' pb F S := by
  obtain ⟨mb, sv, h, hF⟩ := h
  exact ⟨mb, sv, h.kept t (fun k hk hm => hG k hk ((hF k).1 hm)), hF⟩
theorem RkS.below (h : RkS B w pb F S) (hb : Below w.heap.size w w') : RkS B w' pb F S := h.kept (Turn.of_below (fun _ => False) hb (Nat.le_refl _)) (fun _ _ _ f => f)
theorem RkS.size (h : RkS B w pb F S) : B ≤ w.heap.size := by obtain ⟨_, _, h, _⟩ := h; exact h.base.2.2.2

/-- .. that lies in no new block. -/
def RkPostS (B pb : Nat) (F : Nat → Prop) (S' : Rs) (r : Value) (w : World) (e : Ending) (w' : World) : Prop :=
  e = .returned r ∧ ∃ F', RkS B w' pb F' S' ∧ (∀ k, F' k → F k) ∧ Turn F w w'
theorem RkPostS.wide {F : Nat → Prop} {r : Value} {e : Ending} (h : RkPostS B pb F S' r w e w') : RkPost B pb F S' r w e w' := by
  obtain ⟨h1, F', h2, h3, h4⟩ := h
  exact ⟨h1, F', h2, fun k hk => Or.inl (h3 k hk), h4⟩
/-- A step, seen from outside. -/
theorem RkS.stepS (h : RkS B w pb F S) {r : Value} {fn : Nat} {args : Array Value} (hc : ∀ mb sv, Rk B w pb mb sv S → Calls Tryz.prog fn args w fun e w' => e = .returned r ∧ RkStep B pb mb sv w S' w') : Calls Tryz.prog fn args w (RkPostS B pb F S' r w) := by
  obtain ⟨mb, sv, h, hF⟩ := h
  refine (hc mb sv h).mono ?_
  rintro e w' ⟨rfl, sv', h', hf, t⟩
  refine ⟨rfl, foot pb mb sv', ⟨mb, sv', h', fun _ => Iff.rfl⟩, fun k hk => ?_, t.mono (fun k _ hk => (hF k).1 hk)⟩
  exact (hF k).1 (hf k hk)
/-- A step that may lay new blocks (a script). -/
def RkStepN (B pb mb : Nat) (sv : Value) (w : World) (S' : Rs) (w' : World) : Prop := ∃ sv', Rk B w' pb mb sv' S' ∧ (∀ k, foot pb mb sv' k → foot pb mb sv k ∨ w.heap.size ≤ k) ∧ Turn (foot pb mb sv) w w'
theorem RkS.step (h : RkS B w pb F S) {r : Value} {fn : Nat} {args : Array Value} (hc : ∀ mb sv, Rk B w pb mb sv S → Calls Tryz.prog fn args w fun e w' => e = .returned r ∧ RkStepN B pb mb sv w S' w') : Calls Tryz.prog fn args w (RkPost B pb F S' r w) := by
  obtain ⟨mb, sv, h, hF⟩ := h
  refine (hc mb sv h).mono ?_
  rintro e w' ⟨rfl, sv', h', hf, t⟩
  refine ⟨rfl, foot pb mb sv', ⟨mb, sv', h', fun _ => Iff.rfl⟩, fun k hk => ?_, t.mono (fun k _ hk => (hF k).1 hk)⟩
  rcases hf k hk with hk | hk
  · exact Or.inl ((hF k).1 hk)
  · exact Or.inr hk
end

/-! ### Calls -/
theorem calls_any {B pb : Nat} {w : World} {F : Nat → Prop} {S : Rs} (h : RkS B w pb F S) :
    Calls Tryz.prog 25 #[.pointer (some ⟨pb, 0, none⟩)] w fun e w' => e = .returned (.int .i64 S.n) ∧ w = w' := by
  obtain ⟨mb, sv, h, _⟩ := h
  obtain ⟨c0, c1, c2, fz⟩ := h.cells
  clear fz
  have hlt := h.lt.1
  go_enter Tryz.func25, Tryz.ntmps25
  go_wp2
  go_ret
  exact ⟨rfl, rfl⟩

/-! ### New -/
def newS : Rs := ⟨[], [], 0⟩
theorem ok_new : Ok newS := ⟨List.Pairwise.nil, (fun _ h => by cases h), by simp [newS], by simp [newS], (fun _ h => by cases h)⟩

def newPost (w : World) (e : Ending) (w' : World) : Prop := ∃ pb F, e = .returned (.pointer (some ⟨pb, 0, none⟩)) ∧ RkS w.heap.size w' pb F newS ∧ (∀ k, F k → w.heap.size ≤ k) ∧ Below w.heap.size w w'

theorem new_any (w : World) : Calls Tryz.prog 8 #[] w (newPost w) := by
  have hmm := @run_makeMap Tryz.prog
  go_enter Tryz.func8, Tryz.ntmps8
  go_wp2
  have hD : Rk w.heap.size ((w.alloc (.map #[] 0)).alloc (.cells #[.map (some w.heap.size), .slice none 0 0, .int .i64 0] 75)) (w.heap.size + 1) w.heap.size (.slice none 0 0) newS := by
    have hm : (w.alloc (.map #[] 0)).ownsMap Tryz.prog 9 heldR w.heap.size 0 (.map []) := World.ownsMap_made w _ _ _
    have hsz : (w.alloc (.map #[] 0)).heap.size = w.heap.size + 1 := by simp
    refine ⟨?_, ⟨.map [], hm.alloc _, rfl, fun c hc => (by cases hc), fun n hn => (by simp [Maps.has] at hn)⟩, ⟨none, 0, rfl, Nat.le_refl _, by unfold maxLen; omega, fun _ => rfl, fun A hA => (by cases hA)⟩,
      ⟨by omega, Nat.le_refl _, by omega, by simp; omega⟩, ok_new⟩
    have := heap_alloc_new (w.alloc (.map #[] 0)) (.cells #[.map (some w.heap.size), .slice none 0 0, .int .i64 0] 75)
    rw [hsz] at this
    rw [this]
    simp [newS]
  go_ret
  refine ⟨w.heap.size + 1, _, rfl, ⟨_, _, hD, fun _ => Iff.rfl⟩, fun k hk => ?_, ((Below.refl _ _).alloc (Nat.le_refl _) _).alloc (by simp) _⟩
  exact (hD.footLt hk).1

/-! ### Script -/
/-- Numbers in a slice that came in. -/
def IntsAt (w : World) (a : Option Addr) (l : List Int) : Prop := ∀ i y, l[i]? = some y → ∃ b off, a = some ⟨b, off, none⟩ ∧ b < w.heap.size ∧ w.cell? ⟨b, off + i, none⟩ = some (.int .i64 y)

theorem cloneI_any (a : Option Addr) (l : List Int) (c : Nat) (w : World) (h : IntsAt w a l) (hb : l.length ≤ 17592186044416) :
    Calls Tryz.prog 49 #[.slice a l.length c] w fun e w' => ∃ v', e = .returned v' ∧ w'.ownsRow w.heap.size 3 1 v' l.length (l.map (Value.int .i64)) ∧ Below w.heap.size w w' := by
  cases a with
  | none =>
    refine (Any.slices_Clone_int_nil laysCloneI l.length c w).mono ?_
    rintro e w' ⟨rfl, rfl⟩
    have : l = [] := by
      cases l with
      | nil => rfl
      | cons y r => obtain ⟨b, off, e, _⟩ := h 0 y rfl; cases e
    subst this
    exact ⟨_, rfl, World.ownsRow_nil _ _ _ _, Below.refl _ _⟩
  | some A =>
    by_cases hz : l = []
    · subst hz
      refine (Any.slices_Clone_int_zero laysCloneI A c w).mono ?_
      rintro e w' ⟨v', rfl, h1, _, h3⟩
      exact ⟨v', rfl, h1, h3⟩
    obtain ⟨b, off, s⟩ := A
    obtain rfl : s = none := by
      obtain ⟨y, r, rfl⟩ : ∃ y r, l = y :: r := List.exists_cons_of_ne_nil hz
      obtain ⟨b', off', e, _⟩ := h 0 y rfl
      cases e
      rfl
    refine (Any.slices_Clone_int laysCloneI b off l.length c l w (Nat.le_refl _) (by omega) (fun j hj => ?_)).mono ?_
    · obtain ⟨b', off', e, _, hc⟩ := h j l[j] (List.getElem?_eq_getElem hj)
      cases e
      rw [hc]
      simp [List.getD, hj]
    · rintro e w' ⟨v', rfl, h1, _, h3⟩
      rw [List.take_length] at h1
      exact ⟨v', rfl, h1, h3⟩

def setS (S : Rs) (l : List Int) : Rs := { S with sc := l }

/-- A row that the program owns is a script. -/
theorem sc_of_owns {B B' : Nat} {w : World} {v : Value} {l : List Int} {pb mb : Nat} (h : w.ownsRow B' 3 1 v l.length (l.map (Value.int .i64))) (hB : B ≤ B') (hp : pb < B') (hm : mb < B') : Sc B w pb mb v l := by
  rcases owns_cases h with ⟨rfl, h0, _⟩ | ⟨g, cap, cur, rfl, hBg, hgl, hg, hcap, hcm, hs, hl, hcur, hcell, _, _⟩
  · obtain rfl : l = [] := List.eq_nil_of_length_eq_zero h0
    exact ⟨none, 0, rfl, Nat.le_refl _, by unfold maxLen; omega, fun _ => rfl, fun A hA => (by cases hA)⟩
  · refine ⟨_, cap, rfl, hcap, hcm, (fun e => by cases e), fun A hA => ?_⟩
    cases hA
    refine ⟨g, 0, rfl, by omega, hgl, by omega, by omega, fun i y hy => ?_⟩
    have hi : i < l.length := (List.getElem?_eq_some_iff.1 hy).1
    rw [Nat.zero_add, hcell i hi, List.getElem?_map, hy]
    rfl

theorem script_any {B pb mb : Nat} {sv : Value} {S : Rs} {w : World} (h : Rk B w pb mb sv S) (a : Option Addr) (l : List Int) (c : Nat) (hl : IntsAt w a l) (hb : l.length ≤ 17592186044416) (hr : ∀ y ∈ l, -9223372036854775808 ≤ y ∧ y ≤ 9223372036854775807) :
    Calls Tryz.prog 20 #[.pointer (some ⟨pb, 0, none⟩), .slice a l.length c] w fun e w' => e = .returned (.tuple #[]) ∧ RkStepN B pb mb sv w (setS S l) w' := by
  have hc := Lib.hid (cloneI_any a l c w hl hb)
  have hlt := h.lt.1
  have H := Lib.hid h; clear h
  have HR := Lib.hid hr; clear hr hl
  go_enter Tryz.func20, Tryz.ntmps20
  go_wp2_with fail
  refine hc.out.mono ?_
  rintro e w1 ⟨v, rfl, hown, hb1⟩
  have h1 := H.out.below hb1
  have hsc : Sc B w1 pb mb v l := sc_of_owns hown H.out.base.2.2.2 H.out.lt.1 H.out.lt.2
  obtain ⟨va, vc, rfl⟩ : ∃ va vc, v = .slice va l.length vc := by obtain ⟨va, vc, e, _⟩ := hsc; exact ⟨va, vc, e⟩
  obtain ⟨c0, c1, c2, fz⟩ := h1.cells
  have f1 := fz 1
  clear fz
  have ht := turn_head w1 pb 1 (.slice va l.length vc)
  have hstep : RkStepN B pb mb sv w (setS S l) (w1.setCell ⟨pb, 1, none⟩ (.slice va l.length vc)) := by
    refine ⟨.slice va l.length vc, h1.head (sc' := l) (n' := S.n) ht (h1.setAt 1 _) (hsc.kept (by simp [World.setCell]) (fun k off n c hk e => ht.block k hk (fun ek => ?_))) { H.out.ok with nums := HR.out }, fun k hk => ?_, (Turn.of_below _ hb1 (Nat.le_refl _)).trans (ht.mono (fun k _ e => Or.inl e))⟩
    · have hin := hown.lt
      obtain ⟨_, _, e', _, _, _, hA⟩ := hsc
      rw [e'] at e
      injection e with e1
      obtain ⟨g, o, eA, _, _, hp, _⟩ := hA _ e1
      injection eA with eg
      exact hp (eg ▸ ek)
    · rcases hk with rfl | rfl | ⟨o, n, c', e⟩
      · exact Or.inl (Or.inl rfl)
      · exact Or.inl (Or.inr (Or.inl rfl))
      · right
        rcases owns_cases hown with ⟨e0, _, _⟩ | ⟨g, cap, cur, e0, hBg, _⟩
        · rw [e0] at e; cases e
        · rw [e0] at e
          injection e with e1
          injection e1 with e1
          injection e1 with e1
          omega
  have HS := Lib.hid hstep
  clear hstep hsc hown ht h1
  go_wp2_with fail
  go_end0
  exact ⟨rfl, HS.out⟩
end Go.Proofs.YtkdidinekoaobaaGreatDoor.M

/- The effects of the calls: put, putNew, get, remove. -/
namespace Go.Proofs.YtkdidinekoaobaaGreatDoor.M
open Go.RowKit Go.Maps
set_option linter.unusedVariables false

/-- What an effect answers. -/
def answ (b : List UInt8) (v : Value) (e : Int) : Value := .agg #[.string (bs b), v, .int .i64 e]
def noVal : Value := .slice none 0 0
def effPost (B pb mb : Nat) (sv : Value) (w : World) (S' : Rs) (b : List UInt8) (err : Int) (e : Ending) (w' : World) : Prop :=
  e = .returned (answ b (.slice none 0 0) err) ∧ RkStep B pb mb sv w S' w'

theorem ok_lays {S : Rs} (h : Ok S) {n b : List UInt8} (hn : n.length ≤ 9223372036854775807) (hf : S.obs.length < 1000000000) : Ok { S with obs := lays S.obs n b } :=
  { up := up_lays h.up n b, short := fun o ho => by
      rcases mem_ins.1 ho with rfl | ho
      · exact hn
      · exact h.short o (mem_wo.1 ho).1, few := by have := len_lays S.obs n b; dsimp only; omega, calls := h.calls, nums := h.nums }
theorem ok_wo {S : Rs} (h : Ok S) (n : List UInt8) : Ok { S with obs := wo Ob.nm S.obs n } :=
  { up := up_wo h.up n, short := fun o ho => h.short o (mem_wo.1 ho).1, few := Nat.le_trans (List.length_filter_le _ _) h.few, calls := h.calls, nums := h.nums }

/-- The map has turned, and new blocks are there. -/
theorem Rk.laid {B pb mb : Nat} {sv : Value} {S : Rs} {w w' : World} (h : Rk B w pb mb sv S) (t : Turn (fun k => k = mb) w w') {l : List Ob} (hm : MapHas w' mb l) (ho : Ok { S with obs := l }) : RkStep B pb mb sv w { S with obs := l } w' :=
  ⟨sv, h.mapped t hm ho, fun _ hk => hk, t.mono (fun k _ e => Or.inr (Or.inl e))⟩

theorem RkStep.later {B pb mb : Nat} {sv : Value} {w w' w'' : World} {S' : Rs} (h : RkStep B pb mb sv w S' w') (t : Below w'.heap.size w' w'') : RkStep B pb mb sv w S' w'' := h.trans (fun _ h' => RkStep.same h' t)

/-- The three cells of a block. -/
theorem box3 {w : World} {g : Nat} {v0 v1 v2 : Value} {T : TypeId} (h : w.heap[g]? = some (.cells #[v0, v1, v2] T (0, 0))) :
    (w.cell? ⟨g, 0, none⟩ = some v0 ∧ w.cell? ⟨g, 1, none⟩ = some v1 ∧ w.cell? ⟨g, 2, none⟩ = some v2) ∧ (w.frozen? ⟨g, 0, none⟩ = false ∧ w.frozen? ⟨g, 1, none⟩ = false ∧ w.frozen? ⟨g, 2, none⟩ = false) := by
  have hc : ∀ j, w.cell? ⟨g, j, none⟩ = (#[v0, v1, v2])[j]? := fun j => cell_of_row w g j _ _ (0, 0) h
  exact ⟨⟨by rw [hc]; rfl, by rw [hc]; rfl, by rw [hc]; rfl⟩, by simp [World.frozen?, h], by simp [World.frozen?, h], by simp [World.frozen?, h]⟩

/-- .. written over. -/
theorem box3_set {w : World} {g : Nat} {v0 v1 v2 u0 u1 u2 : Value} {T : TypeId} (h : w.heap[g]? = some (.cells #[v0, v1, v2] T (0, 0))) :
    (((w.setCell ⟨g, 0, none⟩ u0).setCell ⟨g, 1, none⟩ u1).setCell ⟨g, 2, none⟩ u2).heap[g]? = some (.cells #[u0, u1, u2] T (0, 0)) :=
  heap_setCell_same _ g 2 _ _ u2 (heap_setCell_same _ g 1 _ _ u1 (heap_setCell_same w g 0 _ _ u0 h))

theorem put_any {B pb mb : Nat} {sv : Value} {S : Rs} {w : World} {n b : List UInt8} (h : Rk B w pb mb sv S) (hn : n.length ≤ maxLen) (hf : S.obs.length < 1000000000) :
    Calls Tryz.prog 51 #[.pointer (some ⟨pb, 0, none⟩), .string (bs n), .string (bs b)] w (effPost B pb mb sv w { S with obs := lays S.obs n b } [] 0) := by
  obtain ⟨c0, c1, c2, fz⟩ := h.cells
  clear fz
  have hlt := h.lt.1
  have ho := ok_lays (b := b) h.ok (by unfold maxLen at hn; omega) hf
  have h0 : Rk B (w.alloc (.cells #[.string ⟨#[]⟩, .slice none 0 0, .int .i64 0] 95)) pb mb sv S := h.below ((Below.refl _ w).alloc (Nat.le_refl _) _)
  obtain ⟨w', hr, m1, hg⟩ := h0.map.store h0.ok.up ⟨n, b⟩ hn (by unfold maxLen; omega)
  have hr' : (Instr.mapUpdate 73 (.map (some mb)) (.string (bs n)) (.agg #[.string (bs b)])).run Tryz.prog (w.alloc (.cells #[.string ⟨#[]⟩, .slice none 0 0, .int .i64 0] 95)) = .ok () w' := hr
  clear hr
  have hblk : w'.heap[w.heap.size]? = some (.cells #[.string ⟨#[]⟩, .slice none 0 0, .int .i64 0] 95 (0, 0)) := by
    rw [hg.block w.heap.size (by simp) (fun e => by injection e with e; have := h.lt.2; omega)]
    exact heap_alloc_new w _
  have HH := Lib.hid h
  have HG := Lib.hid hg; have HM := Lib.hid m1
  have hz : w.heap.size < w'.heap.size := (Array.getElem?_eq_some_iff.1 hblk).1
  obtain ⟨⟨b0, b1, b2⟩, z0, z1, z2⟩ := box3 hblk
  have HB := Lib.hid hblk
  clear hg m1 h h0 hblk
  go_enter Tryz.func51, Tryz.ntmps51
  go_wp2
  have t0 : Turn (fun k => k = mb) w w' := ((Turn.refl _ w).alloc _).grown HG.out (fun k hk => Or.inl (by cases hk; rfl))
  have t1 := ((t0.setNew (p := ⟨w.heap.size, 0, none⟩) (Nat.le_refl _) (.string ⟨#[]⟩)).setNew (p := ⟨w.heap.size, 1, none⟩) (Nat.le_refl _) (.slice none 0 0)).setNew (p := ⟨w.heap.size, 2, none⟩) (Nat.le_refl _) (.int .i64 0)
  have k1 := box3_set (u0 := .string ⟨#[]⟩) (u1 := .slice none 0 0) (u2 := .int .i64 0) HB.out
  have m1 : MapHas (((w'.setCell ⟨w.heap.size, 0, none⟩ (.string ⟨#[]⟩)).setCell ⟨w.heap.size, 1, none⟩ (.slice none 0 0)).setCell ⟨w.heap.size, 2, none⟩ (.int .i64 0)) mb (ins Ob.nm (wo Ob.nm S.obs n) ⟨n, b⟩) := HM.out.kept (by
    have hne : mb ≠ w.heap.size := by have := HH.out.lt.2; omega
    rw [Below.heap_setCell _ _ _ _ hne, Below.heap_setCell _ _ _ _ hne, Below.heap_setCell _ _ _ _ hne])
  generalize ((w'.setCell ⟨w.heap.size, 0, none⟩ (.string ⟨#[]⟩)).setCell ⟨w.heap.size, 1, none⟩ (.slice none 0 0)).setCell ⟨w.heap.size, 2, none⟩ (.int .i64 0) = W at t1 k1 m1 ⊢
  obtain ⟨⟨d0, d1, d2⟩, _⟩ := box3 k1
  refine bodyPost_ret (v := answ [] (.slice none 0 0) 0) (by simp [results, Tryz.results51, go_sem, answ, d0, d1, d2]; rfl) rfl ⟨rfl, ?_⟩
  exact HH.out.laid t1 m1 ho

/-- The variable of the answer, behind a call that leaves it as it is, and when the answer has been laid into it. -/
theorem RkStep.boxed {B pb mb : Nat} {sv : Value} {S S' : Rs} {w W w' : World} {g : Nat} {v0 v1 v2 : Value} {T : TypeId} (h : Rk B w pb mb sv S) (hW : Below w.heap.size w W) (hs : RkStep B pb mb sv W S' w') (hg : w.heap.size ≤ g)
    (hgb : W.heap[g]? = some (.cells #[v0, v1, v2] T (0, 0))) :
    w'.heap[g]? = some (.cells #[v0, v1, v2] T (0, 0)) ∧ ∀ u0 u1 u2, RkStep B pb mb sv w S' (((w'.setCell ⟨g, 0, none⟩ u0).setCell ⟨g, 1, none⟩ u1).setCell ⟨g, 2, none⟩ u2) := by
  obtain ⟨sv', k1, k2, k3⟩ := hs
  have hgl : g < W.heap.size := (Array.getElem?_eq_some_iff.1 hgb).1
  have hn : ∀ k, foot pb mb sv k → k ≠ g := fun k hk e => by have := (h.footLt hk).2; omega
  have hn' : ∀ k, foot pb mb sv' k → k ≠ g := fun k hk e => hn k (k2 k hk) e
  refine ⟨by rw [k3.block g hgl (fun hf => hn g hf rfl)]; exact hgb, fun u0 u1 u2 => ?_⟩
  have t : Turn (fun k => k = g) w' (((w'.setCell ⟨g, 0, none⟩ u0).setCell ⟨g, 1, none⟩ u1).setCell ⟨g, 2, none⟩ u2) := (((Turn.refl (fun k => k = g) w').setCell (p := ⟨g, 0, none⟩) rfl u0).setCell (p := ⟨g, 1, none⟩) rfl u1).setCell (p := ⟨g, 2, none⟩) rfl u2
  refine ⟨sv', k1.kept t (fun k _ hk => hn' k hk), k2, ((Turn.of_below _ hW (Nat.le_refl _)).trans k3).then t (fun k e => Or.inr (e ▸ hg))⟩

/-! ### get -/
def found (S : Rs) (n : List UInt8) (o : Ob) : Prop := o ∈ S.obs ∧ o.nm = n

theorem get_yes {B pb mb : Nat} {sv : Value} {S : Rs} {w : World} {n b : List UInt8} (x : List UInt8) (h : Rk B w pb mb sv S) (hn : n.length ≤ maxLen) (ho : (⟨n, b⟩ : Ob) ∈ S.obs) :
    Calls Tryz.prog 83 #[.pointer (some ⟨pb, 0, none⟩), .string (bs n), .string (bs x)] w (effPost B pb mb sv w S b 0) := by
  obtain ⟨c0, c1, c2, fz⟩ := h.cells
  clear fz
  have hlt := h.lt.1
  have h0 : Rk B (w.alloc (.cells #[.string ⟨#[]⟩, .slice none 0 0, .int .i64 0] 95)) pb mb sv S := h.below ((Below.refl _ w).alloc (Nat.le_refl _) _)
  have hl := (h0.map.look_yes ho hn).2
  have hl' : (Instr.lookup 73 (.map (some mb)) (.string (bs n)) true).run Tryz.prog (w.alloc (.cells #[.string ⟨#[]⟩, .slice none 0 0, .int .i64 0] 95)) = .ok (.tuple #[.agg #[.string (bs b)], .bool true]) (w.alloc (.cells #[.string ⟨#[]⟩, .slice none 0 0, .int .i64 0] 95)) := hl
  clear hl h0
  have HH := Lib.hid h
  clear h
  go_enter Tryz.func83, Tryz.ntmps83
  go_wp2_with (at_lookup; refine wpList_lookup_run _ rfl _ _ _ _ rfl _ _ rfl rfl (.tuple #[.agg #[.string (bs b)], .bool true]) hl' ?_)
  refine bodyPost_ret (v := answ b (.slice none 0 0) 0) (by simp [results, Tryz.results83, go_sem, answ]) rfl ⟨rfl, ?_⟩
  exact RkStep.same HH.out (((Below.refl _ w).alloc (Nat.le_refl _) _).alloc (by simp) _)

theorem get_no {B pb mb : Nat} {sv : Value} {S : Rs} {w : World} {n : List UInt8} (x : List UInt8) (h : Rk B w pb mb sv S) (hn : n.length ≤ maxLen) (ho : ∀ c ∈ S.obs, c.nm ≠ n) :
    Calls Tryz.prog 83 #[.pointer (some ⟨pb, 0, none⟩), .string (bs n), .string (bs x)] w (effPost B pb mb sv w S [] 5) := by
  obtain ⟨c0, c1, c2, fz⟩ := h.cells
  clear fz
  have hlt := h.lt.1
  have h0 : Rk B (w.alloc (.cells #[.string ⟨#[]⟩, .slice none 0 0, .int .i64 0] 95)) pb mb sv S := h.below ((Below.refl _ w).alloc (Nat.le_refl _) _)
  have hl := (h0.map.look_no ho hn).2
  have hl' : (Instr.lookup 73 (.map (some mb)) (.string (bs n)) true).run Tryz.prog (w.alloc (.cells #[.string ⟨#[]⟩, .slice none 0 0, .int .i64 0] 95)) = .ok (.tuple #[.agg #[.string (bs [])], .bool false]) (w.alloc (.cells #[.string ⟨#[]⟩, .slice none 0 0, .int .i64 0] 95)) := hl
  clear hl h0
  have HH := Lib.hid h
  clear h
  go_enter Tryz.func83, Tryz.ntmps83
  go_wp2_with (at_lookup; refine wpList_lookup_run _ rfl _ _ _ _ rfl _ _ rfl rfl (.tuple #[.agg #[.string (bs [])], .bool false]) hl' ?_)
  refine bodyPost_ret (v := answ [] (.slice none 0 0) 5) (by simp [results, Tryz.results83, go_sem, answ]; rfl) rfl ⟨rfl, ?_⟩
  exact RkStep.same HH.out (((Below.refl _ w).alloc (Nat.le_refl _) _).alloc (by simp) _)

theorem get_eff {B pb mb : Nat} {sv : Value} {S : Rs} {w : World} (n x : List UInt8) (h : Rk B w pb mb sv S) (hn : n.length ≤ maxLen) :
    Calls Tryz.prog 83 #[.pointer (some ⟨pb, 0, none⟩), .string (bs n), .string (bs x)] w (effPost B pb mb sv w S (getB S.obs n) (getE S.obs n)) := by
  unfold getB getE
  cases hl : look S.obs n with
  | none => exact get_no x h hn (look_none hl)
  | some o =>
    obtain ⟨h1, rfl⟩ := look_mem hl
    exact get_yes x h hn h1

/-! ### putNew -/
theorem putNew_yes {B pb mb : Nat} {sv : Value} {S : Rs} {w : World} {n b : List UInt8} (x : List UInt8) (h : Rk B w pb mb sv S) (hn : n.length ≤ maxLen) (ho : (⟨n, b⟩ : Ob) ∈ S.obs) :
    Calls Tryz.prog 99 #[.pointer (some ⟨pb, 0, none⟩), .string (bs n), .string (bs x)] w (effPost B pb mb sv w S [] 7) := by
  obtain ⟨c0, c1, c2, fz⟩ := h.cells
  clear fz
  have hlt := h.lt.1
  have h0 : Rk B (w.alloc (.cells #[.string ⟨#[]⟩, .slice none 0 0, .int .i64 0] 95)) pb mb sv S := h.below ((Below.refl _ w).alloc (Nat.le_refl _) _)
  have hl := (h0.map.look_yes ho hn).2
  have hl' : (Instr.lookup 73 (.map (some mb)) (.string (bs n)) true).run Tryz.prog (w.alloc (.cells #[.string ⟨#[]⟩, .slice none 0 0, .int .i64 0] 95)) = .ok (.tuple #[.agg #[.string (bs b)], .bool true]) (w.alloc (.cells #[.string ⟨#[]⟩, .slice none 0 0, .int .i64 0] 95)) := hl
  clear hl h0
  have HH := Lib.hid h
  clear h
  go_enter Tryz.func99, Tryz.ntmps99
  go_wp2_with (at_lookup; refine wpList_lookup_run _ rfl _ _ _ _ rfl _ _ rfl rfl (.tuple #[.agg #[.string (bs b)], .bool true]) hl' ?_)
  refine bodyPost_ret (v := answ [] (.slice none 0 0) 7) (by simp [results, Tryz.results99, go_sem, answ]; rfl) rfl ⟨rfl, ?_⟩
  exact RkStep.same HH.out (((Below.refl _ w).alloc (Nat.le_refl _) _).alloc (by simp) _)

theorem putNew_no {B pb mb : Nat} {sv : Value} {S : Rs} {w : World} {n : List UInt8} (x : List UInt8) (h : Rk B w pb mb sv S) (hn : n.length ≤ maxLen) (ho : ∀ c ∈ S.obs, c.nm ≠ n) (hf : S.obs.length < 1000000000) :
    Calls Tryz.prog 99 #[.pointer (some ⟨pb, 0, none⟩), .string (bs n), .string (bs x)] w (effPost B pb mb sv w { S with obs := lays S.obs n x } [] 0) := by
  obtain ⟨c0, c1, c2, fz⟩ := h.cells
  clear fz
  have hlt := h.lt.1
  have h0 : Rk B (w.alloc (.cells #[.string ⟨#[]⟩, .slice none 0 0, .int .i64 0] 95)) pb mb sv S := h.below ((Below.refl _ w).alloc (Nat.le_refl _) _)
  have hl := (h0.map.look_no ho hn).2
  have hl' : (Instr.lookup 73 (.map (some mb)) (.string (bs n)) true).run Tryz.prog (w.alloc (.cells #[.string ⟨#[]⟩, .slice none 0 0, .int .i64 0] 95)) = .ok (.tuple #[.agg #[.string (bs [])], .bool false]) (w.alloc (.cells #[.string ⟨#[]⟩, .slice none 0 0, .int .i64 0] 95)) := hl
  clear hl h0
  have HH := Lib.hid h
  clear h
  go_enter Tryz.func99, Tryz.ntmps99
  go_wp2_with (at_lookup; refine wpList_lookup_run _ rfl _ _ _ _ rfl _ _ rfl rfl (.tuple #[.agg #[.string (bs [])], .bool false]) hl' ?_)
  have hb : Below w.heap.size w ((w.alloc (.cells #[.string ⟨#[]⟩, .slice none 0 0, .int .i64 0] 95)).alloc (.cells #[.string (bs [])] 136)) := ((Below.refl _ w).alloc (Nat.le_refl _) _).alloc (by simp) _
  have hbox : ((w.alloc (.cells #[.string ⟨#[]⟩, .slice none 0 0, .int .i64 0] 95)).alloc (.cells #[.string (bs [])] 136)).heap[w.heap.size]? = some (.cells #[.string ⟨#[]⟩, .slice none 0 0, .int .i64 0] 95 (0, 0)) := by
    rw [Below.heap_alloc _ _ _ (by simp)]
    exact heap_alloc_new w _
  refine (put_any (b := x) (HH.out.below hb) hn hf).mono ?_
  rintro e w' ⟨rfl, hs⟩
  obtain ⟨k0, k1⟩ := RkStep.boxed HH.out hb hs (Nat.le_refl _) hbox
  have K0 := Lib.hid k0
  obtain ⟨⟨b0, b1, b2⟩, z0, z1, z2⟩ := box3 k0
  have K1 := Lib.hid (k1 (.string (bs [])) (.slice none 0 0) (.int .i64 0))
  clear k0 k1 hs hb hbox
  unfold answ
  go_wp2_with fail
  have k0 := box3_set (u0 := .string (bs [])) (u1 := .slice none 0 0) (u2 := .int .i64 0) K0.out
  have k1 := K1.out
  clear K1 K0
  generalize ((w'.setCell ⟨w.heap.size, 0, none⟩ (.string (bs []))).setCell ⟨w.heap.size, 1, none⟩ (.slice none 0 0)).setCell ⟨w.heap.size, 2, none⟩ (.int .i64 0) = W at k0 k1 ⊢
  obtain ⟨⟨d0, d1, d2⟩, _⟩ := box3 k0
  exact bodyPost_ret (v := answ [] (.slice none 0 0) 0) (by simp [results, Tryz.results99, go_sem, answ, d0, d1, d2]) rfl ⟨rfl, k1⟩

theorem putNew_eff {B pb mb : Nat} {sv : Value} {S : Rs} {w : World} (n x : List UInt8) (h : Rk B w pb mb sv S) (hn : n.length ≤ maxLen) (hf : S.obs.length < 1000000000) :
    Calls Tryz.prog 99 #[.pointer (some ⟨pb, 0, none⟩), .string (bs n), .string (bs x)] w (effPost B pb mb sv w { S with obs := newL S.obs n x } [] (newE S.obs n)) := by
  unfold newL newE
  cases hl : look S.obs n with
  | none => exact putNew_no x h hn (look_none hl) hf
  | some o =>
    obtain ⟨h1, rfl⟩ := look_mem hl
    exact putNew_yes x h hn h1

/-! ### remove -/
theorem remove_eff {B pb mb : Nat} {sv : Value} {S : Rs} {w : World} (n x : List UInt8) (h : Rk B w pb mb sv S) (hn : n.length ≤ maxLen) :
    Calls Tryz.prog 54 #[.pointer (some ⟨pb, 0, none⟩), .string (bs n), .string (bs x)] w (effPost B pb mb sv w { S with obs := wo Ob.nm S.obs n } [] 0) := by
  obtain ⟨c0, c1, c2, fz⟩ := h.cells
  clear fz
  have hlt := h.lt.1
  have ho := ok_wo h.ok n
  have h0 : Rk B (w.alloc (.cells #[.string ⟨#[]⟩, .slice none 0 0, .int .i64 0] 95)) pb mb sv S := h.below ((Below.refl _ w).alloc (Nat.le_refl _) _)
  obtain ⟨w', hr, m1, hg⟩ : ∃ w', (∀ ty, (Builtin.delete_ #[73, 9] ty #[.map (some mb), .string (bs n)]).run Tryz.prog (w.alloc (.cells #[.string ⟨#[]⟩, .slice none 0 0, .int .i64 0] 95)) = .ok (.tuple #[]) w') ∧ MapHas w' mb (wo Ob.nm S.obs n) ∧
      (w.alloc (.cells #[.string ⟨#[]⟩, .slice none 0 0, .int .i64 0] 95)).grownBy w' (some mb) := by
    obtain ⟨w', hr, m4, hg⟩ := h0.map.dropAny h0.ok.up n hn 0
    exact ⟨w', fun ty => hr, m4, hg⟩
  have hblk : w'.heap[w.heap.size]? = some (.cells #[.string ⟨#[]⟩, .slice none 0 0, .int .i64 0] 95 (0, 0)) := by
    rw [hg.block w.heap.size (by simp) (fun e => by injection e with e; have := h.lt.2; omega)]
    exact heap_alloc_new w _
  have HH := Lib.hid h
  have HG := Lib.hid hg; have HM := Lib.hid m1; have HR := Lib.hid hr
  obtain ⟨⟨b0, b1, b2⟩, z0, z1, z2⟩ := box3 hblk
  have HB := Lib.hid hblk
  clear hg m1 h h0 hblk hr
  go_enter Tryz.func54, Tryz.ntmps54
  go_wp2_with (at_delete; refine wpList_delete_run _ rfl _ _ _ _ rfl _ _ rfl rfl w' HR.out ?_)
  have t0 : Turn (fun k => k = mb) w w' := ((Turn.refl _ w).alloc _).grown HG.out (fun k hk => Or.inl (by cases hk; rfl))
  have t1 := ((t0.setNew (p := ⟨w.heap.size, 0, none⟩) (Nat.le_refl _) (.string ⟨#[]⟩)).setNew (p := ⟨w.heap.size, 1, none⟩) (Nat.le_refl _) (.slice none 0 0)).setNew (p := ⟨w.heap.size, 2, none⟩) (Nat.le_refl _) (.int .i64 0)
  have k1 := box3_set (u0 := .string ⟨#[]⟩) (u1 := .slice none 0 0) (u2 := .int .i64 0) HB.out
  have m1 : MapHas (((w'.setCell ⟨w.heap.size, 0, none⟩ (.string ⟨#[]⟩)).setCell ⟨w.heap.size, 1, none⟩ (.slice none 0 0)).setCell ⟨w.heap.size, 2, none⟩ (.int .i64 0)) mb (wo Ob.nm S.obs n) := HM.out.kept (by
    have hne : mb ≠ w.heap.size := by have := HH.out.lt.2; omega
    rw [Below.heap_setCell _ _ _ _ hne, Below.heap_setCell _ _ _ _ hne, Below.heap_setCell _ _ _ _ hne])
  generalize ((w'.setCell ⟨w.heap.size, 0, none⟩ (.string ⟨#[]⟩)).setCell ⟨w.heap.size, 1, none⟩ (.slice none 0 0)).setCell ⟨w.heap.size, 2, none⟩ (.int .i64 0) = W at t1 k1 m1 ⊢
  obtain ⟨⟨d0, d1, d2⟩, _⟩ := box3 k1
  refine bodyPost_ret (v := answ [] (.slice none 0 0) 0) (by simp [results, Tryz.results54, go_sem, answ, d0, d1, d2]; rfl) rfl ⟨rfl, ?_⟩
  exact HH.out.laid t1 m1 ho
end Go.Proofs.YtkdidinekoaobaaGreatDoor.M

/- call, with each of the effects. -/
namespace Go.Proofs.YtkdidinekoaobaaGreatDoor.M
open Go.RowKit Go.Maps
set_option linter.unusedVariables false

def counted (S : Rs) : Rs := { S with n := S.n + 1 }
theorem ok_counted {S : Rs} (h : Ok S) (hn : S.n < 1000000000000) : Ok (counted S) := { h with calls := ⟨by have := h.calls; show 0 ≤ S.n + 1; omega, by show S.n + 1 ≤ _; omega⟩ }

/-- The count has been raised. -/
theorem Rk.count {B pb mb : Nat} {sv : Value} {S : Rs} {w : World} (h : Rk B w pb mb sv S) (hn : S.n < 1000000000000) : RkStep B pb mb sv w (counted S) (w.setCell ⟨pb, 2, none⟩ (.int .i64 (S.n + 1))) := by
  have t := turn_head w pb 2 (.int .i64 (S.n + 1))
  refine ⟨sv, h.head (sc' := S.sc) (n' := S.n + 1) t (h.setAt 2 _) (h.script.kept (by simp [World.setCell]) (fun k off n c hk e => t.block k hk (fun ek => ?_))) (ok_counted h.ok hn), fun _ hk => hk, t.mono (fun k _ e => Or.inl e)⟩
  obtain ⟨_, _, e', _, _, _, hA⟩ := h.script
  rw [e'] at e
  injection e with e1
  obtain ⟨g, o, eA, _, _, hp, _⟩ := hA _ e1
  injection eA with eg
  exact hp (eg ▸ ek)

theorem counted_used (S : Rs) : ({ counted S with sc := (counted S).sc.tail } : Rs) = used S := rfl
theorem fate_counted (S : Rs) : fateOf (counted S) = fateOf S := rfl
theorem ok_used {S : Rs} (h : Ok S) (hn : S.n < 1000000000000) : Ok (used S) := ok_tail (ok_counted h hn)
end Go.Proofs.YtkdidinekoaobaaGreatDoor.M
