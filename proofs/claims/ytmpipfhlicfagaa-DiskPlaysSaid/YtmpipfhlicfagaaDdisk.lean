/- A disk in memory, and the calls that all others go through: may a name be, burn. -/
import Derived.Test.YtmpipfhlicfagaaDrep
namespace Go.Proofs.Ytmpipfhlicfagaa
open Go.RowKit Go.Maps

/-- The disk in block pb: its map mb, the slice nv of its names, its fuse u; the rows of bytes of all files but those of a hole. -/
structure Dk (B : Nat) (w : World) (pb mb : Nat) (nv : Value) (u : Int) (cs : List Cf) (S : St) (hole : List UInt8 → Prop) : Prop where
  pblk : w.heap[pb]? = some (.cells #[.map (some mb), nv, .int .i64 (left S), .int .i64 u, .bool S.down] 60 (0, 0))
  fuse : max u (-1) = S.lit ∧ -9223372036854775808 ≤ u
  map : MapHas w mb cs
  names : w.ownsRow B 9 1 nv (cs.map Cf.nm).length (strs (cs.map Cf.nm))
  fs : cs.map Cf.f = S.fs
  rows : ∀ c ∈ cs, ¬ hole c.nm → w.ownsRow B 5 1 c.v c.f.bt.length (bytesOf c.f.bt)
  form : ∀ c ∈ cs, ∃ a cap, c.v = .slice a c.f.bt.length cap
  apart : ∀ c ∈ cs, ∀ g, c.v.ownBlock = some g → g ≠ pb ∧ g ≠ mb ∧ nv.ownBlock ≠ some g ∧ B ≤ g ∧ g < w.heap.size ∧ ∀ d ∈ cs, d.nm ≠ c.nm → d.v.ownBlock ≠ some g
  base : B ≤ pb ∧ B ≤ mb ∧ mb ≠ pb ∧ nv.ownBlock ≠ some pb ∧ nv.ownBlock ≠ some mb ∧ B ≤ w.heap.size
  good : Good S

/-- The blocks of a disk: its own, its map's, its names'; and its files'. -/
def core (pb mb : Nat) (nv : Value) (k : Nat) : Prop := k = pb ∨ k = mb ∨ nv.ownBlock = some k
def foot (pb mb : Nat) (nv : Value) (cs : List Cf) (k : Nat) : Prop := core pb mb nv k ∨ ∃ c ∈ cs, c.v.ownBlock = some k
def none' (_ : List UInt8) : Prop := False

section
variable {B pb mb : Nat} {nv : Value} {u : Int} {cs : List Cf} {S : St} {hole : List UInt8 → Prop} {w w' : World}

theorem Dk.lt (h : Dk B w pb mb nv u cs S hole) : pb < w.heap.size ∧ mb < w.heap.size ∧ (∀ g, nv.ownBlock = some g → B ≤ g ∧ g < w.heap.size) :=
  ⟨(Array.getElem?_eq_some_iff.1 h.pblk).1, h.map.lt, h.names.lt⟩

theorem Dk.footLt (h : Dk B w pb mb nv u cs S hole) {k : Nat} (hk : foot pb mb nv cs k) : B ≤ k ∧ k < w.heap.size := by
  obtain ⟨h1, h2, h3⟩ := h.lt
  rcases hk with (rfl | rfl | hk) | ⟨c, hc, hk⟩
  · exact ⟨h.base.1, h1⟩
  · exact ⟨h.base.2.1, h2⟩
  · exact h3 k hk
  · exact ⟨(h.apart c hc k hk).2.2.2.1, (h.apart c hc k hk).2.2.2.2.1⟩

theorem Dk.upc (h : Dk B w pb mb nv u cs S hole) : Up Cf.nm cs := by
  have := h.good.up
  rw [← h.fs, up_map] at this
  exact this

theorem Dk.weaken (h : Dk B w pb mb nv u cs S hole) {hole' : List UInt8 → Prop} (hh : ∀ n, hole n → hole' n) : Dk B w pb mb nv u cs S hole' :=
  { h with rows := fun c hc hn => h.rows c hc (fun g => hn (hh _ g)) }

/-- What must not turn, for a disk to stay. -/
def must (pb mb : Nat) (nv : Value) (cs : List Cf) (hole : List UInt8 → Prop) (k : Nat) : Prop := core pb mb nv k ∨ ∃ c ∈ cs, ¬ hole c.nm ∧ c.v.ownBlock = some k

theorem Dk.kept {G : Nat → Prop} (h : Dk B w pb mb nv u cs S hole) (t : Turn G w w') (hG : ∀ k, k < w.heap.size → must pb mb nv cs hole k → ¬ G k) : Dk B w' pb mb nv u cs S hole := by
  obtain ⟨h1, h2, h3⟩ := h.lt
  have hlt : ∀ k, must pb mb nv cs hole k → k < w.heap.size := fun k hk => by
    rcases hk with hk | ⟨c, hc, _, hk⟩
    · exact (h.footLt (Or.inl hk)).2
    · exact (h.footLt (Or.inr ⟨c, hc, hk⟩)).2
  have hb : ∀ k, must pb mb nv cs hole k → w'.heap[k]? = w.heap[k]? := fun k hk => t.block k (hlt k hk) (hG k (hlt k hk) hk)
  exact { h with
    pblk := by rw [hb pb (Or.inl (Or.inl rfl))]; exact h.pblk
    map := h.map.kept (hb mb (Or.inl (Or.inr (Or.inl rfl))))
    names := owns_kept h.names (fun g hg => hb g (Or.inl (Or.inr (Or.inr hg))))
    rows := fun c hc hn => owns_kept (h.rows c hc hn) (fun g hg => hb g (Or.inr ⟨c, hc, hn, hg⟩))
    apart := fun c hc g hg => by
      obtain ⟨a1, a2, a3, a4, a5, a6⟩ := h.apart c hc g hg
      exact ⟨a1, a2, a3, a4, Nat.lt_of_lt_of_le a5 t.size, a6⟩
    base := by
      obtain ⟨b1, b2, b3, b4, b5, b6⟩ := h.base
      exact ⟨b1, b2, b3, b4, b5, Nat.le_trans b6 t.size⟩ }

theorem Dk.alloc (h : Dk B w pb mb nv u cs S hole) (o : Obj) : Dk B (w.alloc o) pb mb nv u cs S hole := h.kept ((Turn.refl (fun _ => False) w).alloc o) (fun _ _ _ f => f)

/-- The disk's own block alone has turned: its fuse, its power. -/
theorem Dk.head (h : Dk B w pb mb nv u cs S hole) (t : Turn (fun k => k = pb) w w') {S' : St} {u' : Int}
    (hp : w'.heap[pb]? = some (.cells #[.map (some mb), nv, .int .i64 (left S), .int .i64 u', .bool S'.down] 60 (0, 0)))
    (hf : S'.fs = S.fs) (hr : S'.room = S.room) (hu : max u' (-1) = S'.lit ∧ -9223372036854775808 ≤ u' ∧ u' ≤ 9223372036854775807) : Dk B w' pb mb nv u' cs S' hole := by
  have hb : ∀ k, k < w.heap.size → k ≠ pb → w'.heap[k]? = w.heap[k]? := fun k hk hn => t.block k hk hn
  obtain ⟨h1, h2, h3⟩ := h.lt
  obtain ⟨b1, b2, b3, b4, b5, b6⟩ := h.base
  refine ⟨?_, ⟨hu.1, hu.2.1⟩, h.map.kept (hb mb h2 b3), owns_kept h.names (fun g hg => hb g (h3 g hg).2 (fun e => b4 (e ▸ hg))), by rw [hf]; exact h.fs,
    fun c hc hn => owns_kept (h.rows c hc hn) (fun g hg => hb g (h.apart c hc g hg).2.2.2.2.1 (h.apart c hc g hg).1), h.form, ?_, ⟨b1, b2, b3, b4, b5, Nat.le_trans b6 t.size⟩, ?_⟩
  · rw [hp]; unfold left; rw [hf, hr]
  · intro c hc g hg
    obtain ⟨a1, a2, a3, a4, a5, a6⟩ := h.apart c hc g hg
    exact ⟨a1, a2, a3, a4, Nat.lt_of_lt_of_le a5 t.size, a6⟩
  · obtain ⟨g1, g2, g3, g4, g5, g6⟩ := h.good
    exact ⟨by rw [hf]; exact g1, by rw [hf]; exact g2, by rw [hf]; exact g3, by rw [hf, hr]; exact g4, by rw [hr]; exact g5, by omega⟩

theorem Dk.cells (h : Dk B w pb mb nv u cs S hole) : w.cell? ⟨pb, 0, none⟩ = some (.map (some mb)) ∧ w.cell? ⟨pb, 1, none⟩ = some nv ∧ w.cell? ⟨pb, 2, none⟩ = some (.int .i64 (left S)) ∧ w.cell? ⟨pb, 3, none⟩ = some (.int .i64 u) ∧
    w.cell? ⟨pb, 4, none⟩ = some (.bool S.down) ∧ (∀ j, w.frozen? ⟨pb, j, none⟩ = false) := by
  have hc : ∀ j, w.cell? ⟨pb, j, none⟩ = (#[Value.map (some mb), nv, .int .i64 (left S), .int .i64 u, .bool S.down])[j]? := fun j => cell_of_row w pb j _ _ (0, 0) h.pblk
  refine ⟨by rw [hc]; rfl, by rw [hc]; rfl, by rw [hc]; rfl, by rw [hc]; rfl, by rw [hc]; rfl, fun j => by simp [World.frozen?, h.pblk]⟩

theorem Dk.setAt (h : Dk B w pb mb nv u cs S hole) (j : Nat) (v : Value) : (w.setCell ⟨pb, j, none⟩ v).heap[pb]? = some (.cells ((#[Value.map (some mb), nv, .int .i64 (left S), .int .i64 u, .bool S.down]).setIfInBounds j v) 60 (0, 0)) :=
  heap_setCell_same w pb j _ _ v h.pblk

theorem Dk.ints (h : Dk B w pb mb nv u cs S hole) : 0 ≤ left S ∧ left S ≤ 1048576 ∧ -9223372036854775808 ≤ u ∧ u ≤ 9223372036854775807 := by
  have h1 := h.good.fits
  have h2 := h.good.room
  have h3 := h.good.lit
  have h4 := h.fuse
  unfold left
  omega
end

theorem turn_head (w : World) (pb j : Nat) (v : Value) : Turn (fun k => k = pb) w (w.setCell ⟨pb, j, none⟩ v) := (Turn.refl (fun k => k = pb) w).setCell (p := ⟨pb, j, none⟩) rfl v
theorem ret_bool {a b : Bool} (h : a = b) : Ending.returned (.bool a) = .returned (.bool b) := by rw [h]

/-! ### may a name be -/
theorem valid_any (n : List UInt8) (w : World) (hn : n.length ≤ maxLen) :
    Calls Try.prog 33 #[.string (bs n)] w fun e w' => e = .returned (.bool (rightName n)) ∧ w = w' := by
  have hs : ((bs n).size : Int) = n.length := by rw [bs_size]
  have hn' := hn
  unfold maxLen at hn'
  by_cases h1 : 1 ≤ n.length
  · have hr : rightName n = decide (n.length ≤ 20) := by simp [rightName, h1]
    rw [hr]
    have hsz : (bs n).size = n.length := bs_size n
    have HS := Lib.hid hsz; clear hsz hs hr hn
    have hb1 : (bs n).size ≤ 9223372036854775807 := by rw [HS.out]; omega
    have hb2 : 1 ≤ (bs n).size := by rw [HS.out]; omega
    by_cases h2 : n.length ≤ 20
    · have hb3 : (bs n).size ≤ 20 := by rw [HS.out]; omega
      have hd : decide (n.length ≤ 20) = true := by simpa using h2
      rw [hd]; clear hd
      go_enter Try.func33, Try.ntmps33
      go_wp2
      go_ret
      exact ⟨by simp; omega, rfl⟩
    · have hb3 : 20 < (bs n).size := by rw [HS.out]; omega
      have hd : decide (n.length ≤ 20) = false := by simpa using h2
      rw [hd]; clear hd
      go_enter Try.func33, Try.ntmps33
      go_wp2
      go_ret
      exact ⟨by simp; omega, rfl⟩
  · have hr : rightName n = false := by simp [rightName]; omega
    rw [hr]
    have hsz : (bs n).size = n.length := bs_size n
    have HS := Lib.hid hsz; clear hsz hs hr hn
    have hb2 : (bs n).size < 1 := by rw [HS.out]; omega
    go_enter Try.func33, Try.ntmps33
    go_wp2
    go_ret
    exact ⟨rfl, rfl⟩

/-! ### burn -/
def BurnPost (B : Nat) (pb mb : Nat) (nv : Value) (cs : List Cf) (S : St) (hole : List UInt8 → Prop) (w : World) (e : Ending) (w' : World) : Prop :=
  e = .returned (.bool (burns S)) ∧ ∃ u', Dk B w' pb mb nv u' cs (burnt S) hole ∧ Turn (fun k => k = pb) w w'

set_option maxHeartbeats 1000000 in
theorem burn_any {B pb mb : Nat} {nv : Value} {u : Int} {cs : List Cf} {S : St} {hole : List UInt8 → Prop} {w : World} (h : Dk B w pb mb nv u cs S hole) :
    Calls Try.prog 34 #[.pointer (some ⟨pb, 0, none⟩)] w (BurnPost B pb mb nv cs S hole w) := by
  obtain ⟨c0, c1, c2, c3, c4, fz⟩ := h.cells
  obtain ⟨i1, i2, i3, i4⟩ := h.ints
  obtain ⟨hl1, hl2⟩ := h.fuse
  have f3 := fz 3
  have f4 := fz 4
  clear fz
  have HL := Lib.hid hl1; clear hl1
  have hset4 := Lib.hid (h.setAt 4 (.bool true))
  have hset3 := Lib.hid (h.setAt 3 (.int .i64 (u - 1)))
  by_cases hd : S.down = true
  · have hb : burns S = false := by simp [burns, hd]
    have hbt : burnt S = { S with down := true } := by simp [burnt, hb]
    have HB := Lib.hid hb; have HT := Lib.hid hbt; clear hb hbt
    rw [hd] at c4
    have HD := Lib.hid hd; clear hd
    go_enter Try.func34, Try.ntmps34
    go_wp2
    go_ret
    refine ⟨ret_bool HB.out.symm, u, ?_, turn_head w pb _ _⟩
    rw [HT.out]
    exact h.head (turn_head w pb _ _) hset4.out rfl rfl ⟨HL.out, i3, i4⟩
  · have hd' : S.down = false := by simpa using hd
    clear hd
    rw [hd'] at c4
    by_cases hu0 : u = 0
    · subst hu0
      have hb : burns S = false := by have := HL.out; simp [burns]; intro _; omega
      have hbt : burnt S = { S with down := true } := by simp [burnt, hb]
      have HB := Lib.hid hb; have HT := Lib.hid hbt; clear hb hbt
      have HD := Lib.hid hd'; clear hd'
      go_enter Try.func34, Try.ntmps34
      go_wp2
      go_ret
      refine ⟨ret_bool HB.out.symm, 0, ?_, turn_head w pb _ _⟩
      rw [HT.out]
      exact h.head (turn_head w pb _ _) hset4.out rfl rfl ⟨HL.out, by omega, by omega⟩
    · have hne : (u == 0) = false := by simpa using hu0
      have hb : burns S = true := by
        have := HL.out
        simp [burns, hd']; omega
      by_cases hpos : 0 < u
      · have hbt : burnt S = { S with lit := u - 1 } := by
          have := HL.out
          have e : S.lit = u := by omega
          simp [burnt, hb, e, hpos]
        have HB := Lib.hid hb; have HT := Lib.hid hbt; clear hb hbt
        have HD := Lib.hid hd'; clear hd'
        have HU := Lib.hid hu0; clear hu0
        go_enter Try.func34, Try.ntmps34
        go_wp2
        go_ret
        refine ⟨ret_bool HB.out.symm, u - 1, ?_, turn_head w pb _ _⟩
        rw [HT.out]
        exact h.head (turn_head w pb _ _) (by rw [hset3.out]; simp) rfl rfl ⟨by simp; omega, by omega, by omega⟩
      · have hneg : u < 0 := by omega
        have hbt : burnt S = S := by
          have := HL.out
          have e : S.lit = -1 := by omega
          simp [burnt, hb, e]
          cases S
          simp_all
        have HB := Lib.hid hb; have HT := Lib.hid hbt; clear hb hbt
        have HD := Lib.hid hd'; clear hd'
        have HU := Lib.hid hu0; clear hu0
        go_enter Try.func34, Try.ntmps34
        go_wp2
        go_ret
        refine ⟨ret_bool HB.out.symm, u, ?_, Turn.refl _ w⟩
        rw [HT.out]
        exact h
end Go.Proofs.Ytmpipfhlicfagaa
