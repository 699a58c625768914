/- A slice of calls that comes in: what its cells hold. What a call leaves of a disk's room. -/
import Derived.Test.YtmpipfhlicfagaaDopens
namespace Go.Proofs.Ytmpipfhlicfagaa
open Go.RowKit Go.ChangeShapes Go.WideShapes Go.Joins Go.Deep
set_option linter.unusedVariables false

/-- A call of a script. -/
structure Opn where
  d : Int
  n : Int
  nm : List UInt8
  to : List UInt8
  b : List UInt8
  ka : Option Addr
  kc : Nat
  ks : List Int

instance : Inhabited Opn := ⟨⟨0, 0, [], [], [], none, 0, []⟩⟩

def Opn.fit (o : Opn) : Prop := (-9223372036854775808 ≤ o.d ∧ o.d ≤ 9223372036854775807) ∧ (-9223372036854775808 ≤ o.n ∧ o.n ≤ 9223372036854775807) ∧ o.nm.length ≤ 9223372036854775807 ∧ o.to.length ≤ 9223372036854775807 ∧ o.b.length ≤ 9223372036854775807 ∧
  o.ks.length ≤ 9223372036854775807 ∧ ∀ y ∈ o.ks, -9223372036854775808 ≤ y ∧ y ≤ 9223372036854775807

/-- The six cells of a call. -/
def OpAt (w : World) (b off : Nat) (o : Opn) : Prop :=
  w.cell? ⟨b, off, none⟩ = some (.int .i64 o.d) ∧ w.cell? ⟨b, off + 1, none⟩ = some (.int .i64 o.n) ∧ w.cell? ⟨b, off + 2, none⟩ = some (.string (bs o.nm)) ∧ w.cell? ⟨b, off + 3, none⟩ = some (.string (bs o.to)) ∧
  w.cell? ⟨b, off + 4, none⟩ = some (.string (bs o.b)) ∧ w.cell? ⟨b, off + 5, none⟩ = some (.slice o.ka o.ks.length o.kc)

/-- A slice holds these calls. -/
def OpsIn (w : World) (a : Option Addr) (l : List Opn) : Prop := ∀ i (h : i < l.length), (∃ b off, a = some ⟨b, off, none⟩ ∧ b < w.heap.size ∧ OpAt w b (off + i * 6) l[i]) ∧ Vals w l[i].ka (l[i].ks.map (Value.int .i64))

theorem OpsIn.at {w w' : World} {B : Nat} {a : Option Addr} {l : List Opn} (h : OpsIn w a l) (hb : Below B w w') (hB : w.heap.size ≤ B) (i : Nat) (o : Opn) (ho : l[i]? = some o) :
    (∃ b off, a = some ⟨b, off, none⟩ ∧ b < w.heap.size ∧ OpAt w' b (off + i * 6) o) ∧ Vals w o.ka (o.ks.map (Value.int .i64)) := by
  obtain ⟨hi, e⟩ := List.getElem?_eq_some_iff.1 ho
  subst e
  obtain ⟨⟨b, off, h1, h2, c0, c1, c2, c3, c4, c5⟩, hv⟩ := h i hi
  have hk : ∀ j, w'.cell? ⟨b, j, none⟩ = w.cell? ⟨b, j, none⟩ := fun j => hb.cell (p := ⟨b, j, none⟩) (Nat.lt_of_lt_of_le h2 hB)
  exact ⟨⟨b, off, h1, h2, by rw [hk]; exact c0, by rw [hk]; exact c1, by rw [hk]; exact c2, by rw [hk]; exact c3, by rw [hk]; exact c4, by rw [hk]; exact c5⟩, hv⟩

theorem cellsStr : Try.prog.cellsOf 9 = 1 := by kernel_rfl
theorem cellsInt : Try.prog.cellsOf 3 = 1 := by kernel_rfl
theorem cellsInts : Try.prog.cellsOf 32 = 1 := by kernel_rfl
theorem cellsOp : Try.prog.cellsOf 34 = 6 := by kernel_rfl

section
variable {H : Type} {enc : TypeId × Value → H} {W : World}

set_option maxRecDepth 100000 in
theorem op_of_cells {n : Nat} {c0 c1 c2 c3 c4 c5 : Value} {x : DataW H × List MemPlace} (h : DataW.trod enc Try.prog W 0 (fun _ => true) true n 34 [c0, c1, c2, c3, c4, c5] = some x) :
    ∃ o : Opn, o.fit ∧ c0 = .int .i64 o.d ∧ c1 = .int .i64 o.n ∧ c2 = .string (bs o.nm) ∧ c3 = .string (bs o.to) ∧ c4 = .string (bs o.b) ∧ c5 = .slice o.ka o.ks.length o.kc ∧ Vals W o.ka (o.ks.map (Value.int .i64)) := by
  obtain ⟨xs, m, _, rfl, _, hlen, hf⟩ := DataW.trod_struct Try.underlying34 h
  obtain ⟨y0, y1, y2, y3, y4, y5, rfl⟩ : ∃ y0 y1 y2 y3 y4 y5, xs = [y0, y1, y2, y3, y4, y5] := by
    match xs, hlen with
    | [y0, y1, y2, y3, y4, y5], _ => exact ⟨y0, y1, y2, y3, y4, y5, rfl⟩
  have h0 := hf 0 _ rfl
  have h1 := hf 1 _ rfl
  have h2 := hf 2 _ rfl
  have h3 := hf 3 _ rfl
  have h4 := hf 4 _ rfl
  have h5 := hf 5 _ rfl
  simp [cellsStr, cellsInt, cellsInts] at h0 h1 h2 h3 h4 h5
  obtain ⟨d, e0, _, z0⟩ := DataW.trod_int Try.underlying3 h0
  obtain ⟨k, e1, _, z1⟩ := DataW.trod_int Try.underlying3 h1
  obtain ⟨nm, e2, _, z2⟩ := DataW.trod_string Try.underlying9 h2
  obtain ⟨to, e3, _, z3⟩ := DataW.trod_string Try.underlying9 h3
  obtain ⟨b, e4, _, z4⟩ := DataW.trod_string Try.underlying9 h4
  simp only [List.cons.injEq, and_true] at e0 e1 e2 e3 e4
  obtain ⟨ka, kl, kc, hcs⟩ : ∃ ka kl kc, [c5] = [Value.slice ka kl kc] := by
    rcases open_slice1 Try.underlying32 (by kernel_rfl) h5 with ⟨hcs, _⟩ | ⟨x, l, c, m, n, V, D, Pl, hcs, _⟩
    · exact ⟨_, _, _, hcs⟩
    · exact ⟨_, _, _, hcs⟩
  rw [hcs] at h5
  simp only [List.cons.injEq, and_true] at hcs
  obtain ⟨ks, hl, hm, hv, hr⟩ := open_intsin Try.underlying32 h5
  unfold maxLen at z2 z3 z4 hm
  have l2 := len_size nm
  have l3 := len_size to
  have l4 := len_size b
  refine ⟨⟨d, k, nm.data.toList, to.data.toList, b.data.toList, ka, kc, ks⟩, ⟨wf_i64 z0, wf_i64 z1, ?_, ?_, ?_, ?_, hr⟩, e0, e1, by rw [bs_of]; exact e2, by rw [bs_of]; exact e3, by rw [bs_of]; exact e4, by rw [hl]; exact hcs, hv⟩
  · show nm.data.toList.length ≤ _; omega
  · show to.data.toList.length ≤ _; omega
  · show b.data.toList.length ≤ _; omega
  · show ks.length ≤ _; omega

theorem add_add (x : Addr) (i j : Nat) : (x.add i).add j = x.add (i + j) := by
  obtain ⟨b, off, spot⟩ := x
  unfold Addr.add
  by_cases h1 : i = 0 <;> by_cases h2 : j = 0 <;> simp [h1, h2]
  omega

theorem open_opsin {t : TypeId} (ht : Try.prog.underlying t = some (.slice 34)) {a : Option Addr} {len cap : Nat} {d : DataW H} {p : List MemPlace}
    (h : DataW.Trod enc Try.prog W 0 (fun _ => true) true t (.slice a len cap) d p) : ∃ l : List Opn, l.length = len ∧ len ≤ maxLen ∧ OpsIn W a l ∧ ∀ o ∈ l, o.fit := by
  obtain ⟨fuel, hf⟩ := h
  rcases open_slice ht hf with ⟨hcs, _⟩ | ⟨x, l, c, m, n, D, Pl, hcs, _, hl, hm, hmm, hx, hi⟩
  · simp [Value.cells] at hcs
    obtain ⟨rfl, rfl, rfl⟩ := hcs
    exact ⟨[], rfl, by unfold maxLen; omega, fun i h => by simp at h, fun r hr => by simp at hr⟩
  · simp [Value.cells] at hcs
    obtain ⟨rfl, rfl, rfl⟩ := hcs
    simp only [if_true] at hmm
    subst hmm
    rw [cellsOp] at hi
    have hex : ∀ i, i < len → ∃ o : Opn, o.fit ∧ Vals W o.ka (o.ks.map (Value.int .i64)) ∧ W.cell? (x.add (i * 6)) = some (.int .i64 o.d) ∧ W.cell? (x.add (i * 6 + 1)) = some (.int .i64 o.n) ∧ W.cell? (x.add (i * 6 + 2)) = some (.string (bs o.nm)) ∧
        W.cell? (x.add (i * 6 + 3)) = some (.string (bs o.to)) ∧ W.cell? (x.add (i * 6 + 4)) = some (.string (bs o.b)) ∧ W.cell? (x.add (i * 6 + 5)) = some (.slice o.ka o.ks.length o.kc) := fun i hil => by
      obtain ⟨cs, hc, hd⟩ := hi i (by omega)
      obtain ⟨_, hcl, hat⟩ := World.cells?_some hc
      obtain ⟨c0, c1, c2, c3, c4, c5, rfl⟩ : ∃ c0 c1 c2 c3 c4 c5, cs = [c0, c1, c2, c3, c4, c5] := by
        match cs, hcl with
        | [c0, c1, c2, c3, c4, c5], _ => exact ⟨c0, c1, c2, c3, c4, c5, rfl⟩
      obtain ⟨o, ho, rfl, rfl, rfl, rfl, rfl, rfl, hv⟩ := op_of_cells hd
      have e0 := hat 0 (by omega)
      have e1 := hat 1 (by omega)
      have e2 := hat 2 (by omega)
      have e3 := hat 3 (by omega)
      have e4 := hat 4 (by omega)
      have e5 := hat 5 (by omega)
      rw [add_add] at e0 e1 e2 e3 e4 e5
      exact ⟨o, ho, hv, e0, e1, e2, e3, e4, e5⟩
    obtain ⟨f, hf2⟩ := choose_lt hex
    refine ⟨(List.range len).map f, by simp, by omega, fun i hi2 => ?_, fun r hr => ?_⟩
    · have hil : i < len := by simpa using hi2
      obtain ⟨b, off, spot⟩ := x
      have hs : spot = none := by simpa [Addr.add] using World.cell?_spot (hf2 0 (by omega)).2.2.1
      subst hs
      obtain ⟨_, hv, e0, e1, e2, e3, e4, e5⟩ := hf2 i hil
      simp only [Addr.add_lit] at e0 e1 e2 e3 e4 e5
      simp only [List.getElem_map, List.getElem_range]
      exact ⟨⟨b, off, rfl, World.block_lt_of_cell? _ _ e0, e0, e1, e2, e3, e4, e5⟩, hv⟩
    · obtain ⟨i, hi3, rfl⟩ := List.mem_map.1 hr
      exact (hf2 i (List.mem_range.1 hi3)).1
end

/-! ### what a call leaves of a disk's room -/
theorem length_wo (l : List Fl) (n : List UInt8) : (wo Fl.nm l n).length ≤ l.length := List.length_filter_le _ _
theorem room_puts (S : St) (f : Fl) : (puts S f).room = S.room := rfl
theorem len_puts (S : St) (f : Fl) : (puts S f).fs.length ≤ S.fs.length + 1 := by
  simp only [puts, length_ins]
  have := length_wo S.fs f.nm
  omega

theorem ap_room (S : St) (n b : List UInt8) : (apS S n b).room = S.room ∧ (apS S n b).fs.length ≤ S.fs.length + 1 := by
  unfold apS
  have h1 := len_puts (burnt S) (apF S n b)
  rw [fs_burnt] at h1
  have h2 := room_burnt S
  split
  · split
    · exact ⟨h2, h1⟩
    · exact ⟨h2, by rw [fs_burnt]; omega⟩
  · exact ⟨rfl, by omega⟩

theorem ap_full (S : St) (n b : List UInt8) (h : apE S n b = 6) : left S < b.length := by
  unfold apE at h
  split at h
  · split at h
    · split at h
      · omega
      · omega
    · omega
  · omega

theorem rn_room (S : St) (n m : List UInt8) : (rnS S n m).room = S.room ∧ (rnS S n m).fs.length ≤ S.fs.length + 1 := by
  unfold rnS
  have h2 := room_burnt S
  split
  · exact ⟨rfl, by omega⟩
  · rename_i f _
    split
    · split
      · have h1 := len_puts { burnt S with fs := wo Fl.nm S.fs n } { f with nm := m }
        have h3 := length_wo S.fs n
        exact ⟨h2, Nat.le_trans h1 (by dsimp only; omega)⟩
      · exact ⟨h2, by rw [fs_burnt]; omega⟩
    · exact ⟨rfl, by omega⟩

theorem rm_room (S : St) (n : List UInt8) : (rmS S n).room = S.room ∧ (rmS S n).fs.length ≤ S.fs.length + 1 := by
  unfold rmS
  have h2 := room_burnt S
  split
  · exact ⟨rfl, by omega⟩
  · split
    · have h3 := length_wo S.fs n
      exact ⟨h2, by dsimp only; omega⟩
    · exact ⟨h2, by rw [fs_burnt]; omega⟩

theorem ct_room (S : St) (n : List UInt8) (m : Int) : (ctS S n m).room = S.room ∧ (ctS S n m).fs.length ≤ S.fs.length + 1 := by
  unfold ctS
  have h2 := room_burnt S
  split
  · exact ⟨rfl, by omega⟩
  · rename_i f _
    split
    · split
      · have h1 := len_puts (burnt S) { f with bt := f.bt.take m.toNat, sure := min f.sure m.toNat }
        rw [fs_burnt] at h1
        exact ⟨h2, h1⟩
      · exact ⟨h2, by rw [fs_burnt]; omega⟩
    · exact ⟨rfl, by omega⟩
end Go.Proofs.Ytmpipfhlicfagaa
