/- What the call List of package record returns. -/
import Derived.Test.YtdifecclldkhpaaRread2
import Derived.OpenShut
namespace Go.Proofs.Ytdifecclldkhpaa
open Go.RowKit

/-- The records of a row of bytes, behind those so far; none where it is of another form. -/
def rdsF : Nat → List UInt8 → List Rc → List Rc × Nat
  | 0, _, acc => (acc, 0)
  | n + 1, l, acc => if l = [] then (acc, 0) else if (rd l).2.2 ≠ 0 then ([], (rd l).2.2) else rdsF n (rd l).2.1 (acc ++ [(rd l).1])

def rds (l : List UInt8) : List Rc × Nat := rdsF (l.length + 1) l []

theorem rdsF_nil (n : Nat) (acc : List Rc) : rdsF (n + 1) [] acc = (acc, 0) := by rw [rdsF, if_pos rfl]
theorem rdsF_err {n : Nat} {l : List UInt8} {acc : List Rc} {r : Rc} {s : List UInt8} {e : Nat} (hl : l ≠ []) (h : rd l = (r, s, e)) (he : e ≠ 0) : rdsF (n + 1) l acc = ([], e) := by
  rw [rdsF, if_neg hl, h, if_pos he]
theorem rdsF_next {n : Nat} {l : List UInt8} {acc : List Rc} {r : Rc} {s : List UInt8} (hl : l ≠ []) (h : rd l = (r, s, 0)) : rdsF (n + 1) l acc = rdsF n s (acc ++ [r]) := by
  rw [rdsF, if_neg hl, h, if_neg (by simp)]

theorem rdsF_encs : ∀ (l : List Rc) (n : Nat) (acc : List Rc), rights l = true → (encs l).length < n → rdsF n (encs l) acc = (acc ++ l, 0)
  | [], n, acc, _, hn => by
    obtain ⟨m, rfl⟩ : ∃ m, n = m + 1 := ⟨n - 1, by omega⟩
    rw [encs_nil, rdsF_nil, List.append_nil]
  | r :: l, n, acc, h, hn => by
    simp only [rights, List.all_cons, Bool.and_eq_true] at h
    have h1 := enc_len h.1
    obtain ⟨m, rfl⟩ : ∃ m, n = m + 1 := ⟨n - 1, by omega⟩
    rw [encs_cons] at hn ⊢
    rw [List.length_append] at hn
    have hne : enc r ++ encs l ≠ [] := fun e => by
      have := congrArg List.length e
      rw [List.length_append, List.length_nil] at this
      omega
    rw [rdsF_next hne (rd_enc h.1 _), rdsF_encs l m (acc ++ [r]) h.2 (by omega), List.append_assoc]
    rfl

theorem rds_encs {l : List Rc} (h : rights l = true) : rds (encs l) = (l, 0) := by
  rw [rds, rdsF_encs l _ [] h (by omega), List.nil_append]

/-- Records as cells. -/
def flat (l : List Rc) : List Value := l.flatMap fun r => [.int .u64 ((r.q : Nat) : Int), .string (bs r.k), .string (bs r.v), .bool r.g]
theorem flat_snoc (l : List Rc) (r : Rc) : flat (l ++ [r]) = flat l ++ [.int .u64 ((r.q : Nat) : Int), .string (bs r.k), .string (bs r.v), .bool r.g] := by simp [flat]
theorem flat_get : ∀ (l : List Rc) (i : Nat) (h : i < l.length), (flat l)[i * 4]? = some (.int .u64 ((l[i].q : Nat) : Int)) ∧ (flat l)[i * 4 + 1]? = some (.string (bs l[i].k)) ∧ (flat l)[i * 4 + 2]? = some (.string (bs l[i].v)) ∧ (flat l)[i * 4 + 3]? = some (.bool l[i].g)
  | r :: l, 0, _ => by simp [flat]
  | r :: l, i + 1, h => by
    have := flat_get l i (by simpa using h)
    have e : flat (r :: l) = [.int .u64 ((r.q : Nat) : Int), .string (bs r.k), .string (bs r.v), .bool r.g] ++ flat l := by simp [flat]
    have s : ∀ j, (flat (r :: l))[(i + 1) * 4 + j]? = (flat l)[i * 4 + j]? := fun j => by
      rw [e, List.getElem?_append_right (by simp; omega)]
      congr 1
      simp
      omega
    exact ⟨(s 0).trans this.1, (s 1).trans this.2.1, (s 2).trans this.2.2.1, (s 3).trans this.2.2.2⟩

/-- The slice's block is one of records. -/
def Tag (w : World) (a : Option Addr) : Prop := ∀ ad, a = some ad → ∃ cs z, w.heap[ad.block]? = some (.cells cs 45 z)
theorem Tag.none (w : World) : Tag w none := fun ad h => by cases h
theorem Tag.lt {w : World} {a : Option Addr} (h : Tag w a) {ad : Addr} (e : a = some ad) : ad.block < w.heap.size := by
  obtain ⟨cs, z, hh⟩ := h ad e
  exact (Array.getElem?_eq_some_iff.1 hh).1
theorem Tag.later {w w' : World} {a : Option Addr} (h : Tag w a) {B : Nat} (hb : Below B w w') (hB : w.heap.size ≤ B) : Tag w' a := fun ad e => by
  obtain ⟨cs, z, hh⟩ := h ad e
  have := (Array.getElem?_eq_some_iff.1 hh).1
  exact ⟨cs, z, by rw [hb.block ad.block (by omega)]; exact hh⟩

/-- A slice of records in a block of its own kind. -/
def RecsT (w : World) (a : Option Addr) (l : List Rc) : Prop := Recs w a l ∧ Tag w a
theorem RecsT.later {w w' : World} {a : Option Addr} {l : List Rc} (h : RecsT w a l) {B : Nat} (hb : Below B w w') (hB : w.heap.size ≤ B) : RecsT w' a l := ⟨h.1.later hb hB, h.2.later hb hB⟩

/-- What List leaves. -/
def LsPost (w : World) (x : List Rc × Nat) (e : Ending) (w' : World) : Prop :=
  ∃ a cap, e = .returned (.tuple #[.slice a x.1.length cap, .int .i64 ((x.2 : Nat) : Int)]) ∧ RecsT w' a x.1 ∧ Below w.heap.size w w'

theorem owns_later {w w' : World} {base n : Nat} {e : TypeId} {size : Nat} {v : Value} {xs : List Value} (h : w.ownsRow base e size v n xs) (hb : Below w.heap.size w w') : w'.ownsRow base e size v n xs := by
  have hl := h.lt
  refine ⟨h.1, ?_⟩
  rcases h.2 with hn | ⟨g, cap, cur, rfl, hbg, hg, rest⟩
  · exact .inl hn
  · exact .inr ⟨g, cap, cur, rfl, hbg, by rw [hb.block g (hl g rfl).2]; exact hg, rest⟩

theorem owns_recs {w : World} {base : Nat} {v : Value} {l : List Rc} (h : w.ownsRow base 45 4 v l.length (flat l)) : ∃ a cap, v = .slice a l.length cap ∧ RecsT w a l := by
  have hl := h.lt
  have hc := fun g hg => h.cells (g := g) hg
  rcases h.2 with ⟨rfl, h0⟩ | ⟨g, cap, cur, rfl, hbg, hg, rest⟩
  · exact ⟨none, 0, by rw [h0], fun h1 => by omega, Tag.none _⟩
  · refine ⟨_, cap, rfl, fun _ => ⟨g, 0, rfl, (hl g rfl).2, fun i hi => ?_⟩, fun ad e => by cases e; exact ⟨_, _, hg⟩⟩
    obtain ⟨f0, f1, f2, f3⟩ := flat_get l i hi
    have key : ∀ j u, (flat l)[j]? = some u → w.cell? ⟨g, j, none⟩ = some u := fun j u hu => by
      have := hc g rfl j u hu
      rwa [show (⟨g, 0, none⟩ : Addr).add j = ⟨g, j, none⟩ from by simp [Addr.add]; omega] at this
    have z : ∀ j, 0 + j = j := Nat.zero_add
    simp only [z]
    exact ⟨key _ _ f0, key _ _ f1, key _ _ f2, key _ _ f3⟩

def strLen : Value → Nat
  | .string s => s.size
  | _ => 0

theorem infoRec : (Try.prog.info? 45).map (fun i => (i.zero, i.size, i.bytes)) = some (some (.agg #[.int .u64 0, .string ⟨#[]⟩, .string ⟨#[]⟩, .bool false]), 4, 48) := by kernel_rfl

theorem cell_four_new (w : World) (c0 c1 c2 c3 : Value) (t : TypeId) : ∀ j u, [c0, c1, c2, c3][j]? = some u → (w.alloc (.cells #[c0, c1, c2, c3] t)).cell? ((⟨w.heap.size, 0, none⟩ : Addr).add j) = some u := by
  intro j u hu
  rw [show (⟨w.heap.size, 0, none⟩ : Addr).add j = ⟨w.heap.size, j, none⟩ from by simp [Addr.add]; omega, World.cell?_alloc_mark]
  simpa using hu

theorem read_of (x : List UInt8) (hx : x.length ≤ 9223372036854775807) (r : Rc) (s : List UInt8) (e : Nat) (h : rd x = (r, s, e)) (w : World) :
    Calls Try.prog 46 #[.string (bs x)] w fun y w' => y = .returned (.tuple #[.agg #[.int .u64 ((r.q : Nat) : Int), .string (bs r.k), .string (bs r.v), .bool r.g], .string (bs s), .int .i64 (e : Nat)]) ∧ Below w.heap.size w w' := by
  have := read_any (bs x) w (by rw [bs_size]; exact hx)
  rw [bs_list, rdV, h] at this
  exact this

theorem bs_ne {x : List UInt8} (h : x ≠ []) : ¬ (bs x).toList = [] := by rw [bs_toList]; exact h

set_option maxRecDepth 100000 in
set_option maxHeartbeats 1000000 in
theorem list_any (b : List UInt8) (w : World) (hb : b.length ≤ 1000000) :
    Calls Try.prog 69 #[.string (bs b)] w (LsPost w (rds b)) := by
  obtain ⟨i0, hi, hz0, hz1, hz2⟩ := info_parts infoRec
  have HI := Lib.hid (And.intro hi (And.intro hz0 (And.intro hz1 hz2)))
  clear hi hz0 hz1 hz2
  obtain ⟨X, hX⟩ : ∃ X, X = bs b := ⟨_, rfl⟩
  rw [← hX]
  have HX := Lib.hid hX
  clear hX
  go_enter Try.func69, Try.ntmps69
  go_wp2_with fail
  go_loopw [0, 4] (fun s v wr => ∃ (x : List UInt8) (acc : List Rc) (n : Nat), s = .string (bs x) ∧ x.length < n ∧ acc.length + x.length ≤ b.length ∧ rdsF n x acc = rds b ∧ wr.ownsRow w.heap.size 45 4 v acc.length (flat acc) ∧ Below w.heap.size w wr) (fun s _ _ => strLen s)
  case atStart => exact ⟨b, [], b.length + 1, by rw [HX.out], by omega, by simp, rfl, World.ownsRow_nil _ _ _ _, Below.refl _ _⟩
  case round =>
    obtain ⟨x, acc, n, rfl, hn, hl, hr, hown, hbw⟩ := hrel
    obtain ⟨m, rfl⟩ : ∃ m, n = m + 1 := ⟨n - 1, by omega⟩
    have HR := Lib.hid hr
    have HO := Lib.hid hown
    clear hr hown
    by_cases hx : x = []
    · subst hx
      have HE : Hid (rds b = (acc, 0)) := Lib.hid (by rw [← HR.out, rdsF_nil])
      rw [show bs ([] : List UInt8) = ⟨#[]⟩ from rfl]
      obtain ⟨a, cap, rfl, hrec⟩ := owns_recs HO.out
      have HC := Lib.hid hrec
      clear hrec
      go_wp2_with fail
      go_ret2
      exact ⟨a, cap, by rw [HE.out]; rfl, by rw [HE.out]; exact HC.out, hbw⟩
    · have hne := bs_ne hx
      have hne2 : (bs x).toList.isEmpty = false := List.isEmpty_eq_false_iff.2 hne
      obtain ⟨r, s, e, hrd⟩ : ∃ r s e, rd x = (r, s, e) := ⟨_, _, _, rfl⟩
      have H1 := Lib.hid (read_of x (by omega) r s e hrd)
      by_cases he : e = 0
      · subst he
        have hlt : s.length < x.length ∧ 0 < x.length := by
          obtain ⟨hg, hxe⟩ := rd_ok hrd
          have := enc_len hg
          rw [hxe, List.length_append]
          omega
        have HN : Hid (rdsF m s (acc ++ [r]) = rds b) := Lib.hid (by rw [← HR.out, rdsF_next hx hrd])
        have HL : Hid (strLen (.string (bs s)) < strLen (.string (bs x))) := Lib.hid (by show (bs s).size < (bs x).size; rw [bs_size, bs_size]; omega)
        clear hrd hx
        have HSn := Lib.hid (flat_snoc acc r)
        generalize ((r.q : Nat) : Int) = Q at *
        generalize bs r.k = K at *
        generalize bs r.v = V at *
        generalize r.g = G at *
        generalize bs x = X1 at *
        generalize hSS : bs s = S1 at *
        have HSS := Lib.hid hSS
        clear hSS
        go_wp2_with fail
        (with_reducible refine (H1.out _).mono ?_)
        rintro e w1 ⟨rfl, b1⟩
        have hbz := hbw.size
        have hb1z := b1.size
        have O1 := Lib.hid ((owns_later HO.out b1).alloc (.cells #[.int .u64 Q, .string K, .string V, .bool G] 45))
        have B1 : Hid (Below w.heap.size w (w1.alloc (.cells #[.int .u64 Q, .string K, .string V, .bool G] 45))) := Lib.hid ((hbw.trans (b1.mono hbz)).alloc (by omega) _)
        clear b1 HO hbw
        go_wp2_with (at_builtin; refine wpList_append_own _ rfl _ _ 53 rfl w.heap.size 45 i0 (.agg #[.int .u64 0, .string ⟨#[]⟩, .string ⟨#[]⟩, .bool false]) 4 48 Try.underlying53 HI.out.1 HI.out.2.1 HI.out.2.2.1 HI.out.2.2.2 rfl (by decide) _ _ _ rfl (O1.out.alloc _) ⟨w1.heap.size + 1, 0, none⟩ 1 1 [.int .u64 Q, .string K, .string V, .bool G] rfl rfl ?c1 (fun x hx => by simp at hx; rcases hx with rfl | rfl | rfl | rfl <;> rfl) (by unfold maxLen; omega) (by omega) (by simp; omega) ?_)
        case c1 =>
          have := cell_four_new (w1.alloc (.cells #[.int .u64 Q, .string K, .string V, .bool G] 45)) (.int .u64 Q) (.string K) (.string V) (.bool G) 45
          rwa [World.size_alloc] at this
        intro v' w3 hown' hgrow _
        have B3 : Hid (Below w.heap.size w w3) := Lib.hid (Below.grown (B1.out.alloc (by simp; omega) _) hgrow (by simp; omega) (fun j hj => (O1.out.lt _ hj).1))
        have O3 := Lib.hid hown'
        clear hown' hgrow
        go_wp2_with fail
        go_roundw
        case rel => exact ⟨s, acc ++ [r], m, by rw [HSS.out], by omega, by simp; omega, HN.out, by rw [HSn.out, List.length_append]; exact O3.out, B3.out⟩
        case measure => exact HL.out
      · have HE : Hid (rds b = ([], e)) := Lib.hid (by rw [← HR.out, rdsF_err hx hrd he])
        have hb0 : ((e : Int) != 0) = true := by rw [bne_iff_ne]; omega
        clear hrd hx
        generalize ((r.q : Nat) : Int) = Q at *
        generalize bs r.k = K at *
        generalize bs r.v = V at *
        generalize r.g = G at *
        generalize bs x = X1 at *
        generalize bs s = S1 at *
        go_wp2_with fail
        (with_reducible refine (H1.out _).mono ?_)
        rintro e w1 ⟨rfl, b1⟩
        go_wp2_with fail
        go_ret2
        exact ⟨none, 0, by rw [HE.out]; rfl, by rw [HE.out]; exact ⟨fun h => by simp at h, Tag.none _⟩, ((hbw.trans (b1.mono hbw.size)).alloc (Nat.le_trans hbw.size b1.size) _)⟩

end Go.Proofs.Ytdifecclldkhpaa
