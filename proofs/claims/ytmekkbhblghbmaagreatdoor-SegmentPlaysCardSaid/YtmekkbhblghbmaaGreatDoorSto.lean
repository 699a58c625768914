/- What the small functions of the laws of layer 8 return: to. -/
import Derived.Test.YtmekkbhblghbmaaGreatDoorHb
namespace Go.Proofs.YtmekkbhblghbmaaGreatDoor
open Go.RowKit

/-- What to leaves. -/
def To8Post (w : World) (l : List Et) (e : Ending) (w' : World) : Prop :=
  ∃ a cap, e = .returned (.slice a l.length cap) ∧ EntsIn w' a l ∧ Below w.heap.size w w'

set_option maxRecDepth 100000 in
set_option maxHeartbeats 1600000 in
theorem to8_any (l : List Et) (a : Option Addr) (cap : Nat) (w : World) (hl : l.length ≤ 1000000000) (hr : EntsIn w a l) :
    Calls Tryz.prog 14 #[.slice a l.length cap] w (To8Post w l) := by
  obtain ⟨i0, hi0, hz0, hz1, hz2⟩ := info_parts infoRefEnt
  have HI := Lib.hid (And.intro hi0 (And.intro hz0 (And.intro hz1 hz2)))
  clear hi0 hz0 hz1 hz2
  have HR := Lib.hid hr
  clear hr
  obtain ⟨n, hn⟩ : ∃ n, n = l.length := ⟨_, rfl⟩
  have HN := Lib.hid hn
  rw [← hn] at hl ⊢
  clear hn
  go_enter Tryz.func14, Tryz.ntmps14
  go_wp2_with fail
  go_loopw [3, 4] (fun v i wr => ∃ (u : Value) (k : Nat), u = v ∧ k ≤ n ∧ i = .int .i64 k ∧ wr.ownsRow w.heap.size 53 5 u (l.take k).length (eflat (l.take k)) ∧ Below w.heap.size w wr) (fun _ i _ => n - (intOf i).toNat)
  case atStart => exact ⟨_, 0, rfl, by omega, rfl, World.ownsRow_nil _ _ _ _, Below.refl _ _⟩
  case round =>
    obtain ⟨u, k, rfl, hk, rfl, hown, hbw⟩ := hrel
    by_cases hlt : k < n
    · have hlti : (k : Int) < (n : Int) := by omega
      have hlt' : k < l.length := by rw [← HN.out]; exact hlt
      obtain ⟨b, off, rfl, hbl, c0, c1, c2, c3, c4⟩ := ents_of_mem HR.out k hlt'
      rw [← hbw.cell (p := ⟨b, _, none⟩) hbl] at c0 c1 c2 c3 c4
      have HT := Lib.hid (etake_next l k hlt')
      have HSn := Lib.hid (eflat_snoc (l.take k) l[k])
      have hlk : (l.take k).length ≤ k := List.length_take_le _ _
      obtain ⟨m, hm⟩ : ∃ m, m = (l.take k).length := ⟨_, rfl⟩
      rw [← hm] at hown hlk
      have HM := Lib.hid hm
      clear hm
      have hbz := hbw.size
      have av : u.ownBlock ≠ some b := fun q => by have := (hown.lt _ q).1; omega
      have ltb : b < wr.heap.size := by omega
      generalize l[k] = r at *
      generalize bs r.k = K at *
      generalize r.o = O at *
      generalize r.l = L at *
      generalize ((r.q : Nat) : Int) = Q at *
      generalize r.g = G at *
      go_wp2_with fail
      go_region_held3 (fun w' => w'.cell? ⟨b, off + k * 5, none⟩ = some (.string K) ∧ w'.cell? ⟨b, off + k * 5 + 1, none⟩ = some (.int .i64 O) ∧ w'.cell? ⟨b, off + k * 5 + 2, none⟩ = some (.int .i64 L) ∧ w'.cell? ⟨b, off + k * 5 + 3, none⟩ = some (.int .u64 Q) ∧ w'.cell? ⟨b, off + k * 5 + 4, none⟩ = some (.bool G))
        (first
          | go_keep
          | (go_split_ands
             refine ⟨?_, ?_, ?_, ?_, ?_⟩
             all_goals (rw [hgrow.cell_far _ (by simp; omega) (Ne.symm av)]; assumption)))
        ((refine step_append_lies _ (by rfl) _ _ _ (by rfl) w.heap.size 53 i0 _ 5 48 Tryz.underlying40 HI.out.1 HI.out.2.1 HI.out.2.2.1 HI.out.2.2.2 rfl (by omega) u _ _ (by rfl) ((hown.alloc _).drew)
            ⟨wr.heap.size, 0, none⟩ 1 1 [.string K, .int .i64 O, .int .i64 L, .int .u64 Q, .bool G] (by rfl) (by rfl) (World.news_of_block (cs := #[.string K, .int .i64 O, .int .i64 L, .int .u64 Q, .bool G]) (t := 53) (fr := (0, 0)) (heap_alloc_new wr _)) (by simp [Value.oneCell'])
            (by omega) (by unfold maxLen; omega) (by omega) (by simp; omega) (wr.heap.size + 1) (by simp) ?_; intro gg cap2 w2 hown2 hgrow hat hlt2))
      go_wp2_with fail
      exact ⟨⟨_, k + 1, rfl, by omega, by go_num, by rw [HT.out, HSn.out, List.length_append, ← HM.out]; exact hown2, Below.grown ((hbw.alloc hbz _).drew) hgrow (by simp; omega) (fun j hj => (hown.lt _ hj).1)⟩, by simp [intOf]; omega⟩
    · have e : k = n := by omega
      subst e
      have hall : l.take k = l := by rw [HN.out, List.take_length]
      rw [hall] at hown
      obtain ⟨a2, cap2, rfl, hrec⟩ := owns_ents hown
      have HC := Lib.hid hrec
      clear hrec hown hall
      go_wp2_with fail
      go_ret
      exact ⟨a2, cap2, rfl, HC.out, hbw⟩

end Go.Proofs.YtmekkbhblghbmaaGreatDoor
