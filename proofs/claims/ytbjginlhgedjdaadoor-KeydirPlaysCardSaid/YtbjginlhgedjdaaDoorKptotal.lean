/- The program's directory does what is asked of one. -/
import Derived.Test.YtbjginlhgedjdaaDoorKpput2
import Derived.Test.YtbjginlhgedjdaaDoorKpdel
namespace Go.Proofs.YtbjginlhgedjdaaDoor.K
open Go.RowKit Go.Shelf
set_option linter.unusedVariables false

theorem PkPost.dir {B : Nat} {w : World} {pb rb : Nat} {F : Nat → Prop} (hF : ∀ k, F k ↔ (k = pb ∨ k = rb)) {S' : Dr} {v : Value} {e : Ending} {w' : World} (h : PkPost B w pb rb (cnt S') S' v e w') : PdPost PdP B w pb F S' v e w' := by
  obtain ⟨h1, rb', h2, h3, h4⟩ := h
  refine ⟨h1, fun k => k = pb ∨ k = rb', ⟨rb', h2, fun k => Iff.rfl⟩, fun k hk => ?_, h4.mono (fun k _ hk => (hF k).2 hk)⟩
  rcases hk with rfl | rfl
  · exact Or.inl ((hF _).2 (Or.inl rfl))
  · rcases h3 with rfl | h3
    · exact Or.inl ((hF _).2 (Or.inr rfl))
    · exact Or.inr h3
theorem long_max {k : List UInt8} (h : k.length ≤ 1000) : k.length ≤ maxLen := by unfold maxLen; omega
theorem fromC : FromC PdP 36 := by
  refine ⟨enters_of Tryd.func36 (by kernel_rfl) rfl, ?_⟩
  intro B w pb F S n k G V hS hd hm hf hn hk hV hg
  obtain ⟨rb, hp, hF⟩ := hd
  exact pfrom_any hS hp hf.ok.inv.one hV
theorem pd_lt {B : Nat} {w : World} {pb : Nat} {F : Nat → Prop} {S : Dr} (h : PdP B w pb F S) (k : Nat) (hk : F k) : B ≤ k ∧ k < w.heap.size := by
  obtain ⟨rb, hp, hF⟩ := h
  rcases (hF k).1 hk with rfl | rfl
  · exact ⟨hp.base.1, hp.lt.1⟩
  · exact ⟨hp.base.2.1, hp.lt.2⟩
theorem pd_base {B : Nat} {w : World} {pb : Nat} {F : Nat → Prop} {S : Dr} (h : PdP B w pb F S) : B ≤ w.heap.size := by
  obtain ⟨rb, hp, hF⟩ := h
  exact hp.base.2.2.2
theorem pd_kept {B : Nat} {w w' : World} {pb : Nat} {F G : Nat → Prop} {S : Dr} (h : PdP B w pb F S) (t : Turn G w w') (hG : ∀ k, k < w.heap.size → F k → ¬ G k) : PdP B w' pb F S := by
  obtain ⟨rb, hp, hF⟩ := h
  exact ⟨rb, hp.kept t (fun k hk hk2 => hG k hk ((hF k).2 hk2)), hF⟩

theorem dirP : DirC PdP where
  lt := fun h k hk => pd_lt h k hk
  base := fun h => pd_base h
  kept := fun h t hG => pd_kept h t hG
  new := fun w hM => (pnew_any w).mono (fun e w' ⟨pb, rb, h1, h2, h3⟩ => ⟨pb, fun k => k = pb ∨ k = rb, h1, ⟨rb, by rw [cnt_none']; exact h2, fun k => Iff.rfl⟩, h3⟩)
  put := fun {B w pb F S n k} h hM hf hn hk l => by
    obtain ⟨rb, hp, hF⟩ := h
    have hk' := long_max hk
    rcases has_cases S k with ⟨_, i, v, hi⟩ | ⟨_, hno⟩
    · rw [putS_yes hf.ok.inv.one hi]
      have := pput_yes (l := l) hp hM hk' hf.ok.inv hi
      exact this.mono (fun e w' h => PkPost.dir hF (by rw [cnt_same hi]; exact h.post))
    · rw [putS_no hno]
      have hc : cnt (lay hm (room hm S) (k, l)) = cnt S + 1 := (ok_put homeLt hf.ok (s := (k, l)) hno).2.2
      by_cases hfit : S.length < 2 * (cnt S + 1)
      · have hr : room hm S = grow hm S := by unfold room; rw [if_pos hfit]
        have hfew := room_few hf hn
        rw [hr, (grow_facts homeLt hf.ok.inv hf.ok.pos).2.1] at hfew
        have := pput_grow (l := l) hp hM hf.ok hk' hno hfit (keys_max hf) (by omega)
        rw [hr] at hc ⊢
        exact this.mono (fun e w' h => PkPost.dir hF (by rw [hc]; exact h))
      · have hr : room hm S = S := by unfold room; rw [if_neg hfit]
        have := pput_fit (l := l) hp hM hk' hno hf.ok.less hfit
        rw [hr] at hc ⊢
        exact this.mono (fun e w' h => PkPost.dir hF (by rw [hc]; exact h.post))
  get := fun {B w pb F S n k} h hM hf hk => by
    obtain ⟨rb, hp, hF⟩ := h
    rcases has_cases S k with ⟨hb, i, v, hi⟩ | ⟨hb, hno⟩
    · rw [hb, locOf_is hf.ok.inv.one hi]; exact pget_yes hp hM (long_max hk) hf.ok.inv hi
    · obtain ⟨x, hx⟩ := empty_is hf.ok.less
      rw [hb, locOf_no hno]; exact pget_no hp hM (long_max hk) hno hx
  del := fun {B w pb F S n k} h hM hf hk => by
    obtain ⟨rb, hp, hF⟩ := h
    rcases has_cases S k with ⟨hb, i, v, hi⟩ | ⟨hb, hno⟩
    · rw [hb, delS_yes hf.ok.inv.one hi]
      have hc := (del_inv homeLt hf.ok.inv hi hf.ok.less).2.2.1
      have := pdel_yes hp hM hf.ok hi (long_max hk) (keys_max hf)
      exact this.mono (fun e w' h => PkPost.dir hF (by rw [show cnt (del hm S i) = cnt S - 1 by omega]; exact h.post))
    · obtain ⟨x, hx⟩ := empty_is hf.ok.less
      rw [hb, delS_no hno]
      refine (pdel_no hp hM (long_max hk) hno hx).mono ?_
      rintro e w' ⟨rfl, rfl⟩
      exact PkPost.dir hF ⟨rfl, rb, hp, Or.inl rfl, Turn.refl _ _⟩
  len := fun h hf => by
    obtain ⟨rb, hp, hF⟩ := h
    exact (plen_any hp).mono (fun e w' ⟨h1, h2⟩ => ⟨h1, h2 ▸ Below.refl _ _⟩)
  cap := fun h hf => by
    obtain ⟨rb, hp, hF⟩ := h
    exact (pcap_any hp).mono (fun e w' ⟨h1, h2⟩ => ⟨h1, h2 ▸ Below.refl _ _⟩)
  far := fun {B w pb F S n k} h hM hf hk => by
    obtain ⟨rb, hp, hF⟩ := h
    rcases has_cases S k with ⟨hb, i, v, hi⟩ | ⟨hb, hno⟩
    · rw [hb, farN_is hf.ok.inv.one hi]; exact pfar_yes hp hM (long_max hk) hf.ok.inv hi
    · obtain ⟨x, hx⟩ := empty_is hf.ok.less
      rw [hb, farN_no hno]; exact pfar_no hp hM (long_max hk) hno hx
  keys := fun {B w pb F S n k} h hM hf hn hk => keys_of (Pd := PdP) (fun h k hk => pd_lt h k hk) (fun h => pd_base h) (fun h t hG => pd_kept h t hG) fromC h hM hf hn hk
end Go.Proofs.YtbjginlhgedjdaaDoor.K
