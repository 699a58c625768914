/- The program's cache does what is asked of one. -/
import Derived.Test.YtbndhhlekfdppaaLpdrop
namespace Go.Proofs.Ytbndhhlekfdppaa.L
open Go.RowKit Go.Maps
set_option linter.unusedVariables false
/-- The program's cache among the blocks from B on; F: its blocks. -/
def PcP (B : Nat) (w : World) (pb : Nat) (F : Nat → Prop) (most : Nat) (l : List It) : Prop :=
  ∃ mb os, Pm B w pb mb most os l ∧ os.take l.length = l.map Prod.fst ∧ ∀ k, F k ↔ (k = pb ∨ k = mb)
theorem PmPost.pc {B : Nat} {w w' : World} {pb mb most : Nat} {F : Nat → Prop} (hF : ∀ k, F k ↔ (k = pb ∨ k = mb)) {l' : List It} {v : Value} {e : Ending} (h : PmPost B w pb mb most l' v e w') : PcPost PcP B w pb F most l' v e w' := by
  obtain ⟨h1, os', h2, h3, h4⟩ := h
  exact ⟨h1, F, ⟨mb, os', h2, h3, hF⟩, fun k hk => Or.inl hk, h4.mono (fun k _ hk => (hF k).2 hk)⟩
theorem cacheP : CacheC PcP where
  lt := fun {B w pb F most l} h k hk => by
    obtain ⟨mb, os, hp, _, hF⟩ := h
    rcases (hF k).1 hk with rfl | rfl
    · exact ⟨hp.base.1, hp.lt.1⟩
    · exact ⟨hp.base.2.1, hp.lt.2⟩
  base := fun {B w pb F most l} h => by
    obtain ⟨mb, os, hp, _⟩ := h
    exact hp.base.2.2.2
  kept := fun {B w w' pb F G most l} h t hG => by
    obtain ⟨mb, os, hp, hk, hF⟩ := h
    exact ⟨mb, os, hp.kept t (fun k hk hk2 => hG k hk ((hF k).2 hk2)), hk, hF⟩
  newNo := fun most w _ hm => pnew_no most w hm
  newYes := fun most w h1 h2 => (pnew_yes most w h1 h2).mono (fun e w' ⟨pb, he, ⟨mb, hp⟩, hb⟩ => ⟨pb, fun k => k = pb ∨ k = mb, he, ⟨mb, os0, hp, rfl, fun k => Iff.rfl⟩, hb⟩)
  get := fun {B w pb F most l b} h ho hm hf hb => by
    obtain ⟨mb, os, hp, hk, hF⟩ := h
    exact (pget_any hp hk ho hm hb).mono (fun e w' h => PmPost.pc hF h)
  put := fun {B w pb F most l b s} h ho h1 hm hf hb hs => by
    obtain ⟨mb, os, hp, hk, hF⟩ := h
    exact (pput_any hp hk ho h1 hm hf hb).mono (fun e w' h => PmPost.pc hF h)
  drop := fun {B w pb F most l seg} h ho hm hf hs => by
    obtain ⟨mb, os, hp, hk, hF⟩ := h
    exact (pdrop_any hp hk ho hm hf).mono (fun e w' h => PmPost.pc hF h)
  blocks := fun {B w pb F most l} h ho hm hf => by
    obtain ⟨mb, os, hp, hk, hF⟩ := h
    exact pblocks_any hp hk (Nat.le_trans ho.few hm)
end Go.Proofs.Ytbndhhlekfdppaa.L
