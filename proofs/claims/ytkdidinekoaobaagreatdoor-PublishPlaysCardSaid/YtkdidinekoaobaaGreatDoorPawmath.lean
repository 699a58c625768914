/- Plain facts of the first, small test of every law of layer 13. -/
import Derived.Test.YtkdidinekoaobaaGreatDoorPa
namespace Go.Proofs.YtkdidinekoaobaaGreatDoor.P
open M J
set_option linter.unusedVariables false

abbrev abc : List UInt8 := [97, 98, 99]
theorem ob3 : ob 3 = [111, 48, 48, 48, 48, 48, 51] := by rw [ob_yes (by omega)]; rfl
theorem nm1 : nm 1 = [109, 48, 48, 48, 48, 48, 49] := by rw [nm_yes (by omega)]; rfl
abbrev o3 : Ob := ⟨ob 3, abc⟩
theorem one_take (S : Rs) (h : S.sc = []) (l : List Ob) : takes S l = ⟨l, [], S.n + 1⟩ := by
  have hf : fateOf S ≠ 1 := by unfold fateOf; rw [h]; show (0 : Int) ≠ 1; omega
  rw [takes_other _ hf]
  unfold used
  rw [h]
  rfl
theorem get_there (l : List Ob) (k : Int) (n b : List UInt8) (h : M.look l n = some ⟨n, b⟩) : gE ⟨l, [], k⟩ n = 0 ∧ gB ⟨l, [], k⟩ n = b := by
  have hf := fine_nil (l := l) (k := k)
  unfold gE gB
  rw [err_fine _ hf.2, bytes_fine _ hf.2]
  show getE l n = 0 ∧ getB l n = b
  unfold getE getB
  rw [h]
  exact ⟨rfl, rfl⟩
theorem look_here (n b : List UInt8) (l : List Ob) : M.look (⟨n, b⟩ :: l) n = some ⟨n, b⟩ := by unfold M.look; rw [List.find?_cons_of_pos (by simp)]
theorem upload_aw : upload newS 3 abc = (⟨[o3], [], 2⟩, sgOf 3 abc, 0) := by
  have h1 : takes newS (lays newS.obs (ob 3) abc) = ⟨[o3], [], 1⟩ := by
    rw [one_take newS rfl]
    rfl
  obtain ⟨g1, g2⟩ := get_there [o3] 1 (ob 3) abc (look_here _ _ _)
  unfold upload
  rw [if_pos (show upOk 3 abc from ⟨by omega, by simp⟩)]
  simp only [h1, g1, g2, ne_eq, not_true, if_false, if_true]
  rfl
theorem lat_skip (S : Rs) (n : Int) (r : List (List UInt8)) : lat S (ob n :: r) = lat S r := by
  rw [lat, vr_ob, if_pos rfl]
theorem latest_aw1 : latest ⟨[o3], [], 2⟩ = (⟨[o3], [], 3⟩, noMf, 5) := by
  have hf := fine_nil (l := [o3]) (k := 2)
  unfold latest
  rw [if_neg hf.2]
  show lat ⟨[o3], [], 3⟩ (ob 3 :: []) = _
  rw [lat_skip]
  rfl
def mA (s : Sg) : Mf := ⟨1, [s]⟩
theorem mA_right {c : Nat} : Right (mA ⟨3, 3, c⟩) := one_right (m := noMf) (s := ⟨3, 3, c⟩) (by show (0 : Int) ≤ 0 ∧ (0 : Int) + 1 ≤ 999999; omega) (by show (0 : Int) ≤ 3 ∧ (3 : Int) ≤ 999999; omega) (by show (0 : Int) ≤ 3 ∧ (3 : Int) ≤ 1048576; omega)
noncomputable abbrev oM (c : Nat) : Ob := ⟨nm 1, (mbs (mA ⟨3, 3, c⟩)).1⟩
theorem look_no : M.look [o3] (nm 1) = none := by
  unfold M.look
  rw [List.find?_cons_of_neg (by show ¬ (ob 3 == nm 1) = true; rw [ob3, nm1]; decide)]
  rfl
theorem lays_aw (b : List UInt8) : lays [o3] (nm 1) b = [⟨nm 1, b⟩, o3] := by
  unfold lays
  rw [wo_id (fun o ho => by rw [List.mem_singleton.1 ho]; show ob 3 ≠ nm 1; rw [ob3, nm1]; decide)]
  unfold ins
  have h : lt (ob 3) (nm 1) = false := by rw [ob3, nm1]; decide
  rw [List.takeWhile_cons, List.dropWhile_cons]
  show (if lt (ob 3) (nm 1) = true then _ else _) ++ _ = _
  rw [h]
  rfl
theorem next_aw (c : Nat) : next ⟨[o3], [], 3⟩ 0 [⟨3, 3, c⟩] = (⟨[oM c, o3], [], 4⟩, mA ⟨3, 3, c⟩, 0) := by
  have hn : nextMf 0 [⟨3, 3, c⟩] = mA ⟨3, 3, c⟩ := by unfold nextMf mA; rw [IntWalk.i64_in _ ⟨by omega, by omega⟩]; rfl
  have hne : newE [o3] (nm 1) = 0 := by unfold newE; rw [look_no]
  have hnl : newL [o3] (nm 1) (mbs (mA ⟨3, 3, c⟩)).1 = [oM c, o3] := by unfold newL; rw [look_no]; exact lays_aw _
  have hf := fine_nil (l := [o3]) (k := 3)
  unfold next
  simp only [hn, right_iff.2 mA_right, Bool.true_eq_false, if_false, show (mA ⟨3, 3, c⟩).ver = 1 from rfl]
  unfold putE putS
  show (if errOf _ (newE [o3] (nm 1)) = 0 then _ else _) = _
  rw [hne, err_fine _ hf.2, if_pos rfl]
  show (takes _ (newL [o3] (nm 1) (mbs (mA ⟨3, 3, c⟩)).1), _, _) = _
  rw [hnl, one_take _ rfl]
  rfl
theorem latest_aw2 {c : Nat} (hc : c < 4294967296) : latest ⟨[oM c, o3], [], 4⟩ = (⟨[oM c, o3], [], 6⟩, mA ⟨3, 3, c⟩, 0) := by
  have hf := fine_nil (l := [oM c, o3]) (k := 4)
  obtain ⟨g1, g2⟩ := get_there [oM c, o3] 5 (nm 1) (mbs (mA ⟨3, 3, c⟩)).1 (look_here _ _ _)
  have e3 : mrd (mbs (mA ⟨3, 3, c⟩)).1 = (mA ⟨3, 3, c⟩, 0) := mrd_yes ⟨mA_right, fun s hs => by
    simp only [mA, List.mem_singleton] at hs
    rw [hs]; exact hc, by rw [mbs_yes mA_right]⟩
  unfold latest
  rw [if_neg hf.2]
  show lat ⟨[oM c, o3], [], 5⟩ (ob 3 :: nm 1 :: []) = _
  rw [lat_skip, lat, vr_nm (by omega), if_neg (by simp), g1, if_neg (by omega), g2, e3, if_pos ⟨rfl, by rw [e3], rfl⟩]
  rfl
theorem fetch_aw {l : List Ob} {k : Int} (h : M.look l (ob 3) = some o3) : fetch ⟨l, [], k⟩ (sgOf 3 abc) = (⟨l, [], k + 1⟩, abc, 0) := by
  obtain ⟨g1, g2⟩ := get_there l k (ob 3) abc h
  unfold fetch
  rw [show (sgOf 3 abc).n = 3 from rfl, g1, g2, if_neg (by simp), if_pos rfl]
  rfl
theorem look_aw (c : Nat) : M.look [oM c, o3] (ob 3) = some o3 := by
  unfold M.look
  rw [List.find?_cons_of_neg (by show ¬ (nm 1 == ob 3) = true; rw [ob3, nm1]; decide), List.find?_cons_of_pos (by simp)]

abbrev namesA : List (List UInt8) := [[111, 48, 48, 48, 48, 48, 51], [111, 48, 48, 48, 48, 48, 52], [120], [109, 48, 48, 48, 48, 48, 49]]
theorem ob_inj {a b : Int} (ha : 0 ≤ a ∧ a ≤ 999999) (hb : 0 ≤ b ∧ b ≤ 999999) (h : ob a = ob b) : a = b := by
  rw [ob_yes ha, ob_yes hb] at h
  simp only [List.cons.injEq, true_and] at h
  have := dig_inj (by omega) (by omega) h
  omega
theorem ws_aw (c : Nat) : ws (mA ⟨3, 3, c⟩) namesA = [[111, 48, 48, 48, 48, 48, 52]] := by
  have h4 : ob 4 = [111, 48, 48, 48, 48, 48, 52] := by rw [ob_yes (by omega)]; rfl
  refine up_same (ws_up _ _) (List.pairwise_singleton _ _) (fun x => ?_)
  rw [ws_mem]
  simp only [namesA, List.mem_cons, List.not_mem_nil, or_false]
  have hv : ∀ n : List UInt8, (vr n).2 = true → (vr n).1 + 1 < (mA ⟨3, 3, c⟩).ver → False := by
    intro n h1 h2
    by_cases hx : ∃ v, isVer n v
    · obtain ⟨v, hx⟩ := hx
      rw [vr_yes hx] at h2
      have := hx.1
      simp only [mA] at h2
      omega
    · rw [vr_no (fun v hv => hx ⟨v, hv⟩)] at h1
      cases h1
  constructor
  · rintro ⟨hx, h | ⟨k, hk, e, hno⟩⟩
    · exact absurd h.2 (fun h2 => hv x h.1 h2)
    · rcases hx with rfl | rfl | rfl | rfl
      · exfalso
        rw [← ob3] at e
        have := ob_inj hk (by omega) e
        exact hno ⟨3, 3, c⟩ (by simp [mA]) (by rw [this])
      · rfl
      · rw [ob_yes hk] at e
        simp at e
      · rw [ob_yes hk] at e
        simp at e
  · rintro rfl
    refine ⟨Or.inr (Or.inl rfl), Or.inr ⟨4, by omega, h4, fun s hs => ?_⟩⟩
    simp only [mA, List.mem_singleton] at hs
    rw [hs]
    show (3 : Int) ≠ 4
    omega
end Go.Proofs.YtkdidinekoaobaaGreatDoor.P
