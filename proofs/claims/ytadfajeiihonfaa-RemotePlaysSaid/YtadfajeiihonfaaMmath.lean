/- Plain facts on a remote: what a call comes to. Nothing of the program is used here. -/
import Derived.Test.YtadfajeiihonfaaBord
namespace Go.Proofs.Ytadfajeiihonfaa

/-- An object: its name, its bytes. -/
structure Ob where
  nm : List UInt8
  bt : List UInt8

/-- A remote: its objects by rising names, what is left of the script, how many calls. -/
structure Rs where
  obs : List Ob
  sc : List Int
  n : Int

def look (l : List Ob) (n : List UInt8) : Option Ob := l.find? (fun f => f.nm == n)
/-- An object is laid in place of the one of its name. -/
def lays (l : List Ob) (n b : List UInt8) : List Ob := ins Ob.nm (wo Ob.nm l n) ⟨n, b⟩

/-- The fate of the next call; the remote when it is used, and the call counted. -/
def fateOf (S : Rs) : Int := S.sc.headD 0
def used (S : Rs) : Rs := { S with sc := S.sc.tail, n := S.n + 1 }
def far (S : Rs) : Prop := fateOf S = 1 ∨ fateOf S = 2
instance (S : Rs) : Decidable (far S) := by unfold far; infer_instance

/-- .. with other objects, if it is not lost. -/
def takes (S : Rs) (l : List Ob) : Rs := { used S with obs := if fateOf S = 1 then S.obs else l }
def errOf (S : Rs) (e : Int) : Int := if far S then 9 else e

def newE (l : List Ob) (n : List UInt8) : Int := match look l n with | some _ => 7 | none => 0
def newL (l : List Ob) (n b : List UInt8) : List Ob := match look l n with | some _ => l | none => lays l n b
def getB (l : List Ob) (n : List UInt8) : List UInt8 := match look l n with | some o => o.bt | none => []
def getE (l : List Ob) (n : List UInt8) : Int := match look l n with | some _ => 0 | none => 5

theorem look_none {l : List Ob} {n : List UInt8} (h : look l n = none) : ∀ f ∈ l, f.nm ≠ n := by
  intro f hf e
  have := List.find?_eq_none.1 h f hf
  simp [e] at this
theorem look_mem {l : List Ob} {n : List UInt8} {f : Ob} (h : look l n = some f) : f ∈ l ∧ f.nm = n :=
  ⟨List.mem_of_find?_eq_some h, by simpa using List.find?_some h⟩
theorem look_of {l : List Ob} {f : Ob} (h : Up Ob.nm l) (hf : f ∈ l) : look l f.nm = some f := by
  cases e : look l f.nm with
  | none => exact absurd rfl (look_none e f hf)
  | some g =>
    obtain ⟨h1, h2⟩ := look_mem e
    rw [up_inj h h1 hf h2]

theorem up_lays {l : List Ob} (h : Up Ob.nm l) (n b : List UInt8) : Up Ob.nm (lays l n b) := up_ins (up_wo h _) (fun _ hc => (mem_wo.1 hc).2)
theorem up_newL {l : List Ob} (h : Up Ob.nm l) (n b : List UInt8) : Up Ob.nm (newL l n b) := by
  unfold newL
  split
  · exact h
  · exact up_lays h n b
theorem len_lays (l : List Ob) (n b : List UInt8) : (lays l n b).length ≤ l.length + 1 := by
  unfold lays
  rw [length_ins]
  have : (wo Ob.nm l n).length ≤ l.length := List.length_filter_le _ _
  omega
theorem len_newL (l : List Ob) (n b : List UInt8) : (newL l n b).length ≤ l.length + 1 := by
  unfold newL
  split
  · omega
  · exact len_lays l n b
theorem look_lays {l : List Ob} (h : Up Ob.nm l) (n b : List UInt8) : look (lays l n b) n = some ⟨n, b⟩ := look_of (f := ⟨n, b⟩) (up_lays h n b) (mem_ins.2 (Or.inl rfl))

/-- What holds of every remote that is met. -/
structure Ok (S : Rs) : Prop where
  up : Up Ob.nm S.obs
  short : ∀ o ∈ S.obs, o.nm.length ≤ 9223372036854775807
  few : S.obs.length ≤ 1000000000
  calls : 0 ≤ S.n ∧ S.n ≤ 1000000000000
  nums : ∀ y ∈ S.sc, -9223372036854775808 ≤ y ∧ y ≤ 9223372036854775807
end Go.Proofs.Ytadfajeiihonfaa
