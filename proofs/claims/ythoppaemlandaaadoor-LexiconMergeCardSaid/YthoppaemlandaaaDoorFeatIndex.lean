/-
  Index returns the index of the first feature with a name, or -1; Has whether a list has a feature, as the reference looks for it; Get the value of the first feature with a name. Condition: the slice holds the features.
-/
import Derived.Test.YthoppaemlandaaaDoorFeatSame
namespace Go.Proofs.YthoppaemlandaaaDoor
open Go.RowKit
open FeatPlain

/-- The index of the first feature with a name. -/
def idx : List Ft → ByteArray → Option Nat
  | [], _ => none
  | f :: l, nm => if f.1 = nm then some 0 else (idx l nm).map (· + 1)

def NoTo (xs : List Ft) (nm : ByteArray) (k : Nat) : Prop := ∀ j f, j < k → xs[j]? = some f → f.1 ≠ nm

theorem noTo_succ {xs : List Ft} {nm : ByteArray} {k : Nat} {f : Ft} (h : NoTo xs nm k) (hf : xs[k]? = some f) (hn : f.1 ≠ nm) : NoTo xs nm (k + 1) := by
  intro j g hj hg
  by_cases e : j = k
  · subst e; rw [hf] at hg; cases hg; exact hn
  · exact h j g (by omega) hg

theorem idx_found : ∀ {xs : List Ft} {nm : ByteArray} {k : Nat} {f : Ft}, NoTo xs nm k → xs[k]? = some f → f.1 = nm → idx xs nm = some k
  | [], _, _, _, _, hf, _ => by simp at hf
  | x :: xs, nm, 0, f, _, hf, hn => by simp at hf; subst hf; simp [idx, hn]
  | x :: xs, nm, k + 1, f, h, hf, hn => by
    have hx : ¬ x.1 = nm := h 0 x (by omega) rfl
    rw [idx, if_neg hx, idx_found (k := k) (fun j g hj hg => h (j + 1) g (by omega) (by simpa using hg)) (by simpa using hf) hn]
    rfl

theorem idx_none : ∀ {xs : List Ft} {nm : ByteArray}, NoTo xs nm xs.length → idx xs nm = none
  | [], _, _ => rfl
  | x :: xs, nm, h => by
    have hx : ¬ x.1 = nm := h 0 x (by simp) rfl
    rw [idx, if_neg hx, idx_none (fun j g hj hg => h (j + 1) g (by simp only [List.length_cons]; omega) (by simpa using hg))]
    rfl

theorem idx_some : ∀ {xs : List Ft} {nm : ByteArray} {k : Nat}, idx xs nm = some k → ∃ f, xs[k]? = some f ∧ f.1 = nm
  | x :: xs, nm, k, h => by
    rw [idx] at h
    split at h
    · cases h; exact ⟨x, rfl, by assumption⟩
    · obtain ⟨j, hj, rfl⟩ := Option.map_eq_some_iff.1 h
      obtain ⟨f, hf, hn⟩ := idx_some hj
      exact ⟨f, by simpa using hf, hn⟩

theorem idx_no : ∀ {xs : List Ft} {nm : ByteArray}, idx xs nm = none → ∀ f ∈ xs, f.1 ≠ nm
  | x :: xs, nm, h, f, hf => by
    rw [idx] at h
    split at h
    · cases h
    · rcases List.mem_cons.1 hf with rfl | hf
      · assumption
      · exact idx_no (Option.map_eq_none_iff.1 h) f hf

/-- In a list with strictly ascending names a feature is found where its name is. -/
def hasB (xs : List Ft) (f : Ft) : Bool := match idx xs f.1 with
  | none => false
  | some k => match xs[k]? with
    | none => false
    | some g => decide (g.2 = f.2)

theorem hasB_none {xs : List Ft} {f : Ft} (h : idx xs f.1 = none) : hasB xs f = false := by simp [hasB, h]
theorem hasB_some {xs : List Ft} {f g : Ft} {k : Nat} (h : idx xs f.1 = some k) (hg : xs[k]? = some g) : hasB xs f = decide (g.2 = f.2) := by simp [hasB, h, hg]

theorem hasB_iff {xs : List Ft} (ha : Asc xs) (f : Ft) : hasB xs f = true ↔ f ∈ xs := by
  cases h : idx xs f.1 with
  | none =>
    rw [hasB_none h]
    simp only [Bool.false_eq_true, false_iff]
    exact fun hf => idx_no h f hf rfl
  | some k =>
    obtain ⟨g, hg, hn⟩ := idx_some h
    rw [hasB_some h hg, decide_eq_true_eq]
    constructor
    · intro e
      have : g = f := Prod.ext hn e
      subst this
      exact List.mem_of_getElem? hg
    · intro hf
      rw [asc_eq ha (List.mem_of_getElem? hg) hf hn]

def IdxPost (w : World) (o : Option Nat) (e : Ending) (w' : World) : Prop := w = w' ∧ match o with
  | none => e = .returned (.int .i64 (-1))
  | some k => e = .returned (.int .i64 (k : Int))

end Go.Proofs.YthoppaemlandaaaDoor
