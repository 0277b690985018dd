/-
  The reference's Meet returns the features of the first list that Has finds in the second one. Condition: the slices hold the features, and the first one is no longer than an argument can be.
-/
import Derived.Test.YthoppaemlandaaaDoorFeatMeet
namespace Go.Proofs.YthoppaemlandaaaDoor
open Go.RowKit
open FeatPlain

theorem filter_step {xs out : List Ft} {p : Ft → Bool} {k : Nat} {f : Ft} (h : xs.filter p = out ++ (xs.drop k).filter p) (hf : xs[k]? = some f) : xs.filter p = (out ++ if p f then [f] else []) ++ (xs.drop (k + 1)).filter p := by
  rw [h, drop_of_get hf, List.filter_cons]
  cases p f <;> simp

/-- A row of the call's own stays while only new memory is made. -/
theorem own_aft {wr w1 : World} {base : Nat} {e : TypeId} {size : Nat} {v : Value} {n : Nat} {l : List Value} (h : wr.ownsRow base e size v n l) (k : Aft wr w1) : w1.ownsRow base e size v n l := by
  refine ⟨h.1, ?_⟩
  rcases h.2 with h0 | ⟨g, cap, cur, hv, hb, hg, rest⟩
  · exact .inl h0
  · refine .inr ⟨g, cap, cur, hv, hb, ?_, rest⟩
    have hlt : g < wr.heap.size := by
      rcases Nat.lt_or_ge g wr.heap.size with h' | h'
      · exact h'
      · rw [Array.getElem?_eq_none h'] at hg; cases hg
    exact (Below.block k g hlt).trans hg

end Go.Proofs.YthoppaemlandaaaDoor
