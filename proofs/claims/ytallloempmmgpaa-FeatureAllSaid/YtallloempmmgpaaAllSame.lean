/-
  SameAll compares two lists of records. Condition: the slices hold the records.
-/
import Derived.Test.YtallloempmmgpaaAllBase
import Derived.Test.YtallloempmmgpaaFeatSame
import Derived.Test.YtallloempmmgpaaRegion
import Derived.Deep.RegionWith
import Derived.Deep.RegionHeld3
namespace Go.Proofs.Ytallloempmmgpaa
open Go.RowKit
open FeatPlain

/-- THE SLICE '.slice A n c' HOLDS SLICES OF FEATURES. -/
structure Sls (w : World) (A : Option Addr) (n c : Nat) (ess : List (List Ft)) : Prop where
  len : ess.length = n
  le : n ≤ c
  cmax : c ≤ 9223372036854775807
  nl : A = none → c = 0
  cells : ∀ i fs, ess[i]? = some fs → ∃ b off B m d, A = some ⟨b, off, none⟩ ∧ w.cell? ⟨b, off + i, none⟩ = some (.slice B m d) ∧ Sl w B m d fs ∧ m ≤ 4
theorem Sls.aft {w w' : World} {A : Option Addr} {n c : Nat} {ess : List (List Ft)} (h : Sls w A n c ess) (k : Aft w w') : Sls w' A n c ess :=
  ⟨h.len, h.le, h.cmax, h.nl, fun i fs hi => by
    obtain ⟨b, off, B, m, d, hA, h1, h2, h3⟩ := h.cells i fs hi
    exact ⟨b, off, B, m, d, hA, k.cell h1, h2.aft k, h3⟩⟩
theorem Sls.at_ {w : World} {A : Option Addr} {n c k : Nat} {ess : List (List Ft)} (h : Sls w A n c ess) (hk : k < n) :
    ∃ b off B m d fs, A = some ⟨b, off, none⟩ ∧ ess[k]? = some fs ∧ w.cell? ⟨b, off + k, none⟩ = some (.slice B m d) ∧ Sl w B m d fs ∧ m ≤ 4 := by
  have hl : k < ess.length := by have := h.len; omega
  have hi : ess[k]? = some ess[k] := List.getElem?_eq_getElem hl
  obtain ⟨b, off, B, m, d, h1, h2, h3, h4⟩ := h.cells k _ hi
  exact ⟨b, off, B, m, d, _, h1, hi, h2, h3, h4⟩
theorem Sls.first {w : World} {A : Option Addr} {n c k : Nat} {ess : List (List Ft)} (h : Sls w A n c ess) (hk : k ≤ n) : Sls w A k c (ess.take k) := by
  have hl := h.len
  have hle := h.le
  refine ⟨by rw [List.length_take]; omega, by omega, h.cmax, h.nl, fun i fs hi => ?_⟩
  rw [List.getElem?_take] at hi
  split at hi
  · exact h.cells i fs hi
  · cases hi
end Go.Proofs.Ytallloempmmgpaa
