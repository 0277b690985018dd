/-
  The reference's Merge: the lexemes of both lists, or the first error that applies. Condition: the slices hold the lexemes, at most 2^32 of each.
-/
import Derived.Test.YtfoeghabnbjbgaaDoorLexAdd
import Derived.Test.YtfoeghabnbjbgaaDoorLexRefSel
namespace Go.Proofs.YtfoeghabnbjbgaaDoor
open Go.RowKit
open FeatPlain

theorem idx_neg {xs : List Lx} {s : ByteArray} (h : inB (xs.map Lx.id) s = false) : idxL (fun x => decide (x.id = s)) xs = -1 := by
  refine idxL_none (fun y hy => ?_)
  rw [decide_eq_false_iff_not]
  intro e
  have : inB (xs.map Lx.id) s = true := by simp [inB]; exact ⟨y, hy, e⟩
  rw [h] at this
  cases this
theorem idx_pos {xs : List Lx} {s : ByteArray} (h : inB (xs.map Lx.id) s = true) : ∃ k : Nat, idxL (fun x => decide (x.id = s)) xs = (k : Int) ∧ k < xs.length := by
  rcases idxL_cases (fun x => decide (x.id = s)) xs with ⟨_, h2⟩ | ⟨k, x, h1, h2, _⟩
  · simp [inB] at h
    obtain ⟨y, hy, e⟩ := h
    have := List.find?_eq_none.1 h2 y hy
    simp [e] at this
  · exact ⟨k, h1, (List.getElem?_eq_some_iff.1 h2).1⟩
theorem idx_at {xs : List Lx} {k : Nat} {x : Lx} (hx : xs[k]? = some x) : (inB ((xs.take k).map Lx.id) x.id = false → idxL (fun y => decide (y.id = x.id)) xs = (k : Int)) ∧ (inB ((xs.take k).map Lx.id) x.id = true → ∃ j : Nat, idxL (fun y => decide (y.id = x.id)) xs = (j : Int) ∧ j < k) := by
  constructor
  · intro h
    refine idxL_hit (fun y hy => ?_) hx (by simp)
    rw [decide_eq_false_iff_not]
    intro e
    have : inB ((xs.take k).map Lx.id) x.id = true := by simp only [inB, List.any_map, List.any_eq_true]; exact ⟨y, hy, by simp [e]⟩
    rw [h] at this
    cases this
  · intro h
    simp only [inB, List.any_map, List.any_eq_true] at h
    obtain ⟨y, hy, e⟩ := h
    have e' : y.id = x.id := by simpa using e
    obtain ⟨i, hi, rfl⟩ := List.getElem_of_mem hy
    have hik : i < k := by rw [List.length_take] at hi; omega
    have hyi : xs[i]? = some (xs.take k)[i] := by
      have : (xs.take k)[i]? = some (xs.take k)[i] := List.getElem?_eq_getElem hi
      rwa [List.getElem?_take, if_pos hik] at this
    obtain ⟨hil, hyi'⟩ := List.getElem?_eq_some_iff.1 hyi
    have e3 : xs[i].id = x.id := by rw [hyi']; exact e'
    clear hyi hyi' e' e hy
    rcases idxL_cases (fun y => decide (y.id = x.id)) xs with ⟨_, h2⟩ | ⟨j, z, h1, h2, h3⟩
    · have := List.find?_eq_none.1 h2 xs[i] (List.getElem_mem hil)
      simp [e3] at this
    · refine ⟨j, h1, ?_⟩
      rw [List.find?_eq_some_iff_getElem] at h3
      obtain ⟨h4, j', hj', e1, e2⟩ := h3
      have hjj : idxL (fun y => decide (y.id = x.id)) xs = (j' : Int) := idxL_hit (k := j') (x := z) (fun u hu => by
          obtain ⟨a, ha, rfl⟩ := List.getElem_of_mem hu
          have ha' : a < j' := by rw [List.length_take] at ha; omega
          have := e2 a ha'
          rw [List.getElem_take]
          simpa using this) (by rw [List.getElem?_eq_getElem hj', e1]) h4
      have hj2 : j' = j := by rw [h1] at hjj; omega
      subst hj2
      by_cases q : j' ≤ i
      · omega
      · have := e2 i (by omega)
        simp [e3] at this
theorem Ls.len0 {w : World} {A : Option Addr} {n c : Nat} {xs : List Lx} (h : Ls w A n c xs) (e : A = none) : n = 0 := by
  have := h.nl e
  have := h.le
  omega
/-- Cell j of a row of lexemes belongs to lexeme j / 5. -/
theorem Ls.flatCells {w : World} {A : Option Addr} {n c : Nat} {xs : List Lx} (h : Ls w A n c xs) : ∀ ad, A = some ad → ∀ j u, (flatL xs)[j]? = some u → w.cell? (ad.add j) = some u := by
  intro ad had j u hj
  have hlt : j < (flatL xs).length := (List.getElem?_eq_some_iff.1 hj).1
  rw [flatL_length] at hlt
  have hi : j / 5 < xs.length := by omega
  have hx : xs[j / 5]? = some xs[j / 5] := List.getElem?_eq_getElem hi
  obtain ⟨b, off, hA, f0, f1, f2, f3, f4⟩ := h.cells _ _ hx
  obtain ⟨g0, g1, g2, g3, g4⟩ := flatL_get _ _ _ hx
  rw [hA] at had
  cases had
  have hsp : j = j / 5 * 5 ∨ j = j / 5 * 5 + 1 ∨ j = j / 5 * 5 + 2 ∨ j = j / 5 * 5 + 3 ∨ j = j / 5 * 5 + 4 := by omega
  have key : ∀ q : Nat, (⟨b, off, none⟩ : Addr).add q = ⟨b, off + q, none⟩ := fun q => by by_cases h0 : q = 0 <;> simp [Addr.add, h0]
  generalize j / 5 = i at *
  rcases hsp with e | e | e | e | e <;> subst e <;> rw [key]
  · rw [g0] at hj; cases hj; exact f0
  · rw [g1] at hj; cases hj; exact f1
  · rw [g2] at hj; cases hj; exact f2
  · rw [g3] at hj; cases hj; exact f3
  · rw [g4] at hj; cases hj; exact f4

/-- The error that Merge returns. -/
def mergeE (xs ys : List Lx) : Nat := if addB (xs.map Lx.id) (ys.map Lx.id) then (if xs.length + ys.length > 256 then 2 else 0) else 5
def RefMergePost (w : World) (xs ys : List Lx) (e : Ending) (w' : World) : Prop := Aft w w' ∧ ∃ A n c, e = .returned (.tuple #[.slice A n c, .int .i64 (mergeE xs ys : Nat)]) ∧ Ls w' A n c (if mergeE xs ys = 0 then xs ++ ys else [])
theorem inB_append (a b : List ByteArray) (s : ByteArray) : inB (a ++ b) s = (inB a s || inB b s) := by simp [inB]

end Go.Proofs.YtfoeghabnbjbgaaDoor
