/-
  How an argument that is a slice of strings is opened: it holds strings, none of which is too long, and takes no more bytes than any argument does.
-/
import Derived.Test.YthoppaemlandaaaDoorFeatSet
import Derived.ProofKit
import Derived.OpenShut
import Derived.ChangeOld
import Derived.SizedLaws
import Derived.Deep.Strs
namespace Go.Proofs.YthoppaemlandaaaDoor
open Go.ChangeShapes Go.WideShapes Go.ChangeAt Go.RowKit Go.Deep
open FeatPlain

theorem strs_of {H : Type} {enc : TypeId × Value → H} {W : World} {a : Option Addr} {len cap : Nat} {d : DataW H} {p : List MemPlace}
    (h : DataW.Trod enc Tryd.prog W 0 (fun _ => true) true 41 (.slice a len cap) d p) {R : Nat} (hR : R ≤ reachBytes) (hs : ∀ el sp, d = .slice el sp → (el.length + sp.length) * 16 ≤ R) :
    ∃ ss, Ss W a len cap ss ∧ (∀ s ∈ ss, s.size ≤ maxLen) ∧ cap * 16 ≤ R := by
  obtain ⟨fuel, hf⟩ := h
  rcases open_strs Tryd.underlying41 Tryd.underlying9 (by kernel_rfl) hf with ⟨hcs, hx⟩ | ⟨x, l, c, m, Sx, hcs, _, hl, hm, hmm, hx, hcell⟩
  · simp [Value.cells] at hcs
    obtain ⟨rfl, rfl, rfl⟩ := hcs
    exact ⟨[], Ss.nil (by omega) (fun _ => rfl), (fun f h => by cases h), by omega⟩
  · simp [Value.cells] at hcs
    obtain ⟨rfl, rfl, rfl⟩ := hcs
    simp only [if_true] at hmm
    obtain rfl : m = cap := hmm
    simp only [Prod.mk.injEq] at hx
    have hb := hs _ _ hx.1
    simp only [List.length_map, List.length_range] at hb
    have hcap : m * 16 ≤ R := by rwa [show len + (m - len) = m from by omega] at hb
    refine ⟨(List.range len).map Sx, ⟨by simp, hl, by unfold reachBytes at hR; omega, by unfold reachBytes at hR; omega, fun e => (by cases e), ?_⟩, ?_, hcap⟩
    · intro i f hi
      have hlt : i < len := by have := (List.getElem?_eq_some_iff.1 hi).1; simpa using this
      simp [hlt] at hi
      subst hi
      obtain ⟨c0, _⟩ := hcell i (by omega)
      obtain ⟨b, off, spot⟩ := x
      obtain ⟨k0, _⟩ := hcell 0 (by omega)
      have hspot : spot = none := by simpa [Addr.add] using World.cell?_spot k0
      subst hspot
      rw [Addr.add_lit] at c0
      exact ⟨b, off, rfl, c0⟩
    · intro f hf
      simp only [List.mem_map, List.mem_range] at hf
      obtain ⟨i, hi, rfl⟩ := hf
      exact (hcell i (by omega)).2
end Go.Proofs.YthoppaemlandaaaDoor
