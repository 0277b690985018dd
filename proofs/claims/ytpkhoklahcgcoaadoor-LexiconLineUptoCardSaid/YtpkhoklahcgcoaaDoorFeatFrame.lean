/-
  How an argument that is a slice of features is opened: it holds features, of which no string is too long, and takes no more bytes than any argument does.
-/
import Derived.Test.YtpkhoklahcgcoaaDoorFtAll
import Derived.ProofKit
import Derived.OpenShut
import Derived.ChangeOld
import Derived.SizedLaws
import Derived.Deep.SlicePairs
namespace Go.Proofs.YtpkhoklahcgcoaaDoor
open Go.ChangeShapes Go.WideShapes Go.ChangeAt Go.RowKit Go.Deep
open FeatPlain

def toStr : Value → ByteArray
  | .string s => s
  | _ => ByteArray.empty

theorem feats_of {H : Type} {enc : TypeId × Value → H} {W : World} {a : Option Addr} {len cap : Nat} {d : DataW H} {p : List MemPlace}
    (h : DataW.Trod enc Tryd.prog W 0 (fun _ => true) true 22 (.slice a len cap) d p) {R : Nat} (hR : R ≤ reachBytes) (hs : ∀ el sp, d = .slice el sp → (el.length + sp.length) * 32 ≤ R) :
    ∃ fs, Sl W a len cap fs ∧ Sized fs ∧ cap * 32 ≤ R := by
  obtain ⟨fuel, hf⟩ := h
  rcases open_slice_pairs Tryd.underlying22 Tryd.underlying37 (by kernel_rfl) rfl rfl (by kernel_rfl) (by kernel_rfl) hf with ⟨hcs, hx⟩ | ⟨x, l, c, m, n, V0, V1, D0, D1, P0, P1, hcs, _, hl, hm, hmm, hx, hcell⟩
  · simp [Value.cells] at hcs
    obtain ⟨rfl, rfl, rfl⟩ := hcs
    exact ⟨[], Sl.nil (by omega) (fun _ => rfl), (fun f h => by cases h), by omega⟩
  · simp [Value.cells] at hcs
    obtain ⟨rfl, rfl, rfl⟩ := hcs
    simp only [if_true] at hmm
    obtain rfl : m = cap := hmm
    simp only [Prod.mk.injEq] at hx
    have hb := hs _ _ hx.1
    simp only [List.length_map, List.length_range] at hb
    have hcap : m * 32 ≤ R := by rwa [show len + (m - len) = m from by omega] at hb
    have hstr : ∀ i, i < len → ∃ s t, V0 i = .string s ∧ V1 i = .string t ∧ s.size ≤ maxLen ∧ t.size ≤ maxLen := by
      intro i hi
      obtain ⟨_, _, h0, h1⟩ := hcell i (by omega)
      obtain ⟨s, e0, _, z0⟩ := DataW.trod_string Tryd.underlying9 h0
      obtain ⟨t, e1, _, z1⟩ := DataW.trod_string Tryd.underlying9 h1
      simp at e0 e1
      exact ⟨s, t, e0, e1, z0, z1⟩
    refine ⟨(List.range len).map fun i => (toStr (V0 i), toStr (V1 i)), ⟨by simp, hl, by unfold reachBytes at hR; omega, by unfold reachBytes at hR; omega, fun e => (by cases e), ?_⟩, ?_, hcap⟩
    · intro i f hi
      have hlt : i < len := by have := (List.getElem?_eq_some_iff.1 hi).1; simpa using this
      simp [hlt] at hi
      subst hi
      obtain ⟨c0, c1, _, _⟩ := hcell i (by omega)
      obtain ⟨s, t, e0, e1, _, _⟩ := hstr i hlt
      obtain ⟨b, off, spot⟩ := x
      obtain ⟨k0, _, _, _⟩ := hcell 0 (by omega)
      have hspot : spot = none := by simpa [Addr.add] using World.cell?_spot k0
      subst hspot
      rw [Addr.add_lit] at c0 c1
      refine ⟨b, off, rfl, ?_, ?_⟩
      · rw [c0, e0]; rfl
      · rw [Nat.add_assoc, c1, e1]; rfl
    · intro f hf
      simp only [List.mem_map, List.mem_range] at hf
      obtain ⟨i, hi, rfl⟩ := hf
      obtain ⟨s, t, e0, e1, z0, z1⟩ := hstr i hi
      rw [e0, e1]
      exact ⟨z0, z1⟩
end Go.Proofs.YtpkhoklahcgcoaaDoor
