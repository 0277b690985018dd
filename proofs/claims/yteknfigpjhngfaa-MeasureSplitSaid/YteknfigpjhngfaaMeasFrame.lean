/-
  How the arguments are opened: a slice of units, a slice of numbers. No conditions.
-/
import Derived.Test.YteknfigpjhngfaaMeasAwake
import Derived.ProofKit
import Derived.OpenShut
import Derived.ChangeOld
import Derived.SizedLaws
import Derived.Deep.SlicePairs
namespace Go.Proofs.Yteknfigpjhngfaa
open Go.ChangeShapes Go.WideShapes Go.ChangeAt Go.RowKit Go.Deep
open MeasPlain

def toStr : Value → ByteArray
  | .string s => s
  | _ => ByteArray.empty
def toInt : Value → Int
  | .int _ z => z
  | _ => 0

theorem units_of {H : Type} {enc : TypeId × Value → H} {W : World} {a : Option Addr} {len cap : Nat} {d : DataW H} {p : List MemPlace}
    (h : DataW.Trod enc Try.prog W 0 (fun _ => true) true 22 (.slice a len cap) d p) {R : Nat} (hR : R ≤ reachBytes) (hs : ∀ el sp, d = .slice el sp → (el.length + sp.length) * 24 ≤ R) :
    ∃ us, Ul W a len cap us ∧ cap * 24 ≤ R := by
  obtain ⟨fuel, hf⟩ := h
  rcases open_slice_pairs Try.underlying22 Try.underlying44 (by kernel_rfl) rfl rfl (by kernel_rfl) (by kernel_rfl) hf with ⟨hcs, hx⟩ | ⟨x, l, c, m, n, V0, V1, D0, D1, P0, P1, hcs, _, hl, hm, hmm, hx, hcell⟩
  · simp [Value.cells] at hcs
    obtain ⟨rfl, rfl, rfl⟩ := hcs
    exact ⟨[], ul_nil W, by omega⟩
  · simp [Value.cells] at hcs
    obtain ⟨rfl, rfl, rfl⟩ := hcs
    simp only [if_true] at hmm
    obtain rfl : m = cap := hmm
    simp only [Prod.mk.injEq] at hx
    have hb := hs _ _ hx.1
    simp only [List.length_map, List.length_range] at hb
    have hcap : m * 24 ≤ R := by rwa [show len + (m - len) = m from by omega] at hb
    have hval : ∀ i, i < len → ∃ s z, V0 i = .string s ∧ V1 i = .int .i64 z ∧ s.size ≤ maxLen ∧ (Lit.int .i64 z).wf = true := by
      intro i hi
      obtain ⟨_, _, h0, h1⟩ := hcell i (by omega)
      obtain ⟨s, e0, _, z0⟩ := DataW.trod_string Try.underlying9 h0
      obtain ⟨z, e1, _, z1⟩ := DataW.trod_int Try.underlying3 h1
      simp at e0 e1
      exact ⟨s, z, e0, e1, z0, z1⟩
    refine ⟨(List.range len).map fun i => (toStr (V0 i), toInt (V1 i)), ⟨by simp, hl, by unfold reachBytes at hR; omega, by unfold reachBytes at hR; omega, fun e => (by cases e), ?_, ?_⟩, hcap⟩
    · intro i f hi
      have hlt : i < len := by have := (List.getElem?_eq_some_iff.1 hi).1; simpa using this
      simp [hlt] at hi
      subst hi
      obtain ⟨c0, c1, _, _⟩ := hcell i (by omega)
      obtain ⟨s, t, e0, e1, _, _⟩ := hval i hlt
      obtain ⟨b, off, spot⟩ := x
      obtain ⟨k0, _, _, _⟩ := hcell 0 (by omega)
      have hspot : spot = none := by simpa [Addr.add] using World.cell?_spot k0
      subst hspot
      rw [Addr.add_lit] at c0 c1
      refine ⟨b, off, rfl, ?_, ?_⟩
      · rw [c0, e0]; rfl
      · rw [Nat.add_assoc, c1, e1]; rfl
    · intro f hf
      simp only [List.mem_map, List.mem_range] at hf
      obtain ⟨i, hi, rfl⟩ := hf
      obtain ⟨s, t, e0, e1, z0, z1⟩ := hval i hi
      rw [e0, e1]
      exact ⟨z0, z1⟩

theorem row_take {w : World} {a : Option Addr} {l c : Nat} {zs : List Int} {k : IntKind} (hl : l ≤ c) (hc : c ≤ maxLen) (hz : zs.length = c) (hn : a = none → c = 0) (h : ∀ a', a = some a' → ∀ i, i < c → w.cell? (a'.add i) = some (.int k (zs.getD i 0))) :
    Rw (Value.int k) w a l c (zs.take l) := by
  refine ⟨by rw [List.length_take]; omega, hl, by unfold maxLen at hc; omega, hn, fun i x hi => ?_⟩
  have hlt : i < l := by have := (List.getElem?_eq_some_iff.1 hi).1; rw [List.length_take] at this; omega
  cases ha : a with
  | none => have := hn ha; omega
  | some a' =>
    have h1 := h a' ha i (by omega)
    obtain ⟨b, off, spot⟩ := a'
    have hspot : spot = none := by
      have h0 := h _ ha 0 (by omega)
      simpa [Addr.add] using World.cell?_spot h0
    subst hspot
    refine ⟨b, off, rfl, ?_⟩
    rw [Addr.add_lit] at h1
    rw [h1]
    rw [List.getElem?_take_of_lt hlt] at hi
    simp [List.getD, hi]

theorem ints_of {H : Type} {enc : TypeId × Value → H} {W : World} {a : Option Addr} {len cap : Nat} {d : DataW H} {p : List MemPlace}
    (h : DataW.Trod enc Try.prog W 0 (fun _ => true) true 25 (.slice a len cap) d p) : ∃ zs, Rw vI W a len cap zs ∧ ∀ z ∈ zs, (Lit.int .i64 z).wf = true := by
  obtain ⟨fuel, hf⟩ := h
  rcases open_ints Try.underlying25 Try.underlying3 (by kernel_rfl) hf with ⟨hcs, _⟩ | ⟨x, l, c, zs, hcs, _, hl, hm, hz, _, hcell, hwf⟩
  · simp [Value.cells] at hcs
    obtain ⟨rfl, rfl, rfl⟩ := hcs
    exact ⟨[], Rw.nil, fun z hz => (by cases hz)⟩
  · simp [Value.cells] at hcs
    obtain ⟨rfl, rfl, rfl⟩ := hcs
    simp only [if_true] at hz
    exact ⟨zs.take len, row_take hl hm hz (fun e => (by cases e)) (fun a' e i hi => by cases e; exact hcell i (by omega)), fun z hz => hwf z (List.mem_of_mem_take hz)⟩

end Go.Proofs.Yteknfigpjhngfaa
