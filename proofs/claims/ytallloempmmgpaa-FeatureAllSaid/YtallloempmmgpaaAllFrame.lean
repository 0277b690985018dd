/-
  How an argument that is a slice of dimensions is opened: it holds dimensions, none of whose strings is too long. Condition: it takes no more bytes than any argument does.
-/
import Derived.Test.YtallloempmmgpaaAllBase
import Derived.Test.YtallloempmmgpaaFeatStrs
import Derived.ProofKit
import Derived.OpenShut
import Derived.ChangeOld
import Derived.SizedLaws
import Derived.Deep.SlicePairs
import Derived.Deep.Strs
import Derived.Deep.Modes
namespace Go.Proofs.Ytallloempmmgpaa
open Go.ChangeShapes Go.WideShapes Go.ChangeAt Go.RowKit Go.Deep
open FeatPlain

theorem bytesS : Try.prog.bytesOf 9 = 16 := by kernel_rfl
theorem bytesD : Try.prog.bytesOf 40 = 40 := by kernel_rfl
theorem weights_all {H : Type} {P : Program} {e : TypeId} {d : DataW H} : ∀ {l : List (DataW H)}, d ∈ l → ∀ {x : Nat}, x ∈ d.weights P e → x ∈ DataW.weightsAll P e l
  | [], h, _, _ => by cases h
  | y :: l, h, x, hx => by
    simp only [DataW.weightsAll]
    rcases List.mem_cons.1 h with rfl | h
    · exact List.mem_append_left _ hx
    · exact List.mem_append_right _ (weights_all h hx)

theorem dims_of {H : Type} {enc : TypeId × Value → H} {W : World} {a : Option Addr} {len cap : Nat} {d : DataW H} {p : List MemPlace}
    (h : DataW.Trod enc Try.prog W 0 (fun _ => true) true 22 (.slice a len cap) d p) (hw : ∀ x ∈ d.weights Try.prog 22, x ≤ reachBytes) : ∃ ds, Dd W a len cap ds := by
  obtain ⟨fuel, hf⟩ := h
  rcases open_slice_pairs Try.underlying22 Try.underlying40 (by kernel_rfl) rfl rfl (by kernel_rfl) (by kernel_rfl) hf with ⟨hcs, hx⟩ | ⟨x, l, c, m, n, V0, V1, D0, D1, P0, P1, hcs, _, hl, hm, hmm, hx, hcell⟩
  · simp [Value.cells] at hcs
    obtain ⟨rfl, rfl, rfl⟩ := hcs
    exact ⟨[], rfl, Nat.le_refl _, by omega, by omega, fun _ => rfl, fun i d h => by simp at h, fun d h => by cases h⟩
  · simp [Value.cells] at hcs
    obtain ⟨rfl, rfl, rfl⟩ := hcs
    simp only [if_true] at hmm
    obtain rfl : m = cap := hmm
    simp only [Prod.mk.injEq] at hx
    have hcapb : m * 40 ≤ reachBytes := by
      have := hw ((len + (m - len)) * Try.prog.bytesOf 40) (by rw [hx.1]; simp [DataW.weights, Try.underlying22])
      rwa [bytesD, show len + (m - len) = m from by omega] at this
    have each : ∀ i, i < len → ∃ q : ByteArray × Option Addr × Nat × Nat × List ByteArray, V0 i = .string q.1 ∧ V1 i = .slice q.2.1 q.2.2.1 q.2.2.2.1 ∧ Ss W q.2.1 q.2.2.1 q.2.2.2.1 q.2.2.2.2 ∧ q.1.size ≤ maxLen ∧ ∀ s ∈ q.2.2.2.2, s.size ≤ maxLen := by
      intro i hi
      obtain ⟨_, _, h0, h1⟩ := hcell i (by omega)
      obtain ⟨s, e0, _, z0⟩ := DataW.trod_string Try.underlying9 h0
      have hwi : ∀ x ∈ (D1 i).weights Try.prog 38, x ≤ reachBytes := fun x hxx => hw x (by
        rw [hx.1]
        simp only [DataW.weights, Try.underlying22]
        refine List.mem_cons_of_mem _ (List.mem_append_left _ ?_)
        refine weights_all (List.mem_map.2 ⟨i, List.mem_range.2 hi, rfl⟩) ?_
        simp only [DataW.weights, Try.underlying40]
        simp [DataW.weightsEach, hxx])
      have key : ∃ a' l' c', V1 i = .slice a' l' c' := by
        rcases open_strs Try.underlying38 Try.underlying9 (by kernel_rfl) h1 with ⟨e, _⟩ | ⟨x', l', c', _, _, e, _⟩
        · exact ⟨_, _, _, (List.cons.inj e).1⟩
        · exact ⟨_, _, _, (List.cons.inj e).1⟩
      obtain ⟨a', l', c', hV⟩ := key
      rw [hV] at h1
      obtain ⟨ss, s1, s2, _⟩ := strs_of (W := W) (a := a') (len := l') (cap := c') ⟨n, h1⟩ (Nat.le_refl _) (fun el sp e => by
        have := hwi ((el.length + sp.length) * Try.prog.bytesOf 9) (by rw [e]; simp [DataW.weights, Try.underlying38])
        rwa [bytesS] at this)
      simp at e0
      exact ⟨(s, a', l', c', ss), e0, hV, s1, z0, s2⟩
    obtain ⟨q, hq⟩ := choose_lt each
    refine ⟨(List.range len).map fun i => ((q i).1, (q i).2.2.2.2), by simp, hl, by unfold reachBytes at hcapb; omega, by unfold reachBytes at hcapb; omega, fun e => (by cases e), ?_, ?_⟩
    · intro i d hi
      have hlt : i < len := by have := (List.getElem?_eq_some_iff.1 hi).1; simpa using this
      simp [hlt] at hi
      subst hi
      obtain ⟨b, off, spot⟩ := x
      obtain ⟨k0, _⟩ := hcell 0 (by omega)
      have hspot : spot = none := by simpa [Addr.add] using World.cell?_spot k0
      subst hspot
      obtain ⟨e1, e2, e3, _, _⟩ := hq i hlt
      obtain ⟨c0, c1, _, _⟩ := hcell i (by omega)
      rw [Addr.add_lit] at c0 c1
      refine ⟨b, off, (q i).2.1, (q i).2.2.1, (q i).2.2.2.1, rfl, ?_, ?_, e3⟩
      · rw [c0, e1]
      · rw [Nat.add_assoc, c1, e2]
    · intro d hd
      simp only [List.mem_map, List.mem_range] at hd
      obtain ⟨i, hi, rfl⟩ := hd
      obtain ⟨_, _, _, z1, z2⟩ := hq i hi
      exact ⟨z1, z2⟩
end Go.Proofs.Ytallloempmmgpaa
