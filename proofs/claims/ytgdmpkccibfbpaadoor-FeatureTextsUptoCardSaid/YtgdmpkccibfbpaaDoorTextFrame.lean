/-
  How the arguments of the law FeatureTexts are opened; a world for its witness, with the tables that the row lists. Conditions: as each theorem says.
-/
import Derived.Test.YtgdmpkccibfbpaaDoorFeatFrame
import Derived.Test.YtgdmpkccibfbpaaDoorBulk
import Derived.Lib.LaidIn
import Derived.Lib.LaidU8T
namespace Go.Proofs.YtgdmpkccibfbpaaDoor
open Go.ChangeShapes Go.WideShapes Go.ChangeAt Go.RowKit Go.Deep
open FeatPlain

theorem feats_small {H : Type} {enc : TypeId × Value → H} {W : World} {a : Option Addr} {len cap : Nat} {d : DataW H} {p : List MemPlace}
    (h : DataW.Trod enc Tryd.prog W 0 (fun _ => true) true 22 (.slice a len cap) d p) {R : Nat} (hR : R ≤ reachBytes) (hs : ∀ el sp, d = .slice el sp → (el.length + sp.length) * 32 ≤ R) {M : Nat} (hM : Rows.uptoBulk d ≤ M) :
    ∃ fs, Sl W a len cap fs ∧ Sized fs ∧ (∀ f ∈ fs, f.1.size ≤ M ∧ f.2.size ≤ M) ∧ cap * 32 ≤ R := by
  obtain ⟨fuel, hf⟩ := h
  rcases open_slice_pairs Tryd.underlying22 Tryd.underlying34 (by kernel_rfl) rfl rfl (by kernel_rfl) (by kernel_rfl) hf with ⟨hcs, hx⟩ | ⟨x, l, c, m, n, V0, V1, D0, D1, P0, P1, hcs, _, hl, hm, hmm, hx, hcell⟩
  · simp [Value.cells] at hcs
    obtain ⟨rfl, rfl, rfl⟩ := hcs
    exact ⟨[], Sl.nil (by omega) (fun _ => rfl), (fun f h => by cases h), (fun f h => by cases h), by omega⟩
  · simp [Value.cells] at hcs
    obtain ⟨rfl, rfl, rfl⟩ := hcs
    simp only [if_true] at hmm
    obtain rfl : m = cap := hmm
    simp only [Prod.mk.injEq] at hx
    have hb := hs _ _ hx.1
    simp only [List.length_map, List.length_range] at hb
    have hcap : m * 32 ≤ R := by rwa [show len + (m - len) = m from by omega] at hb
    have hstr : ∀ i, i < len → ∃ s t, V0 i = .string s ∧ V1 i = .string t ∧ s.size ≤ maxLen ∧ t.size ≤ maxLen ∧ s.size ≤ M ∧ t.size ≤ M := by
      intro i hi
      obtain ⟨_, _, h0, h1⟩ := hcell i (by omega)
      obtain ⟨s, e0, f0, z0⟩ := DataW.trod_string Tryd.underlying9 h0
      obtain ⟨t, e1, f1, z1⟩ := DataW.trod_string Tryd.underlying9 h1
      simp at e0 e1
      have hmem : DataW.agg [D0 i, D1 i] ∈ (List.range len).map fun i => DataW.agg [D0 i, D1 i] := List.mem_map.2 ⟨i, List.mem_range.2 hi, rfl⟩
      have hb1 := bulks.part_le hmem
      rw [hx.1] at hM
      simp only [Prod.mk.injEq] at f0 f1
      rw [f0.1, f1.1] at hb1
      simp only [Rows.uptoBulk, Rows.uptoBulkAll, Array.length_toList] at hb1 hM
      have q0 : s.data.size = s.size := rfl
      have q1 : t.data.size = t.size := rfl
      exact ⟨s, t, e0, e1, z0, z1, by omega, by omega⟩
    refine ⟨(List.range len).map fun i => (toStr (V0 i), toStr (V1 i)), ⟨by simp, hl, by unfold reachBytes at hR; omega, by unfold reachBytes at hR; omega, fun e => (by cases e), ?_⟩, ?_, ?_, hcap⟩
    · intro i f hi
      have hlt : i < len := by have := (List.getElem?_eq_some_iff.1 hi).1; simpa using this
      simp [hlt] at hi
      subst hi
      obtain ⟨c0, c1, _, _⟩ := hcell i (by omega)
      obtain ⟨s, t, e0, e1, _, _, _, _⟩ := hstr i hlt
      obtain ⟨b, off, spot⟩ := x
      obtain ⟨k0, _, _, _⟩ := hcell 0 (by omega)
      have hspot : spot = none := by simpa [Addr.add] using World.cell?_spot k0
      subst hspot
      rw [Addr.add_lit] at c0 c1
      refine ⟨b, off, rfl, ?_, ?_⟩
      · rw [c0, e0]; rfl
      · rw [Nat.add_assoc, c1, e1]; rfl
    · intro f hf
      simp only [List.mem_map, List.mem_range] at hf
      obtain ⟨i, hi, rfl⟩ := hf
      obtain ⟨s, t, e0, e1, z0, z1, _, _⟩ := hstr i hi
      rw [e0, e1]
      exact ⟨z0, z1⟩
    · intro f hf
      simp only [List.mem_map, List.mem_range] at hf
      obtain ⟨i, hi, rfl⟩ := hf
      obtain ⟨s, t, e0, e1, _, _, z0, z1⟩ := hstr i hi
      rw [e0, e1]
      exact ⟨z0, z1⟩

/-- What every row lists: the two tables. -/
abbrev listed : List (String × DataW Unit) := [("unicode/utf8.acceptRanges", Rows.laid_unicode_utf8_acceptRanges), ("unicode/utf8.first", Rows.laid_unicode_utf8_first)]
/-- A world for the witnesses: the settled one, the two tables holding what their texts lay. -/
noncomputable def laidWorld (os : Os) : World :=
  let w0 := World.holding Tryd.prog os ⟨#[], #[], []⟩
  let put (h : Array Obj) (g : Nat) (cs : Array Value) : Array Obj := h.modify g fun
    | .cells _ t frozen => .cells cs t frozen
    | o => o
  let h1 := put w0.heap 1 (Lib.firstTab.map fun z => Value.int .u8 z).toArray
  let h2 := put h1 2 ((List.range 16).flatMap fun i => [Value.int .u8 (Lib.accLo i), Value.int .u8 (Lib.accHi i)]).toArray
  { w0 with heap := h2 }
theorem laid_met (os : Os) (args : Array Value) : laidMet Tryd.prog listed ((laidWorld os).forCall (fun _ _ => 0) ⟨#[], args, []⟩).memory :=
  (LaidIn.of_run (l := listed) [2, 1] 8 (by kernel_rfl) (by kernel_rfl) (by kernel_rfl) (by kernel_rfl)).met
end Go.Proofs.YtgdmpkccibfbpaaDoor
