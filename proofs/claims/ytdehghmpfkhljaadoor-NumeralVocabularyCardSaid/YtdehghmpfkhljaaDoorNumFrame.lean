/-
  How an argument that is a numeral system, and one that is a slice of strings, is opened; the tables of unicode/utf8, which every row lists, in memory; a world for the witnesses. Conditions: as each theorem says.
-/
import Derived.Test.YtdehghmpfkhljaaDoorNumAwake
import Derived.Test.YtdehghmpfkhljaaDoorRows
import Derived.Test.YtdehghmpfkhljaaDoorTie
import Derived.Test.YtdehghmpfkhljaaDoorCards
import Derived.Lib.LaidIn
import Derived.Lib.LaidU8T
import Derived.ProofKit
import Derived.OpenShut
import Derived.ChangeOld
import Derived.SizedLaws
import Derived.Deep.Strs
import Derived.SevenTiedAt
namespace Go.Proofs.YtdehghmpfkhljaaDoor
open Go.ChangeShapes Go.WideShapes Go.ChangeAt Go.RowKit Go.Deep
open NumPlain

theorem eight_val {H : Type} {enc : TypeId × Value → H} {P : Program} {w : World} {base : Nat} {spare : Nat → Bool} {held : Bool} {e : TypeId} {f0 f1 f2 f3 f4 f5 f6 f7 : Field} {n : Nat} {v0 v1 v2 v3 v4 v5 v6 v7 : Value} {D : DataW H} {Pl : List MemPlace}
    (he : P.underlying e = some (.struct #[f0, f1, f2, f3, f4, f5, f6, f7])) (o0 : f0.offset = 0) (o1 : f1.offset = 1) (o2 : f2.offset = 2) (o3 : f3.offset = 3) (o4 : f4.offset = 4) (o5 : f5.offset = 5) (o6 : f6.offset = 6) (o7 : f7.offset = 7)
    (c0 : P.cellsOf f0.type = 1) (c1 : P.cellsOf f1.type = 1) (c2 : P.cellsOf f2.type = 1) (c3 : P.cellsOf f3.type = 1) (c4 : P.cellsOf f4.type = 1) (c5 : P.cellsOf f5.type = 1) (c6 : P.cellsOf f6.type = 1) (c7 : P.cellsOf f7.type = 1)
    (h2 : DataW.trod enc P w base spare held n e [v0, v1, v2, v3, v4, v5, v6, v7] = some (D, Pl)) :
    ∃ y0 y1 y2 y3 y4 y5 y6 y7, DataW.trod enc P w base spare held (n - 1) f0.type [v0] = some y0 ∧ DataW.trod enc P w base spare held (n - 1) f1.type [v1] = some y1 ∧ DataW.trod enc P w base spare held (n - 1) f2.type [v2] = some y2 ∧ DataW.trod enc P w base spare held (n - 1) f3.type [v3] = some y3 ∧ DataW.trod enc P w base spare held (n - 1) f4.type [v4] = some y4 ∧ DataW.trod enc P w base spare held (n - 1) f5.type [v5] = some y5 ∧ DataW.trod enc P w base spare held (n - 1) f6.type [v6] = some y6 ∧ DataW.trod enc P w base spare held (n - 1) f7.type [v7] = some y7 ∧
      D = .agg [y0.1, y1.1, y2.1, y3.1, y4.1, y5.1, y6.1, y7.1] := by
  obtain ⟨xs, k, hk, hxy, _, hxl, hf⟩ := DataW.trod_struct he h2
  have hk' : k = n - 1 := by omega
  subst hk'
  match xs, hxl with
  | [y0, y1, y2, y3, y4, y5, y6, y7], _ =>
    have g0 := hf 0 f0 rfl
    have g1 := hf 1 f1 rfl
    have g2 := hf 2 f2 rfl
    have g3 := hf 3 f3 rfl
    have g4 := hf 4 f4 rfl
    have g5 := hf 5 f5 rfl
    have g6 := hf 6 f6 rfl
    have g7 := hf 7 f7 rfl
    simp [o0, o1, o2, o3, o4, o5, o6, o7, c0, c1, c2, c3, c4, c5, c6, c7] at g0 g1 g2 g3 g4 g5 g6 g7
    simp only [Prod.mk.injEq] at hxy
    exact ⟨y0, y1, y2, y3, y4, y5, y6, y7, g0, g1, g2, g3, g4, g5, g6, g7, by simpa using hxy.1⟩

theorem strs_in {H : Type} {enc : TypeId × Value → H} {W : World} {v : Value} {fuel : Nat} {x : DataW H × List MemPlace}
    (h : DataW.trod enc Tryd.prog W 0 (fun _ => true) true fuel 22 [v] = some x) : ∃ A n c ss, v = .slice A n c ∧ Rw sV W A n c ss ∧ ∀ s ∈ ss, s.size ≤ maxLen := by
  rcases open_strs Tryd.underlying22 Tryd.underlying9 (by kernel_rfl) h with ⟨hcs, _⟩ | ⟨x, len, cap, m, Sx, hcs, _, hl, hm, hmm, _, hcell⟩
  · simp at hcs
    exact ⟨none, 0, 0, [], hcs, Rw.nil, fun s h => (by cases h)⟩
  · simp at hcs
    simp only [if_true] at hmm
    obtain rfl : m = cap := hmm
    refine ⟨some x, len, m, (List.range len).map Sx, hcs, ⟨by simp, hl, by unfold maxLen at hm; omega, fun e => (by cases e), fun i f hi => ?_⟩, fun f hf => ?_⟩
    · have hlt : i < len := by have := (List.getElem?_eq_some_iff.1 hi).1; simpa using this
      simp [hlt] at hi
      subst hi
      obtain ⟨c0, _⟩ := hcell i (by omega)
      obtain ⟨b, off, spot⟩ := x
      obtain ⟨k0, _⟩ := hcell 0 (by omega)
      have hspot : spot = none := by simpa [Addr.add] using World.cell?_spot k0
      subst hspot
      rw [Addr.add_lit] at c0
      exact ⟨b, off, rfl, c0⟩
    · simp only [List.mem_map, List.mem_range] at hf
      obtain ⟨i, hi, rfl⟩ := hf
      exact (hcell i (by omega)).2
theorem strs_of {H : Type} {enc : TypeId × Value → H} {W : World} {a : Option Addr} {len cap : Nat} {d : DataW H} {p : List MemPlace}
    (h : DataW.Trod enc Tryd.prog W 0 (fun _ => true) true 22 (.slice a len cap) d p) : ∃ ss, Rw sV W a len cap ss ∧ ∀ s ∈ ss, s.size ≤ maxLen := by
  obtain ⟨fuel, hf⟩ := h
  obtain ⟨A, n, c, ss, e, h1, h2⟩ := strs_in hf
  cases e
  exact ⟨ss, h1, h2⟩

theorem sys_of {H : Type} {enc : TypeId × Value → H} {W : World} {v : Value} {d : DataW H} {p : List MemPlace} (hv : ∃ cs, v = .agg cs ∧ cs.size = Tryd.prog.cellsOf 24)
    (h : DataW.Trod enc Tryd.prog W 0 (fun _ => true) true 24 v d p) :
    ∃ x : Nm, v = nV x ∧ Nw W x ∧ Sz x ∧ (Lit.int .i64 x.base).wf = true ∧ (Lit.int .i64 x.sub).wf = true := by
  obtain ⟨cs, rfl, hcs⟩ := hv
  have h5 : cs.size = 8 := hcs.trans (by kernel_rfl)
  obtain ⟨l⟩ := cs
  match l, h5 with
  | [v0, v1, v2, v3, v4, v5, v6, v7], _ =>
    obtain ⟨fuel, hf⟩ := h
    obtain ⟨y0, y1, y2, y3, y4, y5, y6, y7, t0, t1, t2, t3, t4, t5, t6, t7, hD⟩ := eight_val (v0 := v0) (v1 := v1) (v2 := v2) (v3 := v3) (v4 := v4) (v5 := v5) (v6 := v6) (v7 := v7) Tryd.underlying24 rfl rfl rfl rfl rfl rfl rfl rfl (by kernel_rfl) (by kernel_rfl) (by kernel_rfl) (by kernel_rfl) (by kernel_rfl) (by kernel_rfl) (by kernel_rfl) (by kernel_rfl) hf
    obtain ⟨z0, e0, _, q0⟩ := DataW.trod_int Tryd.underlying3 t0
    obtain ⟨A1, n1, c1, s1, e1, r1, m1⟩ := strs_in t1
    obtain ⟨A2, n2, c2, s2, e2, r2, m2⟩ := strs_in t2
    obtain ⟨z3, e3, _⟩ := DataW.trod_bool Tryd.underlying4 t3
    obtain ⟨z4, e4, _, q4⟩ := DataW.trod_string Tryd.underlying9 t4
    obtain ⟨z5, e5, _, q5⟩ := DataW.trod_int Tryd.underlying3 t5
    obtain ⟨z6, e6, _, q6⟩ := DataW.trod_string Tryd.underlying9 t6
    obtain ⟨z7, e7, _⟩ := DataW.trod_bool Tryd.underlying4 t7
    simp at e0 e3 e4 e5 e6 e7
    subst e0 e1 e2 e3 e4 e5 e6 e7
    unfold maxLen at m1 m2 q4 q6
    exact ⟨⟨z0, A1, n1, c1, s1, A2, n2, c2, s2, z3, z4, z5, z6, z7⟩, rfl, ⟨r1, r2⟩, ⟨fun s h => by have := m1 s h; omega, fun s h => by have := m2 s h; omega, by show z4.size ≤ _; omega, by show z6.size ≤ _; omega⟩, q0, q5⟩

/-- What every row lists: the two tables. -/
abbrev listed : List (String × DataW Unit) := [("unicode/utf8.acceptRanges", Rows.laid_unicode_utf8_acceptRanges), ("unicode/utf8.first", Rows.laid_unicode_utf8_first)]
def ren : Go.Shelf.Ren := ⟨fun n => n, fun | 5 => 5 | 119 => 91 | 138 => 93 | 139 => 94 | n => n, fun | 3 => 0 | 4 => 1 | n => n⟩
theorem types : U8Types Tryd.prog ren := ⟨Tryd.underlying5, Tryd.underlying91, Tryd.underlying93, Tryd.underlying94⟩
theorem first_is : Rows.laid_unicode_utf8_first = Lib.firstData := by kernel_rfl
theorem accept_is : (Rows.laid_unicode_utf8_acceptRanges : DataW Unit) = Lib.acceptData := by kernel_rfl

theorem tabs_of {W : World} (hL : laidMetH Tryd.prog listed W) : Tabs W := by
  have h2 : laidMet Tryd.prog listed W := hL
  exact utf8Tabs_of_readsT (ρ := ren) types ⟨by kernel_rfl, by kernel_rfl, by kernel_rfl, by kernel_rfl, by kernel_rfl, by kernel_rfl, by kernel_rfl⟩
    (first_is ▸ Lib.laidMet.reads h2 (.tail _ (.head _))) (accept_is ▸ Lib.laidMet.reads h2 (.head _))

/-- A world for the witnesses: the settled one, the two tables holding what their texts lay. -/
noncomputable def laidWorld (os : Os) : World :=
  let w0 := World.holding Tryd.prog os ⟨#[], #[], []⟩
  let put (h : Array Obj) (g : Nat) (cs : Array Value) : Array Obj := h.modify g fun
    | .cells _ t frozen => .cells cs t frozen
    | o => o
  let h1 := put w0.heap 0 (Lib.firstTab.map fun z => Value.int .u8 z).toArray
  let h2 := put h1 1 ((List.range 16).flatMap fun i => [Value.int .u8 (Lib.accLo i), Value.int .u8 (Lib.accHi i)]).toArray
  { w0 with heap := h2 }
theorem laid_met (os : Os) (args : Array Value) : laidMet Tryd.prog listed ((laidWorld os).forCall (fun _ _ => 0) ⟨#[], args, []⟩).memory :=
  (LaidIn.of_run (l := listed) [1, 0] 8 (by kernel_rfl) (by kernel_rfl) (by kernel_rfl) (by kernel_rfl)).met
end Go.Proofs.YtdehghmpfkhljaaDoor
