/-
  How arguments that are phonotactics, lists of numbers and lists of masks are opened. Conditions: as each theorem says.
-/
import Derived.Test.YtfjfgjncmliadaaDoorSylRef
import Derived.Test.YtfjfgjncmliadaaDoorAlphFrame
import Derived.Deep.Matrix
namespace Go.Proofs.YtfjfgjncmliadaaDoor
open Go.ChangeShapes Go.WideShapes Go.ChangeAt Go.RowKit Go.Deep
open AlphPlain

theorem three_val {H : Type} {enc : TypeId × Value → H} {P : Program} {w : World} {base : Nat} {spare : Nat → Bool} {held : Bool} {e : TypeId} {f0 f1 f2 : Field} {n : Nat} {v0 v1 v2 : Value} {D : DataW H} {Pl : List MemPlace}
    (he : P.underlying e = some (.struct #[f0, f1, f2])) (o0 : f0.offset = 0) (o1 : f1.offset = 1) (o2 : f2.offset = 2)
    (c0 : P.cellsOf f0.type = 1) (c1 : P.cellsOf f1.type = 1) (c2 : P.cellsOf f2.type = 1)
    (h2 : DataW.trod enc P w base spare held n e [v0, v1, v2] = some (D, Pl)) :
    ∃ y0 y1 y2, DataW.trod enc P w base spare held (n - 1) f0.type [v0] = some y0 ∧ DataW.trod enc P w base spare held (n - 1) f1.type [v1] = some y1 ∧ DataW.trod enc P w base spare held (n - 1) f2.type [v2] = some y2 ∧ D = .agg [y0.1, y1.1, y2.1] := by
  obtain ⟨xs, k, hk, hxy, _, hxl, hf⟩ := DataW.trod_struct he h2
  have hk' : k = n - 1 := by omega
  subst hk'
  match xs, hxl with
  | [y0, y1, y2], _ =>
    have g0 := hf 0 f0 rfl
    have g1 := hf 1 f1 rfl
    have g2 := hf 2 f2 rfl
    simp [o0, o1, o2, c0, c1, c2] at g0 g1 g2
    simp only [Prod.mk.injEq] at hxy
    exact ⟨y0, y1, y2, g0, g1, g2, by simpa using hxy.1⟩

theorem row_take {w : World} {a : Option Addr} {l c : Nat} {zs : List Int} {k : IntKind} (hl : l ≤ c) (hc : c ≤ maxLen) (hz : zs.length = c) (hn : a = none → c = 0) (h : ∀ a', a = some a' → ∀ i, i < c → w.cell? (a'.add i) = some (.int k (zs.getD i 0))) :
    Rw (Value.int k) w a l c (zs.take l) := by
  refine ⟨by rw [List.length_take]; omega, hl, by unfold maxLen at hc; omega, hn, fun i x hi => ?_⟩
  have hlt : i < l := by have := (List.getElem?_eq_some_iff.1 hi).1; rw [List.length_take] at this; omega
  cases ha : a with
  | none => have := hn ha; omega
  | some a' =>
    have h1 := h a' ha i (by omega)
    obtain ⟨b, off, spot⟩ := a'
    have hspot : spot = none := by
      have h0 := h _ ha 0 (by omega)
      simpa [Addr.add] using World.cell?_spot h0
    subst hspot
    refine ⟨b, off, rfl, ?_⟩
    rw [Addr.add_lit] at h1
    rw [h1]
    rw [List.getElem?_take_of_lt hlt] at hi
    simp [List.getD, hi]

theorem rows_of {H : Type} {enc : TypeId × Value → H} {W : World} {v : Value} {fuel : Nat} {x : DataW H × List MemPlace} (h : DataW.trod enc Tryd.prog W 0 (fun _ => true) true fuel 22 [v] = some x) :
    ∃ A n c os, v = .slice A n c ∧ Ons W A n c os := by
  rcases open_int_rows Tryd.underlying22 Tryd.underlying33 Tryd.underlying49 (by kernel_rfl) (by kernel_rfl) h with ⟨hcs, _⟩ | ⟨a, len, cap, A, L, C, Z, hcs, _, hl, hm, _, hr⟩
  · simp at hcs
    exact ⟨none, 0, 0, [], hcs, Rw.nil, fun x hx => (by cases hx)⟩
  · simp at hcs
    refine ⟨some a, len, cap, (List.range len).map (fun r => ⟨A r, L r, C r, (Z r).take (L r)⟩), hcs, ⟨by simp, hl, by unfold maxLen at hm; omega, fun e => (by cases e), fun i x hi => ?_⟩, fun x hx => ?_⟩
    · have hlt : i < len := by have := (List.getElem?_eq_some_iff.1 hi).1; simpa using this
      simp [hlt] at hi
      subst hi
      have h1 := (hr i (by omega)).1
      obtain ⟨b, off, spot⟩ := a
      have hspot : spot = none := by
        have h0 := (hr 0 (by omega)).1
        simpa [Addr.add] using World.cell?_spot h0
      subst hspot
      rw [Addr.add_lit] at h1
      exact ⟨b, off, rfl, h1⟩
    · obtain ⟨r, hr0, rfl⟩ := List.mem_map.1 hx
      have hlt := List.mem_range.1 hr0
      obtain ⟨_, r1, r2, r3, _, r5, r6⟩ := hr r (by omega)
      exact row_take r1 r2 r3 r5 (fun a' e => (r6 a' e).2)

theorem pho_of {H : Type} {enc : TypeId × Value → H} {W : World} {v : Value} {d : DataW H} {p : List MemPlace} (hv : ∃ cs, v = .agg cs ∧ cs.size = Tryd.prog.cellsOf 24)
    (h : DataW.Trod enc Tryd.prog W 0 (fun _ => true) true 24 v d p) :
    ∃ A n c L R os, v = pV A n c L R ∧ Ons W A n c os ∧ (Lit.int .i64 L).wf = true ∧ (Lit.int .i64 R).wf = true := by
  obtain ⟨cs, rfl, hcs⟩ := hv
  have h3 : cs.size = 3 := hcs.trans (by kernel_rfl)
  obtain ⟨l⟩ := cs
  match l, h3 with
  | [v0, v1, v2], _ =>
    obtain ⟨fuel, hf⟩ := h
    obtain ⟨y0, y1, y2, t0, t1, t2, hD⟩ := three_val (v0 := v0) (v1 := v1) (v2 := v2) Tryd.underlying24 rfl rfl rfl (by kernel_rfl) (by kernel_rfl) (by kernel_rfl) hf
    obtain ⟨A, n, c, os, e0, ho⟩ := rows_of t0
    obtain ⟨L, e1, _, z1⟩ := DataW.trod_int Tryd.underlying3 t1
    obtain ⟨R, e2, _, z2⟩ := DataW.trod_int Tryd.underlying3 t2
    simp at e1 e2
    subst e0 e1 e2
    exact ⟨A, n, c, L, R, os, rfl, ho, z1, z2⟩

theorem ints_of {H : Type} {enc : TypeId × Value → H} {W : World} {a : Option Addr} {len cap : Nat} {d : DataW H} {p : List MemPlace}
    (h : DataW.Trod enc Tryd.prog W 0 (fun _ => true) true 30 (.slice a len cap) d p) : ∃ zs, Rw vI W a len cap zs ∧ ∀ z ∈ zs, (Lit.int .i64 z).wf = true := by
  obtain ⟨fuel, hf⟩ := h
  rcases open_ints Tryd.underlying30 Tryd.underlying3 (by kernel_rfl) hf with ⟨hcs, _⟩ | ⟨x, l, c, zs, hcs, _, hl, hm, hz, _, hcell, hwf⟩
  · simp [Value.cells] at hcs
    obtain ⟨rfl, rfl, rfl⟩ := hcs
    exact ⟨[], Rw.nil, fun z hz => (by cases hz)⟩
  · simp [Value.cells] at hcs
    obtain ⟨rfl, rfl, rfl⟩ := hcs
    simp only [if_true] at hz
    exact ⟨zs.take len, row_take hl hm hz (fun e => (by cases e)) (fun a' e i hi => by cases e; exact hcell i (by omega)), fun z hz => hwf z (List.mem_of_mem_take hz)⟩

theorem masks_of {H : Type} {enc : TypeId × Value → H} {W : World} {a : Option Addr} {len cap : Nat} {d : DataW H} {p : List MemPlace}
    (h : DataW.Trod enc Tryd.prog W 0 (fun _ => true) true 33 (.slice a len cap) d p) : ∃ zs, Rw vU W a len cap zs := by
  obtain ⟨fuel, hf⟩ := h
  rcases open_ints Tryd.underlying33 Tryd.underlying49 (by kernel_rfl) hf with ⟨hcs, _⟩ | ⟨x, l, c, zs, hcs, _, hl, hm, hz, _, hcell, hwf⟩
  · simp [Value.cells] at hcs
    obtain ⟨rfl, rfl, rfl⟩ := hcs
    exact ⟨[], Rw.nil⟩
  · simp [Value.cells] at hcs
    obtain ⟨rfl, rfl, rfl⟩ := hcs
    simp only [if_true] at hz
    exact ⟨zs.take len, row_take hl hm hz (fun e => (by cases e)) (fun a' e i hi => by cases e; exact hcell i (by omega))⟩
end Go.Proofs.YtfjfgjncmliadaaDoor
