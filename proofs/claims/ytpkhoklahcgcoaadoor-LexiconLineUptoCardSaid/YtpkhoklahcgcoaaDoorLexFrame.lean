/-
  How an argument that is a slice of lexemes is opened; a world for the witnesses, with the tables that the rows list; internal/bytealg.MaxLen holds an integer in every world of the program's shape. Conditions: as each theorem says.
-/
import Derived.Test.YtpkhoklahcgcoaaDoorLexBase
import Derived.Test.YtpkhoklahcgcoaaDoorLexParse
import Derived.Test.YtpkhoklahcgcoaaDoorFeatFrame
import Derived.Test.YtpkhoklahcgcoaaDoorFtAll
import Derived.Test.YtpkhoklahcgcoaaDoorRows
import Derived.Test.YtpkhoklahcgcoaaDoorShelfM
import Derived.Lib.LaidIn
import Derived.Lib.LaidU8T
import Derived.ProofKit
import Derived.OpenShut
import Derived.ChangeOld
import Derived.SizedLaws
import Derived.Deep.Slices
import Derived.Deep.SlicePairs
import Derived.Deep.Modes
namespace Go.Proofs.YtpkhoklahcgcoaaDoor
open Go.ChangeShapes Go.WideShapes Go.ChangeAt Go.RowKit Go.Deep
open FeatPlain

theorem weights_allL {H : Type} {P : Program} {e : TypeId} {d : DataW H} : ∀ {l : List (DataW H)}, d ∈ l → ∀ {x : Nat}, x ∈ d.weights P e → x ∈ DataW.weightsAll P e l
  | [], h, _, _ => by cases h
  | y :: l, h, x, hx => by
    simp only [DataW.weightsAll]
    rcases List.mem_cons.1 h with rfl | h
    · exact List.mem_append_left _ hx
    · exact List.mem_append_right _ (weights_allL h hx)
theorem bytesLx : Tryd.prog.bytesOf 24 = 88 := by kernel_rfl
theorem bytesFt : Tryd.prog.bytesOf 37 = 32 := by kernel_rfl

theorem five_open {H : Type} {enc : TypeId × Value → H} {P : Program} {w : World} {base : Nat} {spare : Nat → Bool} {held : Bool} {e : TypeId} {f0 f1 f2 f3 f4 : Field} {a : Addr} {n i : Nat} {cs' : List Value} {D : DataW H} {Pl : List MemPlace}
    (he : P.underlying e = some (.struct #[f0, f1, f2, f3, f4])) (ce : P.cellsOf e = 5) (o0 : f0.offset = 0) (o1 : f1.offset = 1) (o2 : f2.offset = 2) (o3 : f3.offset = 3) (o4 : f4.offset = 4)
    (c0 : P.cellsOf f0.type = 1) (c1 : P.cellsOf f1.type = 1) (c2 : P.cellsOf f2.type = 1) (c3 : P.cellsOf f3.type = 1) (c4 : P.cellsOf f4.type = 1)
    (h1 : w.cells? base (a.add (i * P.cellsOf e)) (P.cellsOf e) = some cs') (h2 : DataW.trod enc P w base spare held n e cs' = some (D, Pl)) :
    ∃ v0 v1 v2 v3 v4 y0 y1 y2 y3 y4, w.cell? (a.add (i * 5)) = some v0 ∧ w.cell? (a.add (i * 5 + 1)) = some v1 ∧ w.cell? (a.add (i * 5 + 2)) = some v2 ∧ w.cell? (a.add (i * 5 + 3)) = some v3 ∧ w.cell? (a.add (i * 5 + 4)) = some v4 ∧
      DataW.trod enc P w base spare held (n - 1) f0.type [v0] = some y0 ∧ DataW.trod enc P w base spare held (n - 1) f1.type [v1] = some y1 ∧ DataW.trod enc P w base spare held (n - 1) f2.type [v2] = some y2 ∧ DataW.trod enc P w base spare held (n - 1) f3.type [v3] = some y3 ∧ DataW.trod enc P w base spare held (n - 1) f4.type [v4] = some y4 ∧
      D = .agg [y0.1, y1.1, y2.1, y3.1, y4.1] := by
  rw [ce] at h1
  obtain ⟨_, hlen, hcell⟩ := World.cells?_some h1
  obtain ⟨xs, k, hk, hxy, _, hxl, hf⟩ := DataW.trod_struct he h2
  have hk' : k = n - 1 := by omega
  subst hk'
  match xs, hxl, cs', hlen with
  | [y0, y1, y2, y3, y4], _, [v0, v1, v2, v3, v4], _ =>
    have g0 := hf 0 f0 rfl
    have g1 := hf 1 f1 rfl
    have g2 := hf 2 f2 rfl
    have g3 := hf 3 f3 rfl
    have g4 := hf 4 f4 rfl
    simp [o0, o1, o2, o3, o4, c0, c1, c2, c3, c4] at g0 g1 g2 g3 g4
    have e0 := hcell 0 (by omega)
    have e1 := hcell 1 (by omega)
    have e2 := hcell 2 (by omega)
    have e3 := hcell 3 (by omega)
    have e4 := hcell 4 (by omega)
    rw [add_add] at e0 e1 e2 e3 e4
    simp only [Prod.mk.injEq] at hxy
    exact ⟨v0, v1, v2, v3, v4, y0, y1, y2, y3, y4, by simpa using e0, by simpa using e1, by simpa using e2, by simpa using e3, by simpa using e4, g0, g1, g2, g3, g4, by simpa using hxy.1⟩

instance : Inhabited Lx := ⟨⟨⟨#[]⟩, ⟨#[]⟩, ⟨#[]⟩, ⟨#[]⟩, none, 0, 0, []⟩⟩
/-- What an argument's lexemes keep to. -/
structure Lok (xs : List Lx) : Prop where
  fn : ∀ x ∈ xs, x.fn * 32 ≤ 140737488355328
  sz : ∀ x ∈ xs, Sized x.fs

theorem lexs_of {H : Type} {enc : TypeId × Value → H} {W : World} {a : Option Addr} {len cap : Nat} {d : DataW H} {p : List MemPlace}
    (h : DataW.Trod enc Tryd.prog W 0 (fun _ => true) true 27 (.slice a len cap) d p) (hw : ∀ x ∈ d.weights Tryd.prog 27, x ≤ reachBytes) : ∃ xs, Ls W a len cap xs ∧ Lok xs := by
  obtain ⟨fuel, hf⟩ := h
  rcases open_slice Tryd.underlying27 hf with ⟨hcs, hx⟩ | ⟨x, l, c, m, n, D, Pl, hcs, _, hl, hm, hmm, hx, hcell⟩
  · simp [Value.cells] at hcs
    obtain ⟨rfl, rfl, rfl⟩ := hcs
    exact ⟨[], Ls.nil (by omega) (fun _ => rfl), ⟨fun x h => (by cases h), fun x h => (by cases h)⟩⟩
  · simp [Value.cells] at hcs
    obtain ⟨rfl, rfl, rfl⟩ := hcs
    simp only [if_true] at hmm
    obtain rfl : m = cap := hmm
    simp only [Prod.mk.injEq] at hx
    have hcapb : m * 88 ≤ reachBytes := by
      have := hw ((len + (m - len)) * Tryd.prog.bytesOf 24) (by rw [hx.1]; simp [DataW.weights, Tryd.underlying27])
      rwa [bytesLx, show len + (m - len) = m from by omega] at this
    have each : ∀ i, i < len → ∃ q : Lx, W.cell? (x.add (i * 5)) = some (.string q.id) ∧ W.cell? (x.add (i * 5 + 1)) = some (.string q.cat) ∧ W.cell? (x.add (i * 5 + 2)) = some (.string q.stem) ∧ W.cell? (x.add (i * 5 + 3)) = some (.string q.par) ∧ W.cell? (x.add (i * 5 + 4)) = some (.slice q.fa q.fn q.fc) ∧ Lw W q ∧ q.fn * 32 ≤ 140737488355328 ∧ Sized q.fs := by
      intro i hi
      obtain ⟨cs', h1, h2⟩ := hcell i (by omega)
      obtain ⟨v0, v1, v2, v3, v4, y0, y1, y2, y3, y4, k0, k1, k2, k3, k4, t0, t1, t2, t3, t4, hD⟩ := five_open Tryd.underlying24 (by kernel_rfl) rfl rfl rfl rfl rfl (by kernel_rfl) (by kernel_rfl) (by kernel_rfl) (by kernel_rfl) (by kernel_rfl) h1 h2
      obtain ⟨s0, e0, _, z0⟩ := DataW.trod_string Tryd.underlying9 t0
      obtain ⟨s1, e1, _, z1⟩ := DataW.trod_string Tryd.underlying9 t1
      obtain ⟨s2, e2, _, z2⟩ := DataW.trod_string Tryd.underlying9 t2
      obtain ⟨s3, e3, _, z3⟩ := DataW.trod_string Tryd.underlying9 t3
      simp at e0 e1 e2 e3
      subst e0 e1 e2 e3
      have hwi : ∀ x ∈ y4.1.weights Tryd.prog 22, x ≤ reachBytes := fun x hxx => hw x (by
        rw [hx.1]
        simp only [DataW.weights, Tryd.underlying27]
        refine List.mem_cons_of_mem _ (List.mem_append_left _ ?_)
        refine weights_allL (List.mem_map.2 ⟨i, List.mem_range.2 hi, rfl⟩) ?_
        rw [hD]
        simp only [DataW.weights, Tryd.underlying24]
        simp [DataW.weightsEach, hxx])
      have key : ∃ a' l' c', v4 = .slice a' l' c' := by
        rcases open_slice Tryd.underlying22 t4 with ⟨e, _⟩ | ⟨x', l', c', _, _, _, _, e, _⟩
        · exact ⟨_, _, _, (List.cons.inj e).1⟩
        · exact ⟨_, _, _, (List.cons.inj e).1⟩
      obtain ⟨a', l', c', hV⟩ := key
      subst hV
      obtain ⟨fs, s4, sz, b4⟩ := feats_of (W := W) (a := a') (len := l') (cap := c') (d := y4.1) (p := y4.2) ⟨n - 1, t4⟩ (Nat.le_refl _) (fun el sp e => by
        have := hwi ((el.length + sp.length) * Tryd.prog.bytesOf 37) (by rw [e]; simp [DataW.weights, Tryd.underlying22])
        rwa [bytesFt] at this)
      exact ⟨⟨s0, s1, s2, s3, a', l', c', fs⟩, k0, k1, k2, k3, k4, ⟨s4, z0, z1, z2, z3⟩, by have := s4.le; unfold reachBytes at b4; show l' * 32 ≤ _; omega, sz⟩
    obtain ⟨q, hq⟩ := choose_lt each
    refine ⟨(List.range len).map q, ⟨by simp, hl, by unfold reachBytes at hcapb; omega, by unfold reachBytes at hcapb; omega, fun e => (by cases e), ?_, ?_⟩, ⟨?_, ?_⟩⟩
    · intro i y hi
      have hlt : i < len := by have := (List.getElem?_eq_some_iff.1 hi).1; simpa using this
      simp [hlt] at hi
      subst hi
      obtain ⟨b, off, spot⟩ := x
      have hspot : spot = none := by simpa [Addr.add] using World.cell?_spot (hq 0 (by omega)).1
      subst hspot
      obtain ⟨g0, g1, g2, g3, g4, _⟩ := hq i hlt
      rw [Addr.add_lit] at g0 g1 g2 g3 g4
      exact ⟨b, off, rfl, g0, by rw [Nat.add_assoc]; exact g1, by rw [Nat.add_assoc]; exact g2, by rw [Nat.add_assoc]; exact g3, by rw [Nat.add_assoc]; exact g4⟩
    · intro y hy
      obtain ⟨i, hi, rfl⟩ := List.mem_map.1 hy
      exact (hq i (List.mem_range.1 hi)).2.2.2.2.2.1
    · intro y hy
      obtain ⟨i, hi, rfl⟩ := List.mem_map.1 hy
      exact (hq i (List.mem_range.1 hi)).2.2.2.2.2.2.1
    · intro y hy
      obtain ⟨i, hi, rfl⟩ := List.mem_map.1 hy
      exact (hq i (List.mem_range.1 hi)).2.2.2.2.2.2.2

theorem mx_of {W : World} (h : W.ShapedOpen Tryd.prog) : Mx W := Tryd.laysM143.s1_3 W h

/-- What every row lists: the two tables. -/
abbrev listed : List (String × DataW Unit) := [("unicode/utf8.acceptRanges", Rows.laid_unicode_utf8_acceptRanges), ("unicode/utf8.first", Rows.laid_unicode_utf8_first)]
/-- A world for the witnesses: the settled one, the two tables holding what their texts lay. -/
noncomputable def laidWorld (os : Os) : World :=
  let w0 := World.holding Tryd.prog os ⟨#[], #[], []⟩
  let put (h : Array Obj) (g : Nat) (cs : Array Value) : Array Obj := h.modify g fun
    | .cells _ t frozen => .cells cs t frozen
    | o => o
  let h1 := put w0.heap 1 (Lib.firstTab.map fun z => Value.int .u8 z).toArray
  let h2 := put h1 2 ((List.range 16).flatMap fun i => [Value.int .u8 (Lib.accLo i), Value.int .u8 (Lib.accHi i)]).toArray
  { w0 with heap := h2 }
theorem laid_met (os : Os) (args : Array Value) : laidMet Tryd.prog listed ((laidWorld os).forCall (fun _ _ => 0) ⟨#[], args, []⟩).memory :=
  (LaidIn.of_run (l := listed) [2, 1] 8 (by kernel_rfl) (by kernel_rfl) (by kernel_rfl) (by kernel_rfl)).met
end Go.Proofs.YtpkhoklahcgcoaaDoor
