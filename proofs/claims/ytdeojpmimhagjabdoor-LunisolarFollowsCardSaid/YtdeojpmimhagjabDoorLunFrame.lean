/-
  How an argument that is a date is opened; the table that every row lists, in memory; a world for the witnesses. Conditions: as each theorem says.
-/
import Derived.Test.YtdeojpmimhagjabDoorLunDay
import Derived.Test.YtdeojpmimhagjabDoorRows
import Derived.Test.YtdeojpmimhagjabDoorTie
import Derived.Test.YtdeojpmimhagjabDoorCards
import Derived.Lib.LaidIn
import Derived.Lib.LaidTab
import Derived.ProofKit
import Derived.OpenShut
import Derived.ChangeOld
import Derived.SizedLaws
import Derived.SevenTiedAt
namespace Go.Proofs.YtdeojpmimhagjabDoor
open Go.ChangeShapes Go.WideShapes Go.ChangeAt Go.RowKit
open LunPlain

theorem five_val {H : Type} {enc : TypeId × Value → H} {P : Program} {w : World} {base : Nat} {spare : Nat → Bool} {held : Bool} {e : TypeId} {f0 f1 f2 f3 f4 : Field} {n : Nat} {v0 v1 v2 v3 v4 : Value} {D : DataW H} {Pl : List MemPlace}
    (he : P.underlying e = some (.struct #[f0, f1, f2, f3, f4])) (o0 : f0.offset = 0) (o1 : f1.offset = 1) (o2 : f2.offset = 2) (o3 : f3.offset = 3) (o4 : f4.offset = 4)
    (c0 : P.cellsOf f0.type = 1) (c1 : P.cellsOf f1.type = 1) (c2 : P.cellsOf f2.type = 1) (c3 : P.cellsOf f3.type = 1) (c4 : P.cellsOf f4.type = 1)
    (h2 : DataW.trod enc P w base spare held n e [v0, v1, v2, v3, v4] = some (D, Pl)) :
    ∃ y0 y1 y2 y3 y4, DataW.trod enc P w base spare held (n - 1) f0.type [v0] = some y0 ∧ DataW.trod enc P w base spare held (n - 1) f1.type [v1] = some y1 ∧ DataW.trod enc P w base spare held (n - 1) f2.type [v2] = some y2 ∧ DataW.trod enc P w base spare held (n - 1) f3.type [v3] = some y3 ∧ DataW.trod enc P w base spare held (n - 1) f4.type [v4] = some y4 ∧
      D = .agg [y0.1, y1.1, y2.1, y3.1, y4.1] := by
  obtain ⟨xs, k, hk, hxy, _, hxl, hf⟩ := DataW.trod_struct he h2
  have hk' : k = n - 1 := by omega
  subst hk'
  match xs, hxl with
  | [y0, y1, y2, y3, y4], _ =>
    have g0 := hf 0 f0 rfl
    have g1 := hf 1 f1 rfl
    have g2 := hf 2 f2 rfl
    have g3 := hf 3 f3 rfl
    have g4 := hf 4 f4 rfl
    simp [o0, o1, o2, o3, o4, c0, c1, c2, c3, c4] at g0 g1 g2 g3 g4
    simp only [Prod.mk.injEq] at hxy
    exact ⟨y0, y1, y2, y3, y4, g0, g1, g2, g3, g4, by simpa using hxy.1⟩

theorem date_of {H : Type} {enc : TypeId × Value → H} {W : World} {v : Value} {d : DataW H} {p : List MemPlace} (hv : ∃ cs, v = .agg cs ∧ cs.size = Tryd.prog.cellsOf 34)
    (h : DataW.Trod enc Tryd.prog W 0 (fun _ => true) true 34 v d p) :
    ∃ (c y m d : Int) (l : Bool), v = (.agg #[.int .i64 c, .int .i64 y, .int .i64 m, .int .i64 d, .bool l]) ∧ (Lit.int .i64 c).wf = true ∧ (Lit.int .i64 y).wf = true ∧ (Lit.int .i64 m).wf = true ∧ (Lit.int .i64 d).wf = true := by
  obtain ⟨cs, rfl, hcs⟩ := hv
  have h5 : cs.size = 5 := hcs.trans (by kernel_rfl)
  obtain ⟨l⟩ := cs
  match l, h5 with
  | [v0, v1, v2, v3, v4], _ =>
    obtain ⟨fuel, hf⟩ := h
    obtain ⟨y0, y1, y2, y3, y4, t0, t1, t2, t3, t4, hD⟩ := five_val (v0 := v0) (v1 := v1) (v2 := v2) (v3 := v3) (v4 := v4) Tryd.underlying34 rfl rfl rfl rfl rfl (by kernel_rfl) (by kernel_rfl) (by kernel_rfl) (by kernel_rfl) (by kernel_rfl) hf
    obtain ⟨z0, e0, _, q0⟩ := DataW.trod_int Tryd.underlying3 t0
    obtain ⟨z1, e1, _, q1⟩ := DataW.trod_int Tryd.underlying3 t1
    obtain ⟨z2, e2, _, q2⟩ := DataW.trod_int Tryd.underlying3 t2
    obtain ⟨z3, e3, _, q3⟩ := DataW.trod_int Tryd.underlying3 t3
    obtain ⟨z4, e4, _⟩ := DataW.trod_bool Tryd.underlying4 t4
    simp at e0 e1 e2 e3 e4
    subst e0 e1 e2 e3 e4
    exact ⟨z0, z1, z2, z3, z4, rfl, q0, q1, q2, q3⟩

/-- What every row lists: the table of the months' lengths. -/
abbrev listed : List (String × DataW Unit) := [("pentaglot/lunisolar.monthDays", Rows.laid_pentaglot_lunisolar_monthDays)]
def lens : List Int := [30, 29, 30, 29, 30, 29, 30, 29, 30, 29, 30, 29]
theorem tabs_of {W : World} (hL : laidMetH Tryd.prog listed W) : Tab W := by
  have h2 : laidMet Tryd.prog listed W := hL
  have h3 : laidMet Tryd.prog (("pentaglot/lunisolar.monthDays", Lib.tabData .i64 lens) :: []) W := h2
  have h4 := Lib.tabIs_of_head (g := 0) (t := 46) (e := 3) (n := 12) (by kernel_rfl) (by kernel_rfl) Tryd.underlying46 Tryd.underlying3 (by kernel_rfl) (by kernel_rfl) h3
  intro k hk
  rw [h4.cell (g := 0) (by kernel_rfl) k hk]
  match k, hk with
  | 0, _ | 1, _ | 2, _ | 3, _ | 4, _ | 5, _ | 6, _ | 7, _ | 8, _ | 9, _ | 10, _ | 11, _ => rfl
/-- A world for the witnesses: the settled one, the table holding what its text lays. -/
noncomputable def laidWorld (os : Os) : World :=
  let w0 := World.holding Tryd.prog os ⟨#[], #[], []⟩
  let put (h : Array Obj) (g : Nat) (cs : Array Value) : Array Obj := h.modify g fun
    | .cells _ t frozen => .cells cs t frozen
    | o => o
  { w0 with heap := put w0.heap 0 (lens.map fun z => Value.int .i64 z).toArray }
theorem laid_met (os : Os) (args : Array Value) : laidMet Tryd.prog listed ((laidWorld os).forCall (fun _ _ => 0) ⟨#[], args, []⟩).memory :=
  (LaidIn.of_run (l := listed) [0] 8 (by kernel_rfl) (by kernel_rfl) (by kernel_rfl) (by kernel_rfl)).met
end Go.Proofs.YtdeojpmimhagjabDoor
