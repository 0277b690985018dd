/-
  A fresh strings.Builder grown. Conditions: as each theorem says.
-/
import Derived.Test.YtfjfgjncmliadaaDoorSylBld
import Derived.Test.YtfjfgjncmliadaaDoorSylRefR
import Derived.Test.YtfjfgjncmliadaaDoorShelfP
import Derived.Lib.IndexLaws
namespace Go.Proofs.YtfjfgjncmliadaaDoor
open Go.RowKit
open AlphPlain

theorem fresh_used {B b : Nat} {w : World} (hB : B ≤ b) (hbk : w.heap[b]? = some (.cells #[.pointer (some ⟨b, 0, none⟩), .slice none 0 0] 73 (0, 0))) :
    Lib.BuilderAtF 73 5 B b (.pointer (some ⟨b, 0, none⟩)) [] w := ⟨hB, .slice none 0 0, hbk, World.ownsRowF_of (World.ownsRow_nil _ _ _ _), by simp [Value.ownBlock]⟩

theorem below_drewN {B : Nat} {w w' : World} (h : Below B w w') : ∀ q, Below B w (w'.drewN q)
  | 0 => h
  | q + 1 => (below_drewN h q).drew

set_option maxHeartbeats 2000000 in
set_option maxRecDepth 100000 in
theorem grow_any (B b n : Nat) (w : World) (hB : B ≤ b) (hbk : w.heap[b]? = some (.cells #[.pointer none, .slice none 0 0] 73 (0, 0))) (hBw : B ≤ w.heap.size) (hn : n ≤ 1000000) :
    Calls Tryd.prog 77 #[.pointer (some ⟨b, 0, none⟩), .int .i64 (n : Nat)] w fun e w' => e = .returned (.tuple #[]) ∧ (Bld B b [] w' ∧ Below B w w') := by
  have hck := check_fresh b w (by rw [Lib.cell_of_heap hbk]; rfl) (by simp [World.shape?, hbk]) (Lib.frozen_of_heap hbk 0)
  have hbk1 : (w.setCell ⟨b, 0, none⟩ (.pointer (some ⟨b, 0, none⟩))).heap[b]? = some (.cells #[.pointer (some ⟨b, 0, none⟩), .slice none 0 0] 73 (0, 0)) := by
    simp [World.setCell, Array.getElem?_modify, hbk]
  have hb1 : Below B w (w.setCell ⟨b, 0, none⟩ (.pointer (some ⟨b, 0, none⟩))) := (Below.refl B w).setCell (p := ⟨b, 0, none⟩) hB _
  generalize w.setCell ⟨b, 0, none⟩ (.pointer (some ⟨b, 0, none⟩)) = w1 at *
  have c1 : w1.cell? ⟨b, 1, none⟩ = some (.slice none 0 0) := by rw [Lib.cell_of_heap hbk1]; rfl
  have hs1 := hb1.size
  have hn0 : ¬ (n : Int) < 0 := by omega
  have HG := fun q => Tryd.Builder_grow_f0 B b n (w1.drewN q) hB (by simpa using hbk1) (by simp; omega) (by omega)
  go_enter Tryd.func77, Tryd.ntmps77
  go_wp2_with fail
  refine hck.mono ?_
  rintro e w2 ⟨rfl, rfl⟩
  clear hck
  by_cases h0 : 0 < n
  · have h0' : (0 : Int) < (n : Int) := by omega
    go_wp2
    go_quiet (fail)
    go_wp2_with fail
    refine (HG _).mono ?_
    rintro e w3 ⟨rfl, h2, h3⟩
    go_wp2
    go_end0
    exact ⟨rfl, .inr (Lib.BuilderAtF.of h2), (below_drewN hb1 _).trans h3⟩
  · have h0' : ¬ (0 : Int) < (n : Int) := by omega
    go_wp2
    go_quiet (fail)
    go_wp2
    go_end0
    exact ⟨rfl, .inr (fresh_used hB (by simpa using hbk1)), below_drewN hb1 _⟩
end Go.Proofs.YtfjfgjncmliadaaDoor
