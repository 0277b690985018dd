/-
  The closure by which Date finds the month, slices.IndexFunc with it, cmp.Compare. Conditions: 'Tab'; the captured number lies in a block of its own.
-/
import Derived.Test.YtdeojpmimhagjabDoorLunList
import Derived.Test.YtdeojpmimhagjabDoorRegion
import Derived.RangeFuncBox
import Derived.Maps.AppendAt
import Derived.OwnWalk
namespace Go.Proofs.YtdeojpmimhagjabDoor
open Go.RowKit
open LunPlain

/-- Block p holds the number r, and nothing else. -/
def BoxI (w : World) (p : Nat) (r : Int) : Prop := w.heap[p]? = some (.cells #[.int .i64 r] 3 (0, 0))
theorem BoxI.aft {w w' : World} {p : Nat} {r : Int} (h : BoxI w p r) (k : Aft w w') : BoxI w' p r := (Below.block k p (Array.getElem?_eq_some_iff.1 h).1).trans h
theorem BoxI.cell {w : World} {p : Nat} {r : Int} (h : BoxI w p r) : w.cell? ⟨p, 0, none⟩ = some (.int .i64 r) := by
  have h' : w.heap[p]? = _ := h
  simp [World.cell?, h']
theorem BoxI.frozen {w : World} {p : Nat} {r : Int} (h : BoxI w p r) : w.frozen? ⟨p, 0, none⟩ = false := by
  have h' : w.heap[p]? = _ := h
  simp [World.frozen?, h']
theorem BoxI.set {w : World} {p : Nat} {r : Int} (h : BoxI w p r) (r' : Int) : BoxI (w.setCell ⟨p, 0, none⟩ (.int .i64 r')) p r' := heap_setCell_same _ _ _ _ _ _ h
theorem Aft.grownBy {w w' : World} (h : Aft w w') (row : Option Nat) : w.grownBy w' row := ⟨h.os, h.tape, h.output, h.size, fun i hi _ => h.block i hi⟩
theorem Ms.grown {w w' : World} {A : Option Addr} {n c : Nat} {y : Int} {b : Bool} {p : Nat} (h : Ms w A n c y b) (k : w.grownBy w' (some p)) (hp : ∀ bl off, A = some ⟨bl, off, none⟩ → bl ≠ p) : Ms w' A n c y b :=
  ⟨h.le, h.cmax, fun i hi => by
    obtain ⟨bl, off, e, h0, h1, h2, h3, h4⟩ := h.cells i hi
    have hne : (some bl : Option Nat) ≠ some p := fun q => hp bl off e (Option.some.inj q)
    exact ⟨bl, off, e, k.cell h0 hne, k.cell h1 hne, k.cell h2 hne, k.cell h3 hne, k.cell h4 hne⟩⟩

theorem isNaN_any (x : Int) (w : World) : Calls Tryd.prog 41 #[.int .i64 x] w (SamePost w (.bool false)) := by
  go_enter Tryd.func41, Tryd.ntmps41
  go_wp2
  go_ret
  exact ⟨by first | rfl | simp, rfl⟩
theorem compare_any (a b : Int) (w : World) : Calls Tryd.prog 39 #[.int .i64 a, .int .i64 b] w (SamePost w (.int .i64 (cmpI a b))) := by
  have HN := Lib.hid (fun x w => isNaN_any x w)
  by_cases h1 : a < b
  · rw [cmp_lt h1]
    go_enter Tryd.func39, Tryd.ntmps39
    go_wp2_with fail
    refine (HN.out _ _).mono ?_
    rintro e w' ⟨rfl, rfl⟩
    go_wp2_with fail
    refine (HN.out _ _).mono ?_
    rintro e w' ⟨rfl, rfl⟩
    go_wp2
    go_ret
    exact ⟨rfl, rfl⟩
  · by_cases h2 : b < a
    · rw [cmp_gt h2]
      go_enter Tryd.func39, Tryd.ntmps39
      go_wp2_with fail
      refine (HN.out _ _).mono ?_
      rintro e w' ⟨rfl, rfl⟩
      go_wp2_with fail
      refine (HN.out _ _).mono ?_
      rintro e w' ⟨rfl, rfl⟩
      go_wp2
      go_ret
      exact ⟨rfl, rfl⟩
    · obtain rfl : a = b := by omega
      rw [cmp_eq]
      go_enter Tryd.func39, Tryd.ntmps39
      go_wp2_with fail
      refine (HN.out _ _).mono ?_
      rintro e w' ⟨rfl, rfl⟩
      go_wp2_with fail
      refine (HN.out _ _).mono ?_
      rintro e w' ⟨rfl, rfl⟩
      go_wp2
      go_ret
      exact ⟨rfl, rfl⟩

theorem cs_aft {W0 w1 w2 : World} {a0 : Addr} {p : Nat} {u v0 v1 v2 v3 v4 : Value} (h : Aft W0 w1 ∧ w1.cell? a0 = some u ∧ w1.cell? ⟨p, 0, none⟩ = some v0 ∧ w1.cell? ⟨p, 1, none⟩ = some v1 ∧ w1.cell? ⟨p, 2, none⟩ = some v2 ∧ w1.cell? ⟨p, 3, none⟩ = some v3 ∧ w1.cell? ⟨p, 4, none⟩ = some v4) (k : Aft w1 w2) :
    Aft W0 w2 ∧ w2.cell? a0 = some u ∧ w2.cell? ⟨p, 0, none⟩ = some v0 ∧ w2.cell? ⟨p, 1, none⟩ = some v1 ∧ w2.cell? ⟨p, 2, none⟩ = some v2 ∧ w2.cell? ⟨p, 3, none⟩ = some v3 ∧ w2.cell? ⟨p, 4, none⟩ = some v4 :=
  ⟨h.1.trans k, k.cell h.2.1, k.cell h.2.2.1, k.cell h.2.2.2.1, k.cell h.2.2.2.2.1, k.cell h.2.2.2.2.2.1, k.cell h.2.2.2.2.2.2⟩
set_option maxRecDepth 100000 in
set_option maxHeartbeats 1600000 in
theorem clos_lt (c y m d : Int) (l : Bool) (p : Nat) (r : Int) (w : World) (ht : Tab w) (hb : BoxI w p r) (hlt : r < mdV c y m l) :
    Calls Tryd.prog 37 #[(.agg #[.int .i64 c, .int .i64 y, .int .i64 m, .int .i64 d, .bool l]), .pointer (some ⟨p, 0, none⟩)] w (BoolPost w true) := by
  have A0 := (Aft.refl w).alloc (.cells #[.int .i64 c, .int .i64 y, .int .i64 m, .int .i64 d, .bool l] 34)
  have cp := A0.cell hb.cell
  obtain ⟨c0, c1, c2, c3, c4⟩ := (BoxD.new w c y m d l).five
  have HMD := Lib.hid (fun w ht => MonthDays_any c y m d l w ht)
  have HT := Lib.hid (ht.aft A0)
  generalize mdV c y m l = M at *
  clear hb ht
  go_enter Tryd.func37, Tryd.ntmps37
  go_wp2
  refine wp_region_held_drew (S := fun w' => Aft (w.alloc (.cells #[.int .i64 c, .int .i64 y, .int .i64 m, .int .i64 d, .bool l] 34)) w' ∧ w'.cell? ⟨p, 0, none⟩ = some (.int .i64 r) ∧ w'.cell? ⟨w.heap.size, 0, none⟩ = some (.int .i64 c) ∧ w'.cell? ⟨w.heap.size, 1, none⟩ = some (.int .i64 y) ∧ w'.cell? ⟨w.heap.size, 2, none⟩ = some (.int .i64 m) ∧ w'.cell? ⟨w.heap.size, 3, none⟩ = some (.int .i64 d) ∧ w'.cell? ⟨w.heap.size, 4, none⟩ = some (.bool l)) (by kernel_rfl) (⟨Below.drew (Aft.refl _), cp, c0, c1, c2, c3, c4⟩) (fun hHeld => ?_)
  refine take_on (i := 0) (v := ?v1) rfl (by kernel_rfl) (by kernel_rfl) (by kernel_rfl) (fun _ _ _ h => h) (by rfl) (by assumption) ?y1 ?_
  case y1 => (intro w hSw; (try dsimp only at hSw); go_simp; (try with_reducible rfl))
  try simp only [Act.put, List.setIfInBounds_toArray, List.set_cons_zero, List.set_cons_succ]
  refine take_on (i := 1) (v := ?v2) rfl (by kernel_rfl) (by kernel_rfl) (by kernel_rfl) (fun _ _ _ h => h) (by rfl) (by assumption) ?y2 ?_
  case y2 => (intro w hSw; (try dsimp only at hSw); go_simp; (try with_reducible rfl))
  try simp only [Act.put, List.setIfInBounds_toArray, List.set_cons_zero, List.set_cons_succ]
  refine one_ready (i := 2) rfl (by kernel_rfl) (by rfl) (fun K hK => ?_)
  go_simp
  go_at_call 21
  refine (HMD.out _ (HT.out.aft (by first | exact hHeld.1 | exact Below.drew hHeld.1))).mono ?_
  rintro e' w' ⟨rfl, N9⟩
  have hh : (fun w' => Aft (w.alloc (.cells #[.int .i64 c, .int .i64 y, .int .i64 m, .int .i64 d, .bool l] 34)) w' ∧ w'.cell? ⟨p, 0, none⟩ = some (.int .i64 r) ∧ w'.cell? ⟨w.heap.size, 0, none⟩ = some (.int .i64 c) ∧ w'.cell? ⟨w.heap.size, 1, none⟩ = some (.int .i64 y) ∧ w'.cell? ⟨w.heap.size, 2, none⟩ = some (.int .i64 m) ∧ w'.cell? ⟨w.heap.size, 3, none⟩ = some (.int .i64 d) ∧ w'.cell? ⟨w.heap.size, 4, none⟩ = some (.bool l)) w' := cs_aft hHeld (Aft.trans (by first | exact Aft.refl _ | exact Below.drew (Aft.refl _)) N9)
  clear N9
  try go_simp
  refine hK.out _ _ (by first | exact hh | exact ⟨Below.drew hh.1, hh.2⟩ | exact hHeld) (fun hHeld => ?_)
  clear hK K
  try simp only [Act.put, List.setIfInBounds_toArray, List.set_cons_zero, List.set_cons_succ]
  refine take_on (i := 3) (v := ?v4) rfl (by kernel_rfl) (by kernel_rfl) (by kernel_rfl) (fun _ _ _ h => h) (by rfl) (by assumption) ?y4 ?_
  case y4 => (intro w hSw; (try dsimp only at hSw); go_simp; (try with_reducible rfl))
  try simp only [Act.put, List.setIfInBounds_toArray, List.set_cons_zero, List.set_cons_succ]
  refine wpAnyH_done (by kernel_rfl) ?_ _
  go_wp2
  go_ret
  exact ⟨rfl, A0.trans hHeld.1⟩
set_option maxRecDepth 100000 in
set_option maxHeartbeats 1600000 in
theorem clos_ge (c y m d : Int) (l : Bool) (p : Nat) (r : Int) (w : World) (ht : Tab w) (hb : BoxI w p r) (hge : mdV c y m l ≤ r) (hr : r ≤ 1000000) :
    Calls Tryd.prog 37 #[(.agg #[.int .i64 c, .int .i64 y, .int .i64 m, .int .i64 d, .bool l]), .pointer (some ⟨p, 0, none⟩)] w (fun e w' => e = .returned (.bool false) ∧ w.grownBy w' (some p) ∧ BoxI w' p (r - mdV c y m l)) := by
  have A0 := (Aft.refl w).alloc (.cells #[.int .i64 c, .int .i64 y, .int .i64 m, .int .i64 d, .bool l] 34)
  have hb1 := hb.aft A0
  have cp := hb1.cell
  obtain ⟨c0, c1, c2, c3, c4⟩ := (BoxD.new w c y m d l).five
  have HMD := Lib.hid (fun w ht => MonthDays_any c y m d l w ht)
  have HT := Lib.hid (ht.aft A0)
  have hmb := mdV_bd c y m l
  have hnl : ¬ r < mdV c y m l := by omega
  have hw : IntKind.i64.wrap (r - mdV c y m l) = r - mdV c y m l := IntWalk.i64_in _ (by omega)
  generalize mdV c y m l = M at *
  have HB := Lib.hid hb1
  clear hb ht hb1
  go_enter Tryd.func37, Tryd.ntmps37
  go_wp2
  refine wp_region_held_drew (S := fun w' => Aft (w.alloc (.cells #[.int .i64 c, .int .i64 y, .int .i64 m, .int .i64 d, .bool l] 34)) w' ∧ w'.cell? ⟨p, 0, none⟩ = some (.int .i64 r) ∧ w'.cell? ⟨w.heap.size, 0, none⟩ = some (.int .i64 c) ∧ w'.cell? ⟨w.heap.size, 1, none⟩ = some (.int .i64 y) ∧ w'.cell? ⟨w.heap.size, 2, none⟩ = some (.int .i64 m) ∧ w'.cell? ⟨w.heap.size, 3, none⟩ = some (.int .i64 d) ∧ w'.cell? ⟨w.heap.size, 4, none⟩ = some (.bool l)) (by kernel_rfl) (⟨Below.drew (Aft.refl _), cp, c0, c1, c2, c3, c4⟩) (fun hHeld => ?_)
  refine take_on (i := 0) (v := ?v5) rfl (by kernel_rfl) (by kernel_rfl) (by kernel_rfl) (fun _ _ _ h => h) (by rfl) (by assumption) ?y5 ?_
  case y5 => (intro w hSw; (try dsimp only at hSw); go_simp; (try with_reducible rfl))
  try simp only [Act.put, List.setIfInBounds_toArray, List.set_cons_zero, List.set_cons_succ]
  refine take_on (i := 1) (v := ?v6) rfl (by kernel_rfl) (by kernel_rfl) (by kernel_rfl) (fun _ _ _ h => h) (by rfl) (by assumption) ?y6 ?_
  case y6 => (intro w hSw; (try dsimp only at hSw); go_simp; (try with_reducible rfl))
  try simp only [Act.put, List.setIfInBounds_toArray, List.set_cons_zero, List.set_cons_succ]
  refine one_ready (i := 2) rfl (by kernel_rfl) (by rfl) (fun K hK => ?_)
  go_simp
  go_at_call 21
  refine (HMD.out _ (HT.out.aft (by first | exact hHeld.1 | exact Below.drew hHeld.1))).mono ?_
  rintro e' w' ⟨rfl, N9⟩
  have hh : (fun w' => Aft (w.alloc (.cells #[.int .i64 c, .int .i64 y, .int .i64 m, .int .i64 d, .bool l] 34)) w' ∧ w'.cell? ⟨p, 0, none⟩ = some (.int .i64 r) ∧ w'.cell? ⟨w.heap.size, 0, none⟩ = some (.int .i64 c) ∧ w'.cell? ⟨w.heap.size, 1, none⟩ = some (.int .i64 y) ∧ w'.cell? ⟨w.heap.size, 2, none⟩ = some (.int .i64 m) ∧ w'.cell? ⟨w.heap.size, 3, none⟩ = some (.int .i64 d) ∧ w'.cell? ⟨w.heap.size, 4, none⟩ = some (.bool l)) w' := cs_aft hHeld (Aft.trans (by first | exact Aft.refl _ | exact Below.drew (Aft.refl _)) N9)
  clear N9
  try go_simp
  refine hK.out _ _ (by first | exact hh | exact ⟨Below.drew hh.1, hh.2⟩ | exact hHeld) (fun hHeld => ?_)
  clear hK K
  try simp only [Act.put, List.setIfInBounds_toArray, List.set_cons_zero, List.set_cons_succ]
  refine take_on (i := 3) (v := ?v8) rfl (by kernel_rfl) (by kernel_rfl) (by kernel_rfl) (fun _ _ _ h => h) (by rfl) (by assumption) ?y8 ?_
  case y8 => (intro w hSw; (try dsimp only at hSw); go_simp; (try with_reducible rfl))
  try simp only [Act.put, List.setIfInBounds_toArray, List.set_cons_zero, List.set_cons_succ]
  refine wpAnyH_done (by kernel_rfl) ?_ _
  have A1 := A0.trans hHeld.1
  have HT1 := Lib.hid (HT.out.aft hHeld.1)
  have hb2 := HB.out.aft hHeld.1
  have HB2 := Lib.hid hb2
  have fp := hb2.frozen
  obtain ⟨_, cp2, d0, d1, d2, d3, d4⟩ := hHeld
  clear hb2 cp c0 c1 c2 c3 c4
  go_wp2
  go_region_with ((go_at_call 21; refine (HMD.out _ (HT1.out.aft (Below.drew (Aft.refl _)))).mono ?_; rintro e' w9 ⟨rfl, N8⟩; have N9 := Aft.trans (Below.drew (Aft.refl _)) N8; have cq := N9.cell cp2; have fq := (HB2.out.aft N9).frozen; have HB9 := Lib.hid (HB2.out.aft N9); have A9 := Lib.hid (A1.trans N9); clear N9 N8))
  all_goals
    go_wp2
    go_ret
    exact ⟨rfl, ((A9.out.grownBy (some p)).trans (grownBy_setCell' _ _ _)), HB9.out.set _⟩
end Go.Proofs.YtdeojpmimhagjabDoor
