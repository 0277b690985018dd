/-
  Months of the program: a slice of dates in memory of its own. Conditions: none.
-/
import Derived.Test.YtdeojpmimhagjabDoorLunList
import Derived.Maps.AppendAt
import Derived.OneCell
namespace Go.Proofs.YtdeojpmimhagjabDoor
open Go.RowKit
open LunPlain

theorem BoxD.setL {w : World} {p : Nat} {c y m d : Int} {l : Bool} (h : BoxD w p c y m d l) (l' : Bool) : BoxD (w.setCell ⟨p, 4, none⟩ (.bool l')) p c y m d l' := heap_setCell_same _ _ _ _ _ _ h
theorem made_run : ∃ cs : Array Value, cs.size = 65 ∧ ∀ w' : World, (Instr.makeSlice 30 (.int .i64 0) (.int .i64 13)).run Tryd.prog w' = .ok (.slice (some ⟨w'.heap.size, 0, none⟩) 0 13) (w'.alloc (.cells cs 34)) := by
  obtain ⟨i0, hi, hz0, hz1, hz2⟩ := info_parts Tryd.infoD
  refine ⟨madeCells (Value.cells (.agg #[.int .i64 0, .int .i64 0, .int .i64 0, .int .i64 0, .bool false])) (13 * i0.size), by rw [size_madeCells, hz1], fun w' => ?_⟩
  have h := run_make (P := Tryd.prog) w' 30 34 i0 _ Tryd.underlying30 hi hz0 .i64 .i64 0 13 (by omega) (by omega) (by rw [hz2]; decide) (by omega)
  exact h
def exV (c y m : Int) (l : Bool) : Bool := decide (c = 2 ∧ exM y m l)
theorem exists_v (c y m d : Int) (l : Bool) (w : World) : Calls Tryd.prog 34 #[(.agg #[.int .i64 c, .int .i64 y, .int .i64 m, .int .i64 d, .bool l])] w (BoolPost w (exV c y m l)) := exists_any c y m d l w
theorem ex_yes {y : Int} (h0 : ¬ y < 0) (hq : leapB y = true) : exV 2 y 6 true = true := decide_eq_true ⟨rfl, by omega, by omega, by omega, fun _ => ⟨rfl, hq⟩⟩
theorem ex_no {y : Int} {k : Nat} (h : ¬ (k = 5 ∧ leapB y = true)) : exV 2 y ((k : Int) + 1) true = false :=
  decide_eq_false (fun g => h ⟨by have := (g.2.2.2.2 rfl).1; omega, (g.2.2.2.2 rfl).2⟩)

set_option maxRecDepth 100000 in
set_option maxHeartbeats 1600000 in
theorem Months_any (y : Int) (w : World) : Calls Tryd.prog 20 #[.int .i64 y] w (MsPost w y) := by
  obtain ⟨i0, hi, hz0, hz1, hz2⟩ := info_parts Tryd.infoD
  by_cases h0 : y < 0
  · go_enter Tryd.func20, Tryd.ntmps20
    go_wp2
    go_ret
    exact ⟨none, 0, by rw [if_pos h0]; rfl, by rw [if_pos h0]; exact ⟨Nat.le_refl _, by omega, fun i hi => by omega⟩, Aft.refl _⟩
  · have HX := Lib.hid (fun m d w => exists_v 2 y m d true w)
    have HXY := Lib.hid (fun hq => ex_yes (y := y) h0 hq)
    have HXN := Lib.hid (fun (k : Nat) h => ex_no (y := y) (k := k) h)
    have HP := Lib.hid (show ∀ v W, W.ownsRow w.heap.size 34 5 v (nmN (leapB y)) (flatM y (mlist (leapB y) (nmN (leapB y)))) → Aft w W → MsPost w y (.returned v) W from fun v W h a => by
      obtain ⟨A, c, rfl, hm⟩ := Ms.of_row h
      exact ⟨A, c, by rw [if_neg h0], by rw [if_neg h0]; exact hm, a⟩)
    generalize hbb : leapB y = b at *
    clear hbb
    obtain ⟨cs, hcs, hmk⟩ := made_run
    have HO0 := Lib.hid (World.ownsRow_made (e := 34) (size := 5) w cs 13 (Nat.le_refl w.heap.size) (by unfold maxLen; omega) (by rw [hcs]))
    clear hcs
    go_enter Tryd.func20, Tryd.ntmps20
    go_wp2
    go_loopw [3, 9] (fun v i wr => ∃ k : Nat, k ≤ 12 ∧ i = .int .i64 (k : Int) ∧ wr.ownsRow w.heap.size 34 5 v (cnt b k) (flatM y (mlist b (cnt b k))) ∧ Aft w wr) (fun _ i _ => (13 - intOf i).toNat)
    case atStart => exact ⟨0, by omega, rfl, by rw [cnt_zero]; exact HO0.out, (Aft.refl _).alloc _⟩
    case round =>
      obtain ⟨k, hk, rfl, own, haf⟩ := hrel
      have O := Lib.hid own
      clear own hmk HO0
      have hcl := cnt_le b k
      have hs0 := haf.size
      by_cases hlt : k < 12
      · by_cases h5 : k = 5 ∧ b = true
        · obtain ⟨rfl, rfl⟩ := h5
          obtain ⟨e5, e6, e7, e8, e9, e10⟩ := cnt_five
          have HQ := Lib.hid (fun (v : Value) (W : World) (h : W.ownsRow w.heap.size 34 5 v (cnt true 5 + 1 + 1) ((flatM y (mlist true (cnt true 5)) ++ flatM y [(6, false)]) ++ flatM y [(6, true)])) => (show W.ownsRow w.heap.size 34 5 v (cnt true 6) (flatM y (mlist true (cnt true 6))) by rw [e6, mlist_succ, mlist_succ, flatM_append, flatM_append]; rw [e5] at h; exact h))
          have HXX := Lib.hid (HXY.out rfl)
          clear e5 e6 e7 e8 e9 e10
          generalize cnt true 5 = N at *
          go_wp2_with (at_builtin; refine wpList_append_own_at _ rfl _ _ 30 rfl w.heap.size 34 i0 _ 5 40 Tryd.underlying30 hi hz0 hz1 hz2 rfl (by decide) _ _ _ rfl ((O.out.alloc _).alloc _) ⟨wr.heap.size + 1, 0, none⟩ 1 1 (flatM y [(6, false)]) rfl rfl (one_cellsM _ y _ (World.size_alloc _ _)) (flatM_one _ _) (by unfold maxLen; omega) (by omega) (by simp; omega) ?_; intro v1 w1 own1 grow1 _ hat; have b1 := ((BoxD.new wr 2 y (6) 1 false).aft ((Aft.refl _).alloc (.cells #[.int .i64 2, .int .i64 y, .int .i64 6, .int .i64 1, .bool false] 34))).grown grow1 (row_ne O.out (Nat.le_refl _)); obtain ⟨c0, c1, c2, c3, c4⟩ := b1.five; have f4 := b1.frozen 4; have B1 := Lib.hid b1; have O1 := Lib.hid own1; have G1 := Lib.hid grow1; have HAT := Lib.hid hat; clear b1 own1 grow1 hat)
          refine (HX.out _ _ _).mono ?_
          rintro e w2 ⟨hv, N2⟩
          rw [HXX.out] at hv
          subst hv
          have hne : v1.ownBlock ≠ some wr.heap.size := by
            rcases HAT.out with h | h
            · rw [h]; exact fun e => row_ne O.out (Nat.le_refl _) e.symm
            · rw [h, World.size_alloc, World.size_alloc]; intro e; have := Option.some.inj e; omega
          have A1 := ((haf.alloc _).alloc _).grown G1.out (row_ltM (w := w) ((O.out.alloc (.cells #[.int .i64 2, .int .i64 y, .int .i64 6, .int .i64 1, .bool false] 34)).alloc (.cells #[.int .i64 2, .int .i64 y, .int .i64 6, .int .i64 1, .bool false] 34)))
          have O2 := Lib.hid (own_aft (ownsRow_setCell_other O1.out (a := ⟨wr.heap.size, 4, none⟩) hne (.bool true)) N2)
          have A2 := (A1.setCell (p := ⟨wr.heap.size, 4, none⟩) hs0 (.bool true)).trans N2
          have b2 := ((B1.out.setL true).aft N2)
          obtain ⟨d0, d1, d2, d3, d4⟩ := b2.five
          have hs2 := A2.size
          clear b2 N2 A1 c0 c1 c2 c3 c4 f4
          go_wp2_with (at_builtin; refine wpList_append_own_at _ rfl _ _ 30 rfl w.heap.size 34 i0 _ 5 40 Tryd.underlying30 hi hz0 hz1 hz2 rfl (by decide) _ _ _ rfl (O2.out.alloc _) ⟨w2.heap.size, 0, none⟩ 1 1 (flatM y [(6, true)]) rfl rfl (one_cellsM _ y _ (rfl)) (flatM_one _ _) (by unfold maxLen; omega) (by omega) (by simp; omega) ?_; intro v3 w3 own3 grow3 _ _)
          have A3 := (A2.alloc _).grown grow3 (row_ltM O2.out)
          have O3 := Lib.hid own3
          clear own3 grow3
          go_roundw
          case rel => exact ⟨6, by omega, by go_num, HQ.out _ _ O3.out, A3⟩
          case measure => simp [intOf]
        · obtain ⟨e1, e2, e3⟩ := cnt_step b k h5
          have HQ := Lib.hid (fun (v : Value) (W : World) (h : W.ownsRow w.heap.size 34 5 v (cnt b k + 1) (flatM y (mlist b (cnt b k)) ++ flatM y [((k : Int) + 1, false)])) => (show W.ownsRow w.heap.size 34 5 v (cnt b (k + 1)) (flatM y (mlist b (cnt b (k + 1)))) by rw [e1, mlist_succ, flatM_append, e2, e3]; exact h))
          have HXX := Lib.hid (HXN.out k h5)
          clear e1 e2 e3 h5
          go_wp2_with (at_builtin; refine wpList_append_own_at _ rfl _ _ 30 rfl w.heap.size 34 i0 _ 5 40 Tryd.underlying30 hi hz0 hz1 hz2 rfl (by decide) _ _ _ rfl ((O.out.alloc _).alloc _) ⟨wr.heap.size + 1, 0, none⟩ 1 1 (flatM y [((k : Int) + 1, false)]) rfl rfl (one_cellsM _ y _ (World.size_alloc _ _)) (flatM_one _ _) (by unfold maxLen; omega) (by omega) (by simp; omega) ?_; intro v1 w1 own1 grow1 _ hat; have b1 := ((BoxD.new wr 2 y ((k : Int) + 1) 1 false).aft ((Aft.refl _).alloc (.cells #[.int .i64 2, .int .i64 y, .int .i64 ((k : Int) + 1), .int .i64 1, .bool false] 34))).grown grow1 (row_ne O.out (Nat.le_refl _)); obtain ⟨c0, c1, c2, c3, c4⟩ := b1.five; have f4 := b1.frozen 4; have B1 := Lib.hid b1; have O1 := Lib.hid own1; have G1 := Lib.hid grow1; have HAT := Lib.hid hat; clear b1 own1 grow1 hat)
          refine (HX.out _ _ _).mono ?_
          rintro e w2 ⟨hv, N2⟩
          rw [HXX.out] at hv
          subst hv
          have hne : v1.ownBlock ≠ some wr.heap.size := by
            rcases HAT.out with h | h
            · rw [h]; exact fun e => row_ne O.out (Nat.le_refl _) e.symm
            · rw [h, World.size_alloc, World.size_alloc]; intro e; have := Option.some.inj e; omega
          have A1 := ((haf.alloc _).alloc _).grown G1.out (row_ltM (w := w) ((O.out.alloc (.cells #[.int .i64 2, .int .i64 y, .int .i64 ((k : Int) + 1), .int .i64 1, .bool false] 34)).alloc (.cells #[.int .i64 2, .int .i64 y, .int .i64 ((k : Int) + 1), .int .i64 1, .bool false] 34)))
          have O2 := Lib.hid (own_aft (ownsRow_setCell_other O1.out (a := ⟨wr.heap.size, 4, none⟩) hne (.bool true)) N2)
          have A2 := (A1.setCell (p := ⟨wr.heap.size, 4, none⟩) hs0 (.bool true)).trans N2
          clear N2 A1 c0 c1 c2 c3 c4 f4
          go_wp2
          go_roundw
          case rel => exact ⟨k + 1, by omega, by go_num, HQ.out _ _ O2.out, A2⟩
          case measure => simp [intOf]; omega
      · obtain rfl : k = 12 := by omega
        rw [cnt_all] at O
        go_wp2
        go_ret
        exact HP.out _ _ O.out haf
end Go.Proofs.YtdeojpmimhagjabDoor
