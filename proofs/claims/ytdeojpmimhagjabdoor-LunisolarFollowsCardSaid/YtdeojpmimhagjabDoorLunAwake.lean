/-
  awake returns true. Condition: 'Tab'.
-/
import Derived.Test.YtdeojpmimhagjabDoorLunDay
namespace Go.Proofs.YtdeojpmimhagjabDoor
open Go.RowKit
open LunPlain
theorem ex_lun {c y m d : Int} {l : Bool} (h : LunIs 885 c y m d l) : c = 2 ∧ y = 2 ∧ m = 6 ∧ d = 1 ∧ l = true := h.unique (LunIs.of (y := 2) (m := 6) (d := 1) (l := true) (by decide) (by decide))
set_option maxRecDepth 100000 in
set_option maxHeartbeats 1600000 in
theorem awake_any (w : World) (ht : Tab w) (hg : 0 < w.heap.size) : Calls Tryd.prog 13 #[] w (BoolPost w true) := by
  have H1 := Lib.hid (Date_any 885 w ht hg)
  have H2 := Lib.hid (fun w ht => Day_any 2 2 6 1 true w ht (by decide))
  have H3 := Lib.hid (fun w => leap_any 2 w)
  have H4 := Lib.hid (fun w => leap_any 1 w)
  have H5 := Lib.hid (fun w => yd_any 2 w)
  have H6 := Lib.hid (fun w => Months_any 2 w)
  rw [show dayV 2 2 6 true 1 = (885, 0) by decide] at H2
  rw [show leapB 2 = true by decide] at H3
  rw [show leapB 1 = false by decide] at H4
  rw [show yd 2 = 384 by decide] at H5
  dsimp only at H2
  have q1 := deq_refl 2 2 6 1 true
  go_enter Tryd.func13, Tryd.ntmps13
  go_wp2_with fail
  refine H1.out.mono ?_
  rintro e w1 ⟨c, y, m, d, l, rfl, hs, N1⟩
  obtain ⟨rfl, rfl, rfl, rfl, rfl⟩ := ex_lun hs
  rw [show errV 885 = 0 by decide]
  clear hs H1
  have b1 := BoxD.new w1 2 2 6 1 true
  have A1 := N1.alloc (.cells #[.int .i64 2, .int .i64 2, .int .i64 6, .int .i64 1, .bool true] 34)
  obtain ⟨c0, c1, c2, c3, c4⟩ := b1.five
  have HT1 := Lib.hid (ht.aft A1)
  clear ht
  go_wp2_with fail
  refine (H2.out _ HT1.out).mono ?_
  rintro e w2 ⟨rfl, N2⟩
  obtain ⟨d0, d1, d2, d3, d4⟩ := (b1.aft N2).five
  have A2 := A1.trans N2
  clear b1 c0 c1 c2 c3 c4
  go_wp2_with fail
  refine (H3.out _).mono ?_
  rintro e w' ⟨rfl, rfl⟩
  go_wp2_with fail
  refine (H4.out _).mono ?_
  rintro e w' ⟨rfl, rfl⟩
  go_wp2_with fail
  refine (H5.out _).mono ?_
  rintro e w' ⟨rfl, rfl⟩
  go_wp2_with fail
  refine (H6.out _).mono ?_
  rintro e w3 ⟨A, cp, rfl, hms, N3⟩
  rw [if_neg (by omega), show leapB 2 = true by decide, show nmN true = 13 by decide] at hms ⊢
  have hcp := hms.le
  have hcm := hms.cmax
  clear hms
  go_wp2
  go_ret
  exact ⟨by first | rfl | simp, A2.trans N3⟩
theorem tab_lt {w : World} (ht : Tab w) : 0 < w.heap.size := World.block_lt_of_cell? w _ (ht 0 (by omega))
theorem awake_t (w : World) (ht : Tab w) : Calls Tryd.prog 13 #[] w (BoolPost w true) := awake_any w ht (tab_lt ht)
theorem Date_t (n : Int) (w : World) (ht : Tab w) : Calls Tryd.prog 25 #[.int .i64 n] w (DtPost w n) := Date_any n w ht (tab_lt ht)
theorem day_any (n : Int) (w : World) : Calls Tryd.prog 26 #[.int .i64 n] w (SamePost w (.bool (decide (0 ≤ n ∧ n ≤ 999999)))) := by
  by_cases h0 : 0 ≤ n
  · by_cases h1 : n ≤ 999999
    · rw [decide_eq_true ⟨h0, h1⟩]
      go_enter Tryd.func26, Tryd.ntmps26
      go_wp2
      go_ret
      exact ⟨by first | rfl | simp, rfl⟩
    · rw [decide_eq_false (fun h => h1 h.2)]
      go_enter Tryd.func26, Tryd.ntmps26
      go_wp2
      go_ret
      exact ⟨by first | rfl | simp, rfl⟩
  · rw [decide_eq_false (fun h => h0 h.1)]
    go_enter Tryd.func26, Tryd.ntmps26
    go_wp2
    go_ret
    exact ⟨by first | rfl | simp, rfl⟩
end Go.Proofs.YtdeojpmimhagjabDoor
