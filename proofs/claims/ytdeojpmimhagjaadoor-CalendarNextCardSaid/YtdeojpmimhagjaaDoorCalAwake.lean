/-
  awake returns true. Condition: 'Tab'.
-/
import Derived.Test.YtdeojpmimhagjaaDoorCalDate
namespace Go.Proofs.YtdeojpmimhagjaaDoor
open Go.RowKit
open CalPlain
theorem ex_sol {c y m d : Int} (h : SolIs 1825 c y m d) : c = 1 ∧ y = 4 ∧ m = 12 ∧ d = 30 := h.unique (SolIs.of (y := 4) (m := 12) (d := 30) (by decide) (by decide))
set_option maxRecDepth 100000 in
set_option maxHeartbeats 1600000 in
theorem awake_any (w : World) (ht : Tab w) : Calls Tryd.prog 17 #[] w (BoolPost w true) := by
  have H1 := Lib.hid (SolarDate_any 1825 w ht)
  have H2 := Lib.hid (fun w => ysProg_any 5 w)
  have H3 := Lib.hid (fun w => CycleDate_any 20 w)
  have H4 := Lib.hid (fun w => week_any 7 w)
  rw [show ysV 5 = (1826, 0) by decide] at H2
  rw [show cyC 20 = 3 by decide, show cyY 20 = 0 by decide, show cyM 20 = 8 by decide, show cyD 20 = 0 by decide, show ckV 20 = 0 by decide] at H3
  rw [show wkV 7 = 1 by decide] at H4
  dsimp only at H2
  have q1 := deq_refl 1 4 12 30 false
  have q2 := deq_refl 3 0 8 0 false
  go_enter Tryd.func17, Tryd.ntmps17
  go_wp2_with fail
  refine H1.out.mono ?_
  rintro e w1 ⟨c, y, m, d, rfl, hs, N1⟩
  obtain ⟨rfl, rfl, rfl, rfl⟩ := ex_sol hs
  rw [show ckV 1825 = 0 by decide]
  clear hs H1
  have b1 := BoxD.new w1 1 4 12 30 false
  go_wp2_with fail
  refine (H2.out _).mono ?_
  rintro e w' ⟨rfl, rfl⟩
  go_wp2_with fail
  refine (H3.out _).mono ?_
  rintro e w2 ⟨rfl, N2⟩
  have b2 := b1.aft N2
  have b3 := BoxD.new w2 3 0 8 0 false
  have b4 := b2.aft ((Aft.refl w2).alloc (.cells #[.int .i64 3, .int .i64 0, .int .i64 8, .int .i64 0, .bool false] 30))
  have A3 := ((N1.alloc (.cells #[.int .i64 1, .int .i64 4, .int .i64 12, .int .i64 30, .bool false] 30)).trans N2).alloc (.cells #[.int .i64 3, .int .i64 0, .int .i64 8, .int .i64 0, .bool false] 30)
  obtain ⟨c0, c1, c2, c3, c4⟩ := b4.five
  obtain ⟨d0, d1, d2, d3, d4⟩ := b3.five
  clear b1 b2 b3 b4
  go_wp2_with fail
  refine (H4.out _).mono ?_
  rintro e w' ⟨rfl, rfl⟩
  go_wp2
  go_ret
  exact ⟨by first | rfl | simp, A3⟩
end Go.Proofs.YtdeojpmimhagjaaDoor
