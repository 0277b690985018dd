/-
  The solar date of the next day is the next day of the month, or the first day of the next month, or of the next year: the law CalendarNext returns true. (a tied card: pruned copy of the program; the table of the months' lengths holds what its text lays).
-/
import Derived.Test.YtdeojpmimhagjaaDoorCalFrame
import Derived.Test.YtdeojpmimhagjaaDoorCalAwake
import Derived.Test.YtdeojpmimhagjaaDoorRegion
import Derived.Test.YtdeojpmimhagjaaDoorCards
import Derived.Test.YtdeojpmimhagjaaDoorTie
import Derived.Deep.DeepHandedRow
import Derived.Deep.DeepWitnessRowRef
import Derived.SevenTiedAt
namespace Go.Proofs.YtdeojpmimhagjaaDoor.lawCNext
open Go.ChangeShapes Go.WideShapes Go.ChangeAt Go.RowKit
open CalPlain

set_option maxRecDepth 100000 in
set_option maxHeartbeats 3200000 in
theorem walk (n : Int) (w : World) (ht : Tab w) (_ : (Lit.int .i64 n).wf = true) :
    Calls Tryd.prog 10 #[.int .i64 n] w (BoolPost w true) := by
  by_cases h0 : n < 0
  · go_enter Tryd.func10, Tryd.ntmps10
    go_wp2_with fail
    refine (awake_any _ (ht.aft (Aft.refl w))).mono ?_
    rintro e v1 ⟨rfl, N1⟩
    have A2 := (Aft.refl w).trans N1
    go_wp2_with fail
    refine (awake_any _ (ht.aft A2)).mono ?_
    rintro e v2 ⟨rfl, N3⟩
    have A4 := A2.trans N3
    go_wp2
    go_ret
    exact ⟨by first | rfl | simp, A4⟩
  · by_cases h1 : 999999 ≤ n
    · go_enter Tryd.func10, Tryd.ntmps10
      go_wp2_with fail
      refine (awake_any _ (ht.aft (Aft.refl w))).mono ?_
      rintro e v1 ⟨rfl, N1⟩
      have A2 := (Aft.refl w).trans N1
      go_wp2_with fail
      refine (awake_any _ (ht.aft A2)).mono ?_
      rintro e v2 ⟨rfl, N3⟩
      have A4 := A2.trans N3
      go_wp2
      go_ret
      exact ⟨by first | rfl | simp, A4⟩
    · go_enter Tryd.func10, Tryd.ntmps10
      go_wp2_with fail
      refine (awake_any _ (ht.aft (Aft.refl w))).mono ?_
      rintro e v1 ⟨rfl, N1⟩
      have A2 := (Aft.refl w).trans N1
      go_wp2_with fail
      refine (SolarDate_any n _ (ht.aft A2)).mono ?_
      rintro e v2 ⟨c1, y1, m1, d1, rfl, hs, N3⟩
      obtain ⟨_, _, rfl, hok1, hn1⟩ : 0 ≤ n ∧ n ≤ 999999 ∧ c1 = 1 ∧ okD y1 m1 d1 ∧ num y1 m1 d1 = n := by
        rcases hs with h | h
        · exact h
        · exact absurd h.1 (by omega)
      rw [ckV_ok (n := n) (by omega) (by omega)]
      clear hs
      have A4 := A2.trans N3
      have b5 := BoxD.new v2 1 y1 m1 d1 false
      have A6 := A4.alloc (.cells #[.int .i64 1, .int .i64 y1, .int .i64 m1, .int .i64 d1, .bool false] 30)
      have HOK1 := Lib.hid hok1
      have HN1 := Lib.hid hn1
      have hb1 : 0 ≤ y1 ∧ y1 ≤ 999999 ∧ 1 ≤ m1 ∧ m1 ≤ 12 ∧ 1 ≤ d1 ∧ d1 ≤ 31 := by
        obtain ⟨q0, q1, q2⟩ := hok1.in_
        have := hok1.1; have := hok1.2; have := mdays_bd y1 m1; have := (num_range hok1).1; have := ys_ge q0
        omega
      obtain ⟨q0, q1, q2, q3, q4, q5⟩ := hb1
      clear hok1 hn1
      go_wp2_with fail
      refine (SolarDate_any (n + 1) _ (ht.aft A6)).mono ?_
      rintro e v3 ⟨c2, y2, m2, d2, rfl, hs, N7⟩
      obtain ⟨_, _, rfl, hok2, hn2⟩ : 0 ≤ n + 1 ∧ n + 1 ≤ 999999 ∧ c2 = 1 ∧ okD y2 m2 d2 ∧ num y2 m2 d2 = n + 1 := by
        rcases hs with h | h
        · exact h
        · exact absurd h.1 (by omega)
      rw [ckV_ok (n := n + 1) (by omega) (by omega)]
      clear hs
      have A8 := A6.trans N7
      have b9 := b5.aft N7
      clear b5
      have b10 := b9.aft ((Aft.refl v3).alloc (.cells #[.int .i64 1, .int .i64 y2, .int .i64 m2, .int .i64 d2, .bool false] 30))
      clear b9
      have b11 := BoxD.new v3 1 y2 m2 d2 false
      have A12 := A8.alloc (.cells #[.int .i64 1, .int .i64 y2, .int .i64 m2, .int .i64 d2, .bool false] 30)
      have HNX := Lib.hid (num_next HOK1.out y2 m2 d2 hok2 (by rw [hn2, HN1.out]))
      clear hok2 hn2
      have HMD := Lib.hid (fun w ht => mdays_any y1 m1 w ht)
      have hmb := mdays_bd y1 m1
      have HTT := Lib.hid (ht.aft A12)
      rcases HNX.out with ⟨e0, rfl, rfl, rfl⟩ | ⟨e0, e1, rfl, rfl, rfl⟩ | ⟨e0, rfl, rfl, rfl, rfl⟩
      · have hq9 := deq_refl 1 y2 m2 (d1 + 1) false
        have hmd : (d1 == mdays y2 m2) = false := by simp [e0]
        have hm13 : ¬ m2 = 13 := by omega
        have hm13b : (m2 == 13) = false := by simp <;> omega
        clear e0
        generalize mdays y2 m2 = M at *
        have bw := BoxD.new' (v3.alloc (.cells #[.int .i64 1, .int .i64 y2, .int .i64 m2, .int .i64 (d1 + 1), .bool false] 30)) 1 y2 m2 (d1 + 1) false (H := v3.heap.size + 1) (by simp)
        have ba1 := b10.aft ((Aft.refl (v3.alloc (.cells #[.int .i64 1, .int .i64 y2, .int .i64 m2, .int .i64 (d1 + 1), .bool false] 30))).alloc (.cells #[.int .i64 1, .int .i64 y2, .int .i64 m2, .int .i64 (d1 + 1), .bool false] 30))
        have bb1 := b11.aft ((Aft.refl (v3.alloc (.cells #[.int .i64 1, .int .i64 y2, .int .i64 m2, .int .i64 (d1 + 1), .bool false] 30))).alloc (.cells #[.int .i64 1, .int .i64 y2, .int .i64 m2, .int .i64 (d1 + 1), .bool false] 30))
        obtain ⟨c0, c1, c2, c3, c4⟩ := ba1.five
        obtain ⟨c13, c14, c15, c16, c17⟩ := b10.five
        go_wp2
        refine wp_region_held_drew (S := fun w' => Aft ((v3.alloc (.cells #[.int .i64 1, .int .i64 y2, .int .i64 m2, .int .i64 (d1 + 1), .bool false] 30)).alloc (.cells #[.int .i64 1, .int .i64 y2, .int .i64 m2, .int .i64 (d1 + 1), .bool false] 30)) w' ∧ w'.cell? ⟨v2.heap.size, 0, none⟩ = some (.int .i64 1) ∧ w'.cell? ⟨v2.heap.size, 1, none⟩ = some (.int .i64 y2) ∧ w'.cell? ⟨v2.heap.size, 2, none⟩ = some (.int .i64 m2) ∧ w'.cell? ⟨v2.heap.size, 3, none⟩ = some (.int .i64 d1) ∧ w'.cell? ⟨v2.heap.size, 4, none⟩ = some (.bool false)) (by kernel_rfl) (⟨Below.drew (Aft.refl _), c0, c1, c2, c3, c4⟩) (fun hHeld => ?_)
        refine take_on (i := 0) (v := ?v1) rfl (by kernel_rfl) (by kernel_rfl) (by kernel_rfl) (fun _ _ _ h => h) (by rfl) (by assumption) ?y1 ?_
        case y1 => (intro w hSw; (try dsimp only at hSw); go_simp; (try with_reducible rfl))
        try simp only [Act.put, List.setIfInBounds_toArray, List.set_cons_zero, List.set_cons_succ]
        refine take_on (i := 1) (v := ?v2) rfl (by kernel_rfl) (by kernel_rfl) (by kernel_rfl) (fun _ _ _ h => h) (by rfl) (by assumption) ?y2 ?_
        case y2 => (intro w hSw; (try dsimp only at hSw); go_simp; (try with_reducible rfl))
        try simp only [Act.put, List.setIfInBounds_toArray, List.set_cons_zero, List.set_cons_succ]
        refine take_on (i := 2) (v := ?v3) rfl (by kernel_rfl) (by kernel_rfl) (by kernel_rfl) (fun _ _ _ h => h) (by rfl) (by assumption) ?y3 ?_
        case y3 => (intro w hSw; (try dsimp only at hSw); go_simp; (try with_reducible rfl))
        try simp only [Act.put, List.setIfInBounds_toArray, List.set_cons_zero, List.set_cons_succ]
        refine take_on (i := 3) (v := ?v4) rfl (by kernel_rfl) (by kernel_rfl) (by kernel_rfl) (fun _ _ _ h => h) (by rfl) (by assumption) ?y4 ?_
        case y4 => (intro w hSw; (try dsimp only at hSw); go_simp; (try with_reducible rfl))
        try simp only [Act.put, List.setIfInBounds_toArray, List.set_cons_zero, List.set_cons_succ]
        refine take_on (i := 4) (v := ?v5) rfl (by kernel_rfl) (by kernel_rfl) (by kernel_rfl) (fun _ _ _ h => h) (by rfl) (by assumption) ?y5 ?_
        case y5 => (intro w hSw; (try dsimp only at hSw); go_simp; (try with_reducible rfl))
        try simp only [Act.put, List.setIfInBounds_toArray, List.set_cons_zero, List.set_cons_succ]
        refine take_on (i := 5) (v := ?v6) rfl (by kernel_rfl) (by kernel_rfl) (by kernel_rfl) (fun _ _ _ h => h) (by rfl) (by assumption) ?y6 ?_
        case y6 => (intro w hSw; (try dsimp only at hSw); go_simp; (try with_reducible rfl))
        try simp only [Act.put, List.setIfInBounds_toArray, List.set_cons_zero, List.set_cons_succ]
        refine one_ready (i := 6) rfl (by kernel_rfl) (by rfl) (fun K hK => ?_)
        go_simp
        go_at_call 20
        refine (HMD.out _ (HTT.out.aft (((Aft.refl _).alloc _).trans (by first | exact hHeld.1 | exact Below.drew hHeld.1)))).mono ?_
        rintro e' w' ⟨rfl, rfl⟩
        have hh := hHeld
        try go_simp
        refine hK.out _ _ (by first | exact hh | exact ⟨Below.drew hh.1, hh.2⟩ | exact hHeld) (fun hHeld => ?_)
        clear hK K
        try simp only [Act.put, List.setIfInBounds_toArray, List.set_cons_zero, List.set_cons_succ]
        refine take_on (i := 7) (v := ?v8) rfl (by kernel_rfl) (by kernel_rfl) (by kernel_rfl) (fun _ _ _ h => h) (by rfl) (by assumption) ?y8 ?_
        case y8 => (intro w hSw; (try dsimp only at hSw); go_simp; (try with_reducible rfl))
        try simp only [Act.put, List.setIfInBounds_toArray, List.set_cons_zero, List.set_cons_succ]
        refine wpAnyH_done (by kernel_rfl) ?_ _
        have bw2 := bw.aft hHeld.1
        have bb2 := bb1.aft hHeld.1
        have AZ := (A12.alloc (.cells #[.int .i64 1, .int .i64 y2, .int .i64 m2, .int .i64 (d1 + 1), .bool false] 30)).trans hHeld.1
        have hsz := A12.size
        rw [World.size_alloc] at hsz
        clear HOK1 HN1 HNX HMD hmb HTT
        obtain ⟨_, x0, x1, x2, x3, x4⟩ := hHeld
        obtain ⟨p0, p1, p2, p3, p4⟩ := bw2.five
        obtain ⟨r0, r1, r2, r3, r4⟩ := bb2.five
        have f0 := bw2.frozen 0; have f1 := bw2.frozen 1; have f2 := bw2.frozen 2; have f3 := bw2.frozen 3; have f4 := bw2.frozen 4
        clear bw bb1 ba1 bw2 bb2 c0 c1 c2 c3 c4 b10 b11
        go_wp2
        go_ret
        exact ⟨by first | rfl | simp, by first | exact AZ | exact (A12.alloc _).drewN 1 | exact (A12.alloc _).drewN 2⟩
      · have hq9 := deq_refl 1 y2 (m1 + 1) 1 false
        have hmd : (d1 == mdays y2 m1) = true := by simp [e0]
        have hm13 : ¬ m1 + 1 = 13 := by omega
        have hm13b : (m1 + 1 == 13) = false := by simp <;> omega
        clear e0 e1
        generalize mdays y2 m1 = M at *
        have bw := BoxD.new' (v3.alloc (.cells #[.int .i64 1, .int .i64 y2, .int .i64 (m1 + 1), .int .i64 1, .bool false] 30)) 1 y2 m1 (d1 + 1) false (H := v3.heap.size + 1) (by simp)
        have ba1 := b10.aft ((Aft.refl (v3.alloc (.cells #[.int .i64 1, .int .i64 y2, .int .i64 (m1 + 1), .int .i64 1, .bool false] 30))).alloc (.cells #[.int .i64 1, .int .i64 y2, .int .i64 m1, .int .i64 (d1 + 1), .bool false] 30))
        have bb1 := b11.aft ((Aft.refl (v3.alloc (.cells #[.int .i64 1, .int .i64 y2, .int .i64 (m1 + 1), .int .i64 1, .bool false] 30))).alloc (.cells #[.int .i64 1, .int .i64 y2, .int .i64 m1, .int .i64 (d1 + 1), .bool false] 30))
        obtain ⟨c0, c1, c2, c3, c4⟩ := ba1.five
        obtain ⟨c13, c14, c15, c16, c17⟩ := b10.five
        go_wp2
        refine wp_region_held_drew (S := fun w' => Aft ((v3.alloc (.cells #[.int .i64 1, .int .i64 y2, .int .i64 (m1 + 1), .int .i64 1, .bool false] 30)).alloc (.cells #[.int .i64 1, .int .i64 y2, .int .i64 m1, .int .i64 (d1 + 1), .bool false] 30)) w' ∧ w'.cell? ⟨v2.heap.size, 0, none⟩ = some (.int .i64 1) ∧ w'.cell? ⟨v2.heap.size, 1, none⟩ = some (.int .i64 y2) ∧ w'.cell? ⟨v2.heap.size, 2, none⟩ = some (.int .i64 m1) ∧ w'.cell? ⟨v2.heap.size, 3, none⟩ = some (.int .i64 d1) ∧ w'.cell? ⟨v2.heap.size, 4, none⟩ = some (.bool false)) (by kernel_rfl) (⟨Below.drew (Aft.refl _), c0, c1, c2, c3, c4⟩) (fun hHeld => ?_)
        refine take_on (i := 0) (v := ?v9) rfl (by kernel_rfl) (by kernel_rfl) (by kernel_rfl) (fun _ _ _ h => h) (by rfl) (by assumption) ?y9 ?_
        case y9 => (intro w hSw; (try dsimp only at hSw); go_simp; (try with_reducible rfl))
        try simp only [Act.put, List.setIfInBounds_toArray, List.set_cons_zero, List.set_cons_succ]
        refine take_on (i := 1) (v := ?v10) rfl (by kernel_rfl) (by kernel_rfl) (by kernel_rfl) (fun _ _ _ h => h) (by rfl) (by assumption) ?y10 ?_
        case y10 => (intro w hSw; (try dsimp only at hSw); go_simp; (try with_reducible rfl))
        try simp only [Act.put, List.setIfInBounds_toArray, List.set_cons_zero, List.set_cons_succ]
        refine take_on (i := 2) (v := ?v11) rfl (by kernel_rfl) (by kernel_rfl) (by kernel_rfl) (fun _ _ _ h => h) (by rfl) (by assumption) ?y11 ?_
        case y11 => (intro w hSw; (try dsimp only at hSw); go_simp; (try with_reducible rfl))
        try simp only [Act.put, List.setIfInBounds_toArray, List.set_cons_zero, List.set_cons_succ]
        refine take_on (i := 3) (v := ?v12) rfl (by kernel_rfl) (by kernel_rfl) (by kernel_rfl) (fun _ _ _ h => h) (by rfl) (by assumption) ?y12 ?_
        case y12 => (intro w hSw; (try dsimp only at hSw); go_simp; (try with_reducible rfl))
        try simp only [Act.put, List.setIfInBounds_toArray, List.set_cons_zero, List.set_cons_succ]
        refine take_on (i := 4) (v := ?v13) rfl (by kernel_rfl) (by kernel_rfl) (by kernel_rfl) (fun _ _ _ h => h) (by rfl) (by assumption) ?y13 ?_
        case y13 => (intro w hSw; (try dsimp only at hSw); go_simp; (try with_reducible rfl))
        try simp only [Act.put, List.setIfInBounds_toArray, List.set_cons_zero, List.set_cons_succ]
        refine take_on (i := 5) (v := ?v14) rfl (by kernel_rfl) (by kernel_rfl) (by kernel_rfl) (fun _ _ _ h => h) (by rfl) (by assumption) ?y14 ?_
        case y14 => (intro w hSw; (try dsimp only at hSw); go_simp; (try with_reducible rfl))
        try simp only [Act.put, List.setIfInBounds_toArray, List.set_cons_zero, List.set_cons_succ]
        refine one_ready (i := 6) rfl (by kernel_rfl) (by rfl) (fun K hK => ?_)
        go_simp
        go_at_call 20
        refine (HMD.out _ (HTT.out.aft (((Aft.refl _).alloc _).trans (by first | exact hHeld.1 | exact Below.drew hHeld.1)))).mono ?_
        rintro e' w' ⟨rfl, rfl⟩
        have hh := hHeld
        try go_simp
        refine hK.out _ _ (by first | exact hh | exact ⟨Below.drew hh.1, hh.2⟩ | exact hHeld) (fun hHeld => ?_)
        clear hK K
        try simp only [Act.put, List.setIfInBounds_toArray, List.set_cons_zero, List.set_cons_succ]
        refine take_on (i := 7) (v := ?v16) rfl (by kernel_rfl) (by kernel_rfl) (by kernel_rfl) (fun _ _ _ h => h) (by rfl) (by assumption) ?y16 ?_
        case y16 => (intro w hSw; (try dsimp only at hSw); go_simp; (try with_reducible rfl))
        try simp only [Act.put, List.setIfInBounds_toArray, List.set_cons_zero, List.set_cons_succ]
        refine wpAnyH_done (by kernel_rfl) ?_ _
        have bw2 := bw.aft hHeld.1
        have bb2 := bb1.aft hHeld.1
        have AZ := (A12.alloc (.cells #[.int .i64 1, .int .i64 y2, .int .i64 m1, .int .i64 (d1 + 1), .bool false] 30)).trans hHeld.1
        have hsz := A12.size
        rw [World.size_alloc] at hsz
        clear HOK1 HN1 HNX HMD hmb HTT
        obtain ⟨_, x0, x1, x2, x3, x4⟩ := hHeld
        obtain ⟨p0, p1, p2, p3, p4⟩ := bw2.five
        obtain ⟨r0, r1, r2, r3, r4⟩ := bb2.five
        have f0 := bw2.frozen 0; have f1 := bw2.frozen 1; have f2 := bw2.frozen 2; have f3 := bw2.frozen 3; have f4 := bw2.frozen 4
        clear bw bb1 ba1 bw2 bb2 c0 c1 c2 c3 c4 b10 b11
        go_wp2
        go_ret
        exact ⟨by first | rfl | simp, by first | exact AZ | exact (A12.alloc _).drewN 1 | exact (A12.alloc _).drewN 2⟩
      · have hq9 := deq_refl 1 (y1 + 1) 1 1 false
        have hmd : (d1 == mdays y1 12) = true := by simp [e0]
        clear e0
        generalize mdays y1 12 = M at *
        have bw := BoxD.new' (v3.alloc (.cells #[.int .i64 1, .int .i64 (y1 + 1), .int .i64 1, .int .i64 1, .bool false] 30)) 1 y1 12 (d1 + 1) false (H := v3.heap.size + 1) (by simp)
        have ba1 := b10.aft ((Aft.refl (v3.alloc (.cells #[.int .i64 1, .int .i64 (y1 + 1), .int .i64 1, .int .i64 1, .bool false] 30))).alloc (.cells #[.int .i64 1, .int .i64 y1, .int .i64 12, .int .i64 (d1 + 1), .bool false] 30))
        have bb1 := b11.aft ((Aft.refl (v3.alloc (.cells #[.int .i64 1, .int .i64 (y1 + 1), .int .i64 1, .int .i64 1, .bool false] 30))).alloc (.cells #[.int .i64 1, .int .i64 y1, .int .i64 12, .int .i64 (d1 + 1), .bool false] 30))
        obtain ⟨c0, c1, c2, c3, c4⟩ := ba1.five
        obtain ⟨c13, c14, c15, c16, c17⟩ := b10.five
        obtain ⟨t0, t1, t2, t3, t4⟩ := (b10.aft ((Aft.refl (v3.alloc (.cells #[.int .i64 1, .int .i64 (y1 + 1), .int .i64 1, .int .i64 1, .bool false] 30))).alloc (.cells #[.int .i64 1, .int .i64 y1, .int .i64 13, .int .i64 1, .bool false] 30))).five
        go_wp2
        refine wp_region_held_drew (S := fun w' => Aft ((v3.alloc (.cells #[.int .i64 1, .int .i64 (y1 + 1), .int .i64 1, .int .i64 1, .bool false] 30)).alloc (.cells #[.int .i64 1, .int .i64 y1, .int .i64 12, .int .i64 (d1 + 1), .bool false] 30)) w' ∧ w'.cell? ⟨v2.heap.size, 0, none⟩ = some (.int .i64 1) ∧ w'.cell? ⟨v2.heap.size, 1, none⟩ = some (.int .i64 y1) ∧ w'.cell? ⟨v2.heap.size, 2, none⟩ = some (.int .i64 12) ∧ w'.cell? ⟨v2.heap.size, 3, none⟩ = some (.int .i64 d1) ∧ w'.cell? ⟨v2.heap.size, 4, none⟩ = some (.bool false)) (by kernel_rfl) (⟨Below.drew (Aft.refl _), c0, c1, c2, c3, c4⟩) (fun hHeld => ?_)
        refine take_on (i := 0) (v := ?v17) rfl (by kernel_rfl) (by kernel_rfl) (by kernel_rfl) (fun _ _ _ h => h) (by rfl) (by assumption) ?y17 ?_
        case y17 => (intro w hSw; (try dsimp only at hSw); go_simp; (try with_reducible rfl))
        try simp only [Act.put, List.setIfInBounds_toArray, List.set_cons_zero, List.set_cons_succ]
        refine take_on (i := 1) (v := ?v18) rfl (by kernel_rfl) (by kernel_rfl) (by kernel_rfl) (fun _ _ _ h => h) (by rfl) (by assumption) ?y18 ?_
        case y18 => (intro w hSw; (try dsimp only at hSw); go_simp; (try with_reducible rfl))
        try simp only [Act.put, List.setIfInBounds_toArray, List.set_cons_zero, List.set_cons_succ]
        refine take_on (i := 2) (v := ?v19) rfl (by kernel_rfl) (by kernel_rfl) (by kernel_rfl) (fun _ _ _ h => h) (by rfl) (by assumption) ?y19 ?_
        case y19 => (intro w hSw; (try dsimp only at hSw); go_simp; (try with_reducible rfl))
        try simp only [Act.put, List.setIfInBounds_toArray, List.set_cons_zero, List.set_cons_succ]
        refine take_on (i := 3) (v := ?v20) rfl (by kernel_rfl) (by kernel_rfl) (by kernel_rfl) (fun _ _ _ h => h) (by rfl) (by assumption) ?y20 ?_
        case y20 => (intro w hSw; (try dsimp only at hSw); go_simp; (try with_reducible rfl))
        try simp only [Act.put, List.setIfInBounds_toArray, List.set_cons_zero, List.set_cons_succ]
        refine take_on (i := 4) (v := ?v21) rfl (by kernel_rfl) (by kernel_rfl) (by kernel_rfl) (fun _ _ _ h => h) (by rfl) (by assumption) ?y21 ?_
        case y21 => (intro w hSw; (try dsimp only at hSw); go_simp; (try with_reducible rfl))
        try simp only [Act.put, List.setIfInBounds_toArray, List.set_cons_zero, List.set_cons_succ]
        refine take_on (i := 5) (v := ?v22) rfl (by kernel_rfl) (by kernel_rfl) (by kernel_rfl) (fun _ _ _ h => h) (by rfl) (by assumption) ?y22 ?_
        case y22 => (intro w hSw; (try dsimp only at hSw); go_simp; (try with_reducible rfl))
        try simp only [Act.put, List.setIfInBounds_toArray, List.set_cons_zero, List.set_cons_succ]
        refine one_ready (i := 6) rfl (by kernel_rfl) (by rfl) (fun K hK => ?_)
        go_simp
        go_at_call 20
        refine (HMD.out _ (HTT.out.aft (((Aft.refl _).alloc _).trans (by first | exact hHeld.1 | exact Below.drew hHeld.1)))).mono ?_
        rintro e' w' ⟨rfl, rfl⟩
        have hh := hHeld
        try go_simp
        refine hK.out _ _ (by first | exact hh | exact ⟨Below.drew hh.1, hh.2⟩ | exact hHeld) (fun hHeld => ?_)
        clear hK K
        try simp only [Act.put, List.setIfInBounds_toArray, List.set_cons_zero, List.set_cons_succ]
        refine take_on (i := 7) (v := ?v24) rfl (by kernel_rfl) (by kernel_rfl) (by kernel_rfl) (fun _ _ _ h => h) (by rfl) (by assumption) ?y24 ?_
        case y24 => (intro w hSw; (try dsimp only at hSw); go_simp; (try with_reducible rfl))
        try simp only [Act.put, List.setIfInBounds_toArray, List.set_cons_zero, List.set_cons_succ]
        refine wpAnyH_done (by kernel_rfl) ?_ _
        have bw2 := bw.aft hHeld.1
        have bb2 := bb1.aft hHeld.1
        have AZ := (A12.alloc (.cells #[.int .i64 1, .int .i64 y1, .int .i64 12, .int .i64 (d1 + 1), .bool false] 30)).trans hHeld.1
        have hsz := A12.size
        rw [World.size_alloc] at hsz
        clear HOK1 HN1 HNX HMD hmb HTT
        obtain ⟨_, x0, x1, x2, x3, x4⟩ := hHeld
        obtain ⟨p0, p1, p2, p3, p4⟩ := bw2.five
        obtain ⟨r0, r1, r2, r3, r4⟩ := bb2.five
        have f0 := bw2.frozen 0; have f1 := bw2.frozen 1; have f2 := bw2.frozen 2; have f3 := bw2.frozen 3; have f4 := bw2.frozen 4
        clear bw bb1 ba1 bw2 bb2 c0 c1 c2 c3 c4 b10 b11
        go_wp2
        go_ret
        exact ⟨by first | rfl | simp, by first | exact AZ | exact (A12.alloc _).drewN 1 | exact (A12.alloc _).drewN 2⟩

theorem own : ownKnob Tryd.prog.godebug = none := by kernel_rfl
theorem laidOut : laidOutB Tryd.prog = true := by kernel_rfl

set_option maxRecDepth 100000 in
theorem contract (H : Type) (enc : TypeId × Value → H) (W : World) (base : Nat) (args : Array Value) (ds gs : List (DataW H)) (before : List MemPlace)
    (hval : ∀ (j : Nat) t v, Tryd.f10.params[j]? = some t → args[j]? = some v → Value.okWide Tryd.prog W .any base t v)
    (hW : DataW.Whole enc Tryd.prog Tryd.f10.params.toList Rows.calendarNextSpec.vars false W args.toList ds gs before) (hsz0 : (DataW.weightsEach Tryd.prog (Tryd.f10.params.toList ++ Rows.calendarNextSpec.plain.varTypes Tryd.prog) (ds ++ gs)).all (· ≤ reachBytes) = true) (hL : laidMetH Tryd.prog listed W) :
    Calls Tryd.prog 10 args W fun e W' => ∃ v, e = .returned v ∧ Rows.calendarNextSpec.post enc Tryd.prog Tryd.f10 false true false false W args v W' := by
  have hW' := hW
  obtain ⟨p, q, hA0, hV, rfl, hfz, hnd⟩ := hW
  have hA : DataW.TrodAll enc Tryd.prog W 0 (fun _ => true) true Tryd.f10.params.toList args.toList ds p := hA0
  have hsz := hsz0
  rw [Tryd.params10] at hA hval hsz
  obtain ⟨v0, vs0, d0, ds0, p0, q0, hargs, rfl, rfl, h0, r0⟩ := trodAll_cons hA
  obtain ⟨rfl, rfl, rfl⟩ := trodAll_nil r0
  obtain rfl : args = #[v0] := by cases args; simp_all
  obtain ⟨rfl, rfl⟩ := trodVars_none hV
  obtain ⟨xs0, rfl, rfl, rfl, z0⟩ := open_int Tryd.underlying3 (hval 0 3 v0 rfl rfl) h0
  clear hA0
  refine (walk xs0 W (tabs_of hL) z0).mono fun e W' ⟨he, bel⟩ => ?_
  subst he
  exact ⟨_, rfl, _, _, _, [], _, [], hW', trodAll_mk1 (shut_bool Tryd.underlying4 _), (trodAll_cons_mk (shut_int Tryd.underlying3 z0) trodAll_mk0), rfl, Below.frame bel _, fun h => by cases h⟩

theorem witness_row (os : Os) {H : Type} (enc : TypeId × Value → H) :
    (OpenSpec.ofChange Rows.calendarNextSpec).preRow enc Tryd.prog Tryd.f10 Rows.calendarNextRow.domain false Rows.calendarNextRow.laid ((laidWorld os).forCall (fun _ _ => 0) ⟨#[], #[.int .i64 0], []⟩).memory #[.int .i64 0] := by
  have hw : (DataW.whole enc Tryd.prog ((laidWorld os).forCall (fun _ _ => 0) ⟨#[], #[.int .i64 0], []⟩).memory Tryd.f10.params.toList Rows.calendarNextSpec.vars false (#[.int .i64 0] : Array Value).toList 8).map (fun x => (x.1, x.2.1)) =
      some ([.lit (.int .i64 0)], []) := by kernel_rfl
  obtain ⟨⟨x1, x2, x3⟩, hx, hx1⟩ := Option.map_eq_some_iff.1 hw
  simp only [Prod.mk.injEq] at hx1
  obtain ⟨rfl, rfl⟩ := hx1
  exact OpenSpec.preRow_of_cond 8 hx (by kernel_rfl) (fun k hk => by cases hk) (by kernel_rfl) (laid_met os _)

set_option maxRecDepth 100000 in
theorem lifted (os : Os) (started : os.Started) (H : Type) (enc : TypeId × Value → H) (F : Stop.Interp) :
    ReturnsInHanded {} Tryd.checked os 10 .any ((OpenSpec.ofChange Rows.calendarNextSpec).preRow enc Tryd.prog Tryd.f10 Rows.calendarNextRow.domain false Rows.calendarNextRow.laid) (((OpenSpec.ofChange Rows.calendarNextSpec).at F).post enc Tryd.prog Tryd.f10 false true false false) := by
  refine returnsInHanded_of_row (C := Tryd.checked) (s := (OpenSpec.ofChange Rows.calendarNextSpec)) own started (by kernel_rfl) Tryd.func10
    (witness_row_atRef (enc := enc) (C := Tryd.checked) false (laidWorld os) #[.int .i64 0] rfl (by kernel_rfl) (by kernel_rfl) (by kernel_rfl) (witness_row os enc)) ?_
  intro W base args ds gs before hval hW _ _ hsz hL _ _
  exact contract H enc W base args ds gs before hval hW hsz hL

theorem row : Rows.CalendarNextSaid :=
  OpenClaim.holds_of_cond 10 Tryd.f10 rfl rfl rfl rfl rfl rfl rfl ⟨rfl, rfl, rfl, rfl, rfl⟩ rfl rfl rfl rfl rfl (by kernel_rfl) Tryd.func10 (by kernel_rfl)
    (of_decide_eq_true (by kernel_rfl)) (by unfold Func.isWrapper; rw [if_neg (of_decide_eq_false (by kernel_rfl))]; exact ⟨rfl, rfl⟩)
    (fun os started H enc _ F0 => by rw [OpenClaim.pre_eq_preRow]; exact lifted os started H enc F0)

/-- No parameter wants a stand-in; the program's own looks are off. -/
theorem plain (f : FuncId) (fn : Func) (hf : Tryd.pinned.checked.prog.funcNamed "pentaglot/pentaglotlaw17.CalendarNext" = some f) (hfn : Tryd.pinned.checked.prog.funcs[f]? = some fn) :
    false = Tryd.pinned.checked.prog.looks [] ∧ ∀ (j : Nat) t, fn.params[j]? = some t → Tryd.pinned.checked.prog.wantsStandIn t = false := by
  obtain rfl : f = 10 := Option.some.inj ((show Tryd.prog.funcNamed "pentaglot/pentaglotlaw17.CalendarNext" = some 10 by kernel_rfl).symm.trans hf) |>.symm
  obtain rfl : fn = Tryd.f10 := (Option.some.inj (Tryd.func10.symm.trans hfn)).symm
  refine ⟨by kernel_rfl, fun j t ht => ?_⟩
  rw [Tryd.params10] at ht
  have hm : t = 3 := by simpa using Array.mem_of_getElem? ht
  rcases hm with rfl
  · exact (show Tryd.prog.wantsStandIn 3 = false by kernel_rfl)

theorem proved : Rows.CalendarNextCardSaid :=
  Claim7.holds_tied_plain_at .later [] _ _ _ _ row (fun _ h => by cases h) (by kernel_rfl) (fun _ h => by cases h) calendarNext_row_tie rfl ⟨rfl, rfl⟩ (by kernel_rfl) rfl plain (by kernel_rfl)
#print axioms proved
end Go.Proofs.YtdeojpmimhagjaaDoor.lawCNext
