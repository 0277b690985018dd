/-
  The date of the next day is the next day of the same month, or else the first day of the next month of the year, or else the first day of the next year: the law LunisolarFollows returns true. (a tied card: pruned copy of the program; the table of the months' lengths holds what its text lays).
-/
import Derived.Test.YtdeojpmimhagjabDoorLunFrame
import Derived.Test.YtdeojpmimhagjabDoorLunAwake
import Derived.Test.YtdeojpmimhagjabDoorLunRef
import Derived.Test.YtdeojpmimhagjabDoorCards
import Derived.Test.YtdeojpmimhagjabDoorTie
import Derived.Deep.DeepHandedRow
import Derived.Deep.DeepWitnessRowRef
import Derived.SevenTiedAt
namespace Go.Proofs.YtdeojpmimhagjabDoor.lawNFollows
open Go.ChangeShapes Go.WideShapes Go.ChangeAt Go.RowKit
open LunPlain

theorem ten_aft {W0 w1 w2 : World} {p q : Nat} {v0 v1 v2 v3 v4 u0 u1 u2 u3 u4 : Value} (h : Aft W0 w1 ∧ (w1.cell? ⟨p, 0, none⟩ = some v0 ∧ w1.cell? ⟨p, 1, none⟩ = some v1 ∧ w1.cell? ⟨p, 2, none⟩ = some v2 ∧ w1.cell? ⟨p, 3, none⟩ = some v3 ∧ w1.cell? ⟨p, 4, none⟩ = some v4 ∧ w1.cell? ⟨q, 0, none⟩ = some u0 ∧ w1.cell? ⟨q, 1, none⟩ = some u1 ∧ w1.cell? ⟨q, 2, none⟩ = some u2 ∧ w1.cell? ⟨q, 3, none⟩ = some u3 ∧ w1.cell? ⟨q, 4, none⟩ = some u4)) (k : Aft w1 w2) :
    Aft W0 w2 ∧ w2.cell? ⟨p, 0, none⟩ = some v0 ∧ w2.cell? ⟨p, 1, none⟩ = some v1 ∧ w2.cell? ⟨p, 2, none⟩ = some v2 ∧ w2.cell? ⟨p, 3, none⟩ = some v3 ∧ w2.cell? ⟨p, 4, none⟩ = some v4 ∧ w2.cell? ⟨q, 0, none⟩ = some u0 ∧ w2.cell? ⟨q, 1, none⟩ = some u1 ∧ w2.cell? ⟨q, 2, none⟩ = some u2 ∧ w2.cell? ⟨q, 3, none⟩ = some u3 ∧ w2.cell? ⟨q, 4, none⟩ = some u4 := by
  obtain ⟨h0, a0, a1, a2, a3, a4, b0, b1, b2, b3, b4⟩ := h
  exact ⟨h0.trans k, k.cell a0, k.cell a1, k.cell a2, k.cell a3, k.cell a4, k.cell b0, k.cell b1, k.cell b2, k.cell b3, k.cell b4⟩
theorem mo_zero (b : Bool) : mo b 0 = 1 ∧ ml b 0 = false := by cases b <;> decide
theorem nmN_pos (b : Bool) : 0 < nmN b := by cases b <;> decide

set_option maxRecDepth 100000 in
set_option maxHeartbeats 3200000 in
theorem walk (n : Int) (w : World) (ht : Tab w) (_ : (Lit.int .i64 n).wf = true) :
    Calls Tryd.prog 10 #[.int .i64 n] w (BoolPost w true) := by
  by_cases h0 : n < 0
  · go_enter Tryd.func10, Tryd.ntmps10
    go_wp2_with fail
    refine (awake_t _ (ht.aft (Aft.refl w))).mono ?_
    rintro e v1 ⟨rfl, N1⟩
    have A2 := (Aft.refl w).trans N1
    go_wp2
    go_ret
    exact ⟨by first | rfl | simp, A2⟩
  · by_cases h1 : 999999 ≤ n
    · go_enter Tryd.func10, Tryd.ntmps10
      go_wp2_with fail
      refine (awake_t _ (ht.aft (Aft.refl w))).mono ?_
      rintro e v1 ⟨rfl, N1⟩
      have A2 := (Aft.refl w).trans N1
      go_wp2
      go_ret
      exact ⟨by first | rfl | simp, A2⟩
    · go_enter Tryd.func10, Tryd.ntmps10
      go_wp2_with fail
      refine (awake_t _ (ht.aft (Aft.refl w))).mono ?_
      rintro e v1 ⟨rfl, N1⟩
      have A2 := (Aft.refl w).trans N1
      go_wp2_with fail
      refine (Date_t n _ (ht.aft A2)).mono ?_
      rintro e v2 ⟨c1, y1, m1, d1, l1, rfl, hs, N3⟩
      obtain ⟨_, _, rfl, hok1, hn1⟩ : 0 ≤ n ∧ n ≤ 999999 ∧ c1 = 2 ∧ okD 2 y1 m1 l1 d1 ∧ num y1 m1 l1 d1 = n := by
        rcases hs with h | h
        · exact h
        · exact absurd h.1 (by omega)
      rw [err_in (n := n) (by omega) (by omega)]
      clear hs
      have HOK1 := Lib.hid hok1
      have HN1 := Lib.hid hn1
      have hb1 : 0 ≤ y1 ∧ y1 ≤ 999999 ∧ 1 ≤ d1 ∧ d1 ≤ 30 := by
        have q0 := hok1.in_.2.1.1
        have := hok1.1; have := hok1.in_.2.2; have := md_bd m1 l1; have := (num_range hok1).1; have := ys_ge q0
        omega
      obtain ⟨q0, q1, q2, q3⟩ := hb1
      clear hok1 hn1
      have A4 := A2.trans N3
      have b5 := BoxD.new v2 2 y1 m1 d1 l1
      have A6 := A4.alloc (.cells #[.int .i64 2, .int .i64 y1, .int .i64 m1, .int .i64 d1, .bool l1] 34)
      go_wp2_with fail
      refine (Date_t (n + 1) _ (ht.aft A6)).mono ?_
      rintro e v3 ⟨c2, y2, m2, d2, l2, rfl, hs, N7⟩
      obtain ⟨_, _, rfl, hok2, hn2⟩ : 0 ≤ n + 1 ∧ n + 1 ≤ 999999 ∧ c2 = 2 ∧ okD 2 y2 m2 l2 d2 ∧ num y2 m2 l2 d2 = n + 1 := by
        rcases hs with h | h
        · exact h
        · exact absurd h.1 (by omega)
      rw [err_in (n := n + 1) (by omega) (by omega)]
      clear hs
      have hnx := num_next HOK1.out hok2 (by rw [hn2, HN1.out])
      clear hok2 hn2
      have A8 := A6.trans N7
      have b9 := b5.aft N7
      clear b5
      have b10 := b9.aft ((Aft.refl v3).alloc (.cells #[.int .i64 2, .int .i64 y2, .int .i64 m2, .int .i64 d2, .bool l2] 34))
      clear b9
      have b11 := BoxD.new v3 2 y2 m2 d2 l2
      have A12 := A8.alloc (.cells #[.int .i64 2, .int .i64 y2, .int .i64 m2, .int .i64 d2, .bool l2] 34)
      have HMD := Lib.hid (fun w ht => MonthDays_any 2 y1 m1 d1 l1 w ht)
      rw [mdV_in HOK1.out.in_.2.1] at HMD
      have hmb := md_bd m1 l1
      obtain ⟨k0, k1, k2, kix, kmo, kml, _⟩ := ok_ix HOK1.out.in_.2.1
      rw [kix] at hnx
      obtain ⟨k, rfl⟩ : ∃ k : Nat, k0 = (k : Int) := ⟨k0.toNat, by omega⟩
      have HT := Lib.hid (ht.aft A12)
      have hsz := A4.size
      have hs2 := N7.size
      rw [World.size_alloc] at hs2
      have hne : ¬ v2.heap.size = v3.heap.size := by omega
      have hne2 : ¬ v3.heap.size = v2.heap.size := by omega
      clear HOK1 HN1 kix
      rcases hnx with ⟨e0, ey, em, el, ed⟩ | ⟨e0, e1, ey, em, el, ed⟩ | ⟨e0, e1, ey, em, el, ed⟩
      · have ey' := ey.symm
        subst ey'
        have em' := em.symm
        subst em'
        have el' := el.symm
        subst el'
        subst ed
        have hq := deq_refl 2 y1 m1 (d1 + 1) l1
        generalize md m1 l1 = MD at *
        clear kmo kml k1 k2
        obtain ⟨c0, c1, c2, c3, c4⟩ := b10.five
        obtain ⟨g0, g1, g2, g3, g4⟩ := b11.five
        go_wp2
        refine wp_region_held_drew (S := fun w' => Aft (v3.alloc (.cells #[.int .i64 2, .int .i64 y1, .int .i64 m1, .int .i64 (d1 + 1), .bool l1] 34)) w' ∧ w'.cell? ⟨v2.heap.size, 0, none⟩ = some (.int .i64 2) ∧ w'.cell? ⟨v2.heap.size, 1, none⟩ = some (.int .i64 y1) ∧ w'.cell? ⟨v2.heap.size, 2, none⟩ = some (.int .i64 m1) ∧ w'.cell? ⟨v2.heap.size, 3, none⟩ = some (.int .i64 d1) ∧ w'.cell? ⟨v2.heap.size, 4, none⟩ = some (.bool l1) ∧ w'.cell? ⟨v3.heap.size, 0, none⟩ = some (.int .i64 2) ∧ w'.cell? ⟨v3.heap.size, 1, none⟩ = some (.int .i64 y1) ∧ w'.cell? ⟨v3.heap.size, 2, none⟩ = some (.int .i64 m1) ∧ w'.cell? ⟨v3.heap.size, 3, none⟩ = some (.int .i64 (d1 + 1)) ∧ w'.cell? ⟨v3.heap.size, 4, none⟩ = some (.bool l1)) (by kernel_rfl) (⟨Below.drew (Aft.refl _), c0, c1, c2, c3, c4, g0, g1, g2, g3, g4⟩) (fun hHeld => ?_)
        refine take_on (i := 0) (v := ?v23) rfl (by kernel_rfl) (by kernel_rfl) (by kernel_rfl) (fun _ _ _ h => h) (by rfl) (by assumption) ?y23 ?_
        case y23 => (intro w hSw; (try dsimp only at hSw); go_simp; (try with_reducible rfl))
        try simp only [Act.put, List.setIfInBounds_toArray, List.set_cons_zero, List.set_cons_succ]
        refine take_on (i := 1) (v := ?v24) rfl (by kernel_rfl) (by kernel_rfl) (by kernel_rfl) (fun _ _ _ h => h) (by rfl) (by assumption) ?y24 ?_
        case y24 => (intro w hSw; (try dsimp only at hSw); go_simp; (try with_reducible rfl))
        try simp only [Act.put, List.setIfInBounds_toArray, List.set_cons_zero, List.set_cons_succ]
        refine take_on (i := 2) (v := ?v25) rfl (by kernel_rfl) (by kernel_rfl) (by kernel_rfl) (fun _ _ _ h => h) (by rfl) (by assumption) ?y25 ?_
        case y25 => (intro w hSw; (try dsimp only at hSw); go_simp; (try with_reducible rfl))
        try simp only [Act.put, List.setIfInBounds_toArray, List.set_cons_zero, List.set_cons_succ]
        refine one_ready (i := 3) rfl (by kernel_rfl) (by rfl) (fun K hK => ?_)
        go_simp
        go_at_call 21
        refine (HMD.out _ (HT.out.aft (by first | exact hHeld.1 | exact Below.drew hHeld.1))).mono ?_
        rintro e' w' ⟨rfl, N9⟩
        have hh : (fun w' => Aft (v3.alloc (.cells #[.int .i64 2, .int .i64 y1, .int .i64 m1, .int .i64 (d1 + 1), .bool l1] 34)) w' ∧ w'.cell? ⟨v2.heap.size, 0, none⟩ = some (.int .i64 2) ∧ w'.cell? ⟨v2.heap.size, 1, none⟩ = some (.int .i64 y1) ∧ w'.cell? ⟨v2.heap.size, 2, none⟩ = some (.int .i64 m1) ∧ w'.cell? ⟨v2.heap.size, 3, none⟩ = some (.int .i64 d1) ∧ w'.cell? ⟨v2.heap.size, 4, none⟩ = some (.bool l1) ∧ w'.cell? ⟨v3.heap.size, 0, none⟩ = some (.int .i64 2) ∧ w'.cell? ⟨v3.heap.size, 1, none⟩ = some (.int .i64 y1) ∧ w'.cell? ⟨v3.heap.size, 2, none⟩ = some (.int .i64 m1) ∧ w'.cell? ⟨v3.heap.size, 3, none⟩ = some (.int .i64 (d1 + 1)) ∧ w'.cell? ⟨v3.heap.size, 4, none⟩ = some (.bool l1)) w' := ten_aft hHeld (Aft.trans (by first | exact Aft.refl _ | exact Below.drew (Aft.refl _)) N9)
        clear N9
        try go_simp
        refine hK.out _ _ (by first | exact hh | exact ⟨Below.drew hh.1, hh.2⟩ | exact hHeld) (fun hHeld => ?_)
        clear hK K
        try simp only [Act.put, List.setIfInBounds_toArray, List.set_cons_zero, List.set_cons_succ]
        refine take_on (i := 4) (v := ?v27) rfl (by kernel_rfl) (by kernel_rfl) (by kernel_rfl) (fun _ _ _ h => h) (by rfl) (by assumption) ?y27 ?_
        case y27 => (intro w hSw; (try dsimp only at hSw); go_simp; (try with_reducible rfl))
        try simp only [Act.put, List.setIfInBounds_toArray, List.set_cons_zero, List.set_cons_succ]
        refine wpAnyH_done (by kernel_rfl) ?_ _
        have ba2 := b10.aft hHeld.1
        have f0 := ba2.frozen 0; have f1 := ba2.frozen 1; have f2 := ba2.frozen 2; have f3 := ba2.frozen 3; have f4 := ba2.frozen 4
        have AZ := A12.trans hHeld.1
        obtain ⟨_, x0, x1, x2, x3, x4, z0, z1, z2, z3, z4⟩ := hHeld
        clear c0 c1 c2 c3 c4 g0 g1 g2 g3 g4 ba2 b10 b11
        go_wp2
        go_ret
        exact ⟨by first | rfl | simp, AZ.setCell (show w.heap.size ≤ v2.heap.size by omega) _⟩
      · have ey' := ey.symm
        subst ey'
        have HE1 := Lib.hid em
        have HE2 := Lib.hid el
        subst ed
        clear em el
        generalize hM2 : m2 = M2 at *
        generalize hL2 : l2 = L2 at *
        clear hM2 hL2
        have hq := deq_refl 2 y1 M2 1 L2
        have hnl : ¬ d1 < md m1 l1 := by omega
        clear e0
        generalize md m1 l1 = MD at *
        have HM := Lib.hid (fun w => Months_any y1 w)
        have HNE := Lib.hid (fun (j : Nat) hj h => ent_ne (b := leapB y1) (j := j) (k := k) hj k2 h)
        have hkk := nmN_nm (leapB y1)
        have hnb := nm_bd (leapB y1)
        obtain ⟨c0, c1, c2, c3, c4⟩ := b10.five
        obtain ⟨g0, g1, g2, g3, g4⟩ := b11.five
        go_wp2
        refine wp_region_held_drew (S := fun w' => Aft (v3.alloc (.cells #[.int .i64 2, .int .i64 y1, .int .i64 M2, .int .i64 1, .bool L2] 34)) w' ∧ w'.cell? ⟨v2.heap.size, 0, none⟩ = some (.int .i64 2) ∧ w'.cell? ⟨v2.heap.size, 1, none⟩ = some (.int .i64 y1) ∧ w'.cell? ⟨v2.heap.size, 2, none⟩ = some (.int .i64 m1) ∧ w'.cell? ⟨v2.heap.size, 3, none⟩ = some (.int .i64 d1) ∧ w'.cell? ⟨v2.heap.size, 4, none⟩ = some (.bool l1) ∧ w'.cell? ⟨v3.heap.size, 0, none⟩ = some (.int .i64 2) ∧ w'.cell? ⟨v3.heap.size, 1, none⟩ = some (.int .i64 y1) ∧ w'.cell? ⟨v3.heap.size, 2, none⟩ = some (.int .i64 M2) ∧ w'.cell? ⟨v3.heap.size, 3, none⟩ = some (.int .i64 1) ∧ w'.cell? ⟨v3.heap.size, 4, none⟩ = some (.bool L2)) (by kernel_rfl) (⟨Below.drew (Aft.refl _), c0, c1, c2, c3, c4, g0, g1, g2, g3, g4⟩) (fun hHeld => ?_)
        refine take_on (i := 0) (v := ?v28) rfl (by kernel_rfl) (by kernel_rfl) (by kernel_rfl) (fun _ _ _ h => h) (by rfl) (by assumption) ?y28 ?_
        case y28 => (intro w hSw; (try dsimp only at hSw); go_simp; (try with_reducible rfl))
        try simp only [Act.put, List.setIfInBounds_toArray, List.set_cons_zero, List.set_cons_succ]
        refine take_on (i := 1) (v := ?v29) rfl (by kernel_rfl) (by kernel_rfl) (by kernel_rfl) (fun _ _ _ h => h) (by rfl) (by assumption) ?y29 ?_
        case y29 => (intro w hSw; (try dsimp only at hSw); go_simp; (try with_reducible rfl))
        try simp only [Act.put, List.setIfInBounds_toArray, List.set_cons_zero, List.set_cons_succ]
        refine take_on (i := 2) (v := ?v30) rfl (by kernel_rfl) (by kernel_rfl) (by kernel_rfl) (fun _ _ _ h => h) (by rfl) (by assumption) ?y30 ?_
        case y30 => (intro w hSw; (try dsimp only at hSw); go_simp; (try with_reducible rfl))
        try simp only [Act.put, List.setIfInBounds_toArray, List.set_cons_zero, List.set_cons_succ]
        refine one_ready (i := 3) rfl (by kernel_rfl) (by rfl) (fun K hK => ?_)
        go_simp
        go_at_call 21
        refine (HMD.out _ (HT.out.aft (by first | exact hHeld.1 | exact Below.drew hHeld.1))).mono ?_
        rintro e' w' ⟨rfl, N9⟩
        have hh : (fun w' => Aft (v3.alloc (.cells #[.int .i64 2, .int .i64 y1, .int .i64 M2, .int .i64 1, .bool L2] 34)) w' ∧ w'.cell? ⟨v2.heap.size, 0, none⟩ = some (.int .i64 2) ∧ w'.cell? ⟨v2.heap.size, 1, none⟩ = some (.int .i64 y1) ∧ w'.cell? ⟨v2.heap.size, 2, none⟩ = some (.int .i64 m1) ∧ w'.cell? ⟨v2.heap.size, 3, none⟩ = some (.int .i64 d1) ∧ w'.cell? ⟨v2.heap.size, 4, none⟩ = some (.bool l1) ∧ w'.cell? ⟨v3.heap.size, 0, none⟩ = some (.int .i64 2) ∧ w'.cell? ⟨v3.heap.size, 1, none⟩ = some (.int .i64 y1) ∧ w'.cell? ⟨v3.heap.size, 2, none⟩ = some (.int .i64 M2) ∧ w'.cell? ⟨v3.heap.size, 3, none⟩ = some (.int .i64 1) ∧ w'.cell? ⟨v3.heap.size, 4, none⟩ = some (.bool L2)) w' := ten_aft hHeld (Aft.trans (by first | exact Aft.refl _ | exact Below.drew (Aft.refl _)) N9)
        clear N9
        try go_simp
        refine hK.out _ _ (by first | exact hh | exact ⟨Below.drew hh.1, hh.2⟩ | exact hHeld) (fun hHeld => ?_)
        clear hK K
        try simp only [Act.put, List.setIfInBounds_toArray, List.set_cons_zero, List.set_cons_succ]
        refine take_on (i := 4) (v := ?v32) rfl (by kernel_rfl) (by kernel_rfl) (by kernel_rfl) (fun _ _ _ h => h) (by rfl) (by assumption) ?y32 ?_
        case y32 => (intro w hSw; (try dsimp only at hSw); go_simp; (try with_reducible rfl))
        try simp only [Act.put, List.setIfInBounds_toArray, List.set_cons_zero, List.set_cons_succ]
        refine wpAnyH_done (by kernel_rfl) ?_ _
        have AZ := A12.trans hHeld.1
        obtain ⟨_, x0, x1, x2, x3, x4, z0, z1, z2, z3, z4⟩ := hHeld
        clear c0 c1 c2 c3 c4 g0 g1 g2 g3 g4 b10 b11 HMD
        go_wp2_with fail
        refine (HM.out _).mono ?_
        rintro e' w3 ⟨A, cp, rfl, hms, N3⟩
        rw [if_neg (show ¬ y1 < 0 by omega)] at hms ⊢
        have X0 := Lib.hid (N3.cell x0)
        have X1 := Lib.hid (N3.cell x1)
        have X2 := Lib.hid (N3.cell x2)
        have X3 := Lib.hid (N3.cell x3)
        have X4 := Lib.hid (N3.cell x4)
        have Z0 := Lib.hid (N3.cell z0)
        have Z1 := Lib.hid (N3.cell z1)
        have Z2 := Lib.hid (N3.cell z2)
        have Z3 := Lib.hid (N3.cell z3)
        have Z4 := Lib.hid (N3.cell z4)
        have AM := AZ.trans N3
        have HMS := Lib.hid hms
        have hcp := hms.le
        have hcm := hms.cmax
        have HKK := Lib.hid hkk
        have hnmle : nmN (leapB y1) ≤ 13 := by omega
        have hkn : k < nmN (leapB y1) := by omega
        have hk1 : k + 1 < nmN (leapB y1) := by omega
        clear hms hkk N3 x0 x1 x2 x3 x4 z0 z1 z2 z3 z4 e1 HM
        generalize hnn : nmN (leapB y1) = NN at *
        clear hnn
        go_wp2
        generalize hW3 : w3 = W3 at *
        clear hW3
        go_loopw [7, 8] (fun v i wr => v = .slice A NN cp ∧ ∃ j : Nat, j ≤ k ∧ i = .int .i64 (j : Int) ∧ Aft W3 wr) (fun _ i _ => NN - (intOf i).toNat)
        case atStart => exact ⟨rfl, 0, Nat.zero_le _, rfl, Aft.refl _⟩
        case round =>
          obtain ⟨rfl, j, hj, rfl, haf⟩ := hrel
          have hjN : j < NN := by omega
          obtain ⟨bl, off, rfl, d0, d1', d2, d3, d4⟩ := (HMS.out.aft haf).cells j hjN
          have hji : (j : Int) < (NN : Int) := by omega
          have hjn : (j : Int) < nm (leapB y1) := by have := HKK.out; omega
          have p0 := haf.cell X0.out
          have p1 := haf.cell X1.out
          have p2 := haf.cell X2.out
          have p3 := haf.cell X3.out
          have p4 := haf.cell X4.out
          by_cases hjk : j = k
          · subst hjk
            have hm1 : (mo (leapB y1) j == m1) = true := by simp [kmo]
            have hl1 : (ml (leapB y1) j == l1) = true := by simp [kml]
            have s0 := haf.cell Z0.out
            have s1 := haf.cell Z1.out
            have s2 := haf.cell Z2.out
            have s3 := haf.cell Z3.out
            have s4 := haf.cell Z4.out
            obtain ⟨bl2, off2, hA2, t0, t1, t2, t3, t4⟩ := (HMS.out.aft haf).cells (j + 1) hk1
            obtain ⟨rfl, rfl⟩ : bl = bl2 ∧ off = off2 := by simpa using hA2
            rw [show ((j + 1 : Nat) : Int) = (j : Int) + 1 by omega, ← HE1.out] at t2
            rw [show ((j + 1 : Nat) : Int) = (j : Int) + 1 by omega, ← HE2.out] at t4
            have hki : (j : Int) + 1 < (NN : Int) := by omega
            have hw : IntKind.i64.wrap ((j : Int) + 1) = (j : Int) + 1 := IntWalk.i64_in _ (by omega)
            have hw2 : ((j : Int) + 1).toNat = j + 1 := by omega
            have hw3 : 0 ≤ (j : Int) + 1 := by omega
            clear kmo kml
            generalize mo (leapB y1) j = MM at *
            generalize ml (leapB y1) j = LL at *
            go_wp2
            refine wp_region_held_drew (S := fun w' => Aft wr w' ∧ w'.cell? ⟨bl, off + j * 5, none⟩ = some (.int .i64 2) ∧ w'.cell? ⟨bl, off + j * 5 + 1, none⟩ = some (.int .i64 y1) ∧ w'.cell? ⟨bl, off + j * 5 + 2, none⟩ = some (.int .i64 MM) ∧ w'.cell? ⟨bl, off + j * 5 + 3, none⟩ = some (.int .i64 1) ∧ w'.cell? ⟨bl, off + j * 5 + 4, none⟩ = some (.bool LL) ∧ w'.cell? ⟨v2.heap.size, 0, none⟩ = some (.int .i64 2) ∧ w'.cell? ⟨v2.heap.size, 1, none⟩ = some (.int .i64 y1) ∧ w'.cell? ⟨v2.heap.size, 2, none⟩ = some (.int .i64 m1) ∧ w'.cell? ⟨v2.heap.size, 3, none⟩ = some (.int .i64 d1) ∧ w'.cell? ⟨v2.heap.size, 4, none⟩ = some (.bool l1)) (by kernel_rfl) (⟨Below.drew (Aft.refl _), d0, d1', d2, d3, d4, p0, p1, p2, p3, p4⟩) (fun hHeld => ?_)
            refine take_on (i := 0) (v := ?v33) rfl (by kernel_rfl) (by kernel_rfl) (by kernel_rfl) (fun _ _ _ h => h) (by rfl) (by assumption) ?y33 ?_
            case y33 => (intro w hSw; (try dsimp only at hSw); go_simp; (try with_reducible rfl))
            try simp only [Act.put, List.setIfInBounds_toArray, List.set_cons_zero, List.set_cons_succ]
            refine take_on (i := 1) (v := ?v34) rfl (by kernel_rfl) (by kernel_rfl) (by kernel_rfl) (fun _ _ _ h => h) (by rfl) (by assumption) ?y34 ?_
            case y34 => (intro w hSw; (try dsimp only at hSw); go_simp; (try with_reducible rfl))
            try simp only [Act.put, List.setIfInBounds_toArray, List.set_cons_zero, List.set_cons_succ]
            refine take_on (i := 2) (v := ?v35) rfl (by kernel_rfl) (by kernel_rfl) (by kernel_rfl) (fun _ _ _ h => h) (by rfl) (by assumption) ?y35 ?_
            case y35 => (intro w hSw; (try dsimp only at hSw); go_simp; (try with_reducible rfl))
            try simp only [Act.put, List.setIfInBounds_toArray, List.set_cons_zero, List.set_cons_succ]
            refine take_on (i := 3) (v := ?v36) rfl (by kernel_rfl) (by kernel_rfl) (by kernel_rfl) (fun _ _ _ h => h) (by rfl) (by assumption) ?y36 ?_
            case y36 => (intro w hSw; (try dsimp only at hSw); go_simp; (try with_reducible rfl))
            try simp only [Act.put, List.setIfInBounds_toArray, List.set_cons_zero, List.set_cons_succ]
            refine take_on (i := 4) (v := ?v37) rfl (by kernel_rfl) (by kernel_rfl) (by kernel_rfl) (fun _ _ _ h => h) (by rfl) (by assumption) ?y37 ?_
            case y37 => (intro w hSw; (try dsimp only at hSw); go_simp; (try with_reducible rfl))
            try simp only [Act.put, List.setIfInBounds_toArray, List.set_cons_zero, List.set_cons_succ]
            refine take_on (i := 5) (v := ?v38) rfl (by kernel_rfl) (by kernel_rfl) (by kernel_rfl) (fun _ _ _ h => h) (by rfl) (by assumption) ?y38 ?_
            case y38 => (intro w hSw; (try dsimp only at hSw); go_simp; (try with_reducible rfl))
            try simp only [Act.put, List.setIfInBounds_toArray, List.set_cons_zero, List.set_cons_succ]
            refine take_on (i := 6) (v := ?v39) rfl (by kernel_rfl) (by kernel_rfl) (by kernel_rfl) (fun _ _ _ h => h) (by rfl) (by assumption) ?y39 ?_
            case y39 => (intro w hSw; (try dsimp only at hSw); go_simp; (try with_reducible rfl))
            try simp only [Act.put, List.setIfInBounds_toArray, List.set_cons_zero, List.set_cons_succ]
            refine take_on (i := 7) (v := ?v40) rfl (by kernel_rfl) (by kernel_rfl) (by kernel_rfl) (fun _ _ _ h => h) (by rfl) (by assumption) ?y40 ?_
            case y40 => (intro w hSw; (try dsimp only at hSw); go_simp; (try with_reducible rfl))
            try simp only [Act.put, List.setIfInBounds_toArray, List.set_cons_zero, List.set_cons_succ]
            refine take_on (i := 8) (v := ?v41) rfl (by kernel_rfl) (by kernel_rfl) (by kernel_rfl) (fun _ _ _ h => h) (by rfl) (by assumption) ?y41 ?_
            case y41 => (intro w hSw; (try dsimp only at hSw); go_simp; (try with_reducible rfl))
            try simp only [Act.put, List.setIfInBounds_toArray, List.set_cons_zero, List.set_cons_succ]
            refine take_on (i := 9) (v := ?v42) rfl (by kernel_rfl) (by kernel_rfl) (by kernel_rfl) (fun _ _ _ h => h) (by rfl) (by assumption) ?y42 ?_
            case y42 => (intro w hSw; (try dsimp only at hSw); go_simp; (try with_reducible rfl))
            try simp only [Act.put, List.setIfInBounds_toArray, List.set_cons_zero, List.set_cons_succ]
            refine take_on (i := 10) (v := ?v43) rfl (by kernel_rfl) (by kernel_rfl) (by kernel_rfl) (fun _ _ _ h => h) (by rfl) (by assumption) ?y43 ?_
            case y43 => (intro w hSw; (try dsimp only at hSw); go_simp; (try with_reducible rfl))
            try simp only [Act.put, List.setIfInBounds_toArray, List.set_cons_zero, List.set_cons_succ]
            refine take_on (i := 11) (v := ?v44) rfl (by kernel_rfl) (by kernel_rfl) (by kernel_rfl) (fun _ _ _ h => h) (by rfl) (by assumption) ?y44 ?_
            case y44 => (intro w hSw; (try dsimp only at hSw); go_simp; (try with_reducible rfl))
            try simp only [Act.put, List.setIfInBounds_toArray, List.set_cons_zero, List.set_cons_succ]
            refine take_on (i := 12) (v := ?v45) rfl (by kernel_rfl) (by kernel_rfl) (by kernel_rfl) (fun _ _ _ h => h) (by rfl) (by assumption) ?y45 ?_
            case y45 => (intro w hSw; (try dsimp only at hSw); go_simp; (try with_reducible rfl))
            try simp only [Act.put, List.setIfInBounds_toArray, List.set_cons_zero, List.set_cons_succ]
            refine take_on (i := 13) (v := ?v46) rfl (by kernel_rfl) (by kernel_rfl) (by kernel_rfl) (fun _ _ _ h => h) (by rfl) (by assumption) ?y46 ?_
            case y46 => (intro w hSw; (try dsimp only at hSw); go_simp; (try with_reducible rfl))
            try simp only [Act.put, List.setIfInBounds_toArray, List.set_cons_zero, List.set_cons_succ]
            refine take_on (i := 14) (v := ?v47) rfl (by kernel_rfl) (by kernel_rfl) (by kernel_rfl) (fun _ _ _ h => h) (by rfl) (by assumption) ?y47 ?_
            case y47 => (intro w hSw; (try dsimp only at hSw); go_simp; (try with_reducible rfl))
            try simp only [Act.put, List.setIfInBounds_toArray, List.set_cons_zero, List.set_cons_succ]
            refine take_on (i := 15) (v := ?v48) rfl (by kernel_rfl) (by kernel_rfl) (by kernel_rfl) (fun _ _ _ h => h) (by rfl) (by assumption) ?y48 ?_
            case y48 => (intro w hSw; (try dsimp only at hSw); go_simp; (try with_reducible rfl))
            try simp only [Act.put, List.setIfInBounds_toArray, List.set_cons_zero, List.set_cons_succ]
            refine take_on (i := 16) (v := ?v49) rfl (by kernel_rfl) (by kernel_rfl) (by kernel_rfl) (fun _ _ _ h => h) (by rfl) (by assumption) ?y49 ?_
            case y49 => (intro w hSw; (try dsimp only at hSw); go_simp; (try with_reducible rfl))
            try simp only [Act.put, List.setIfInBounds_toArray, List.set_cons_zero, List.set_cons_succ]
            refine take_on (i := 17) (v := ?v50) rfl (by kernel_rfl) (by kernel_rfl) (by kernel_rfl) (fun _ _ _ h => h) (by rfl) (by assumption) ?y50 ?_
            case y50 => (intro w hSw; (try dsimp only at hSw); go_simp; (try with_reducible rfl))
            try simp only [Act.put, List.setIfInBounds_toArray, List.set_cons_zero, List.set_cons_succ]
            refine wpAnyH_done (by kernel_rfl) ?_ _
            have AH := hHeld.1
            clear hHeld
            go_wp2
            refine wp_region_held_drew (S := fun w' => Aft wr w' ∧ w'.cell? ⟨bl, off + (j + 1) * 5, none⟩ = some (.int .i64 2) ∧ w'.cell? ⟨bl, off + (j + 1) * 5 + 1, none⟩ = some (.int .i64 y1) ∧ w'.cell? ⟨bl, off + (j + 1) * 5 + 2, none⟩ = some (.int .i64 M2) ∧ w'.cell? ⟨bl, off + (j + 1) * 5 + 3, none⟩ = some (.int .i64 1) ∧ w'.cell? ⟨bl, off + (j + 1) * 5 + 4, none⟩ = some (.bool L2) ∧ w'.cell? ⟨v3.heap.size, 0, none⟩ = some (.int .i64 2) ∧ w'.cell? ⟨v3.heap.size, 1, none⟩ = some (.int .i64 y1) ∧ w'.cell? ⟨v3.heap.size, 2, none⟩ = some (.int .i64 M2) ∧ w'.cell? ⟨v3.heap.size, 3, none⟩ = some (.int .i64 1) ∧ w'.cell? ⟨v3.heap.size, 4, none⟩ = some (.bool L2)) (by kernel_rfl) (⟨by first | exact Below.drew AH | exact Below.drew (Below.drew (Aft.refl _)), t0, t1, t2, t3, t4, s0, s1, s2, s3, s4⟩) (fun hHeld => ?_)
            refine take_on (i := 0) (v := ?v51) rfl (by kernel_rfl) (by kernel_rfl) (by kernel_rfl) (fun _ _ _ h => h) (by rfl) (by assumption) ?y51 ?_
            case y51 => (intro w hSw; (try dsimp only at hSw); go_simp; (try with_reducible rfl))
            try simp only [Act.put, List.setIfInBounds_toArray, List.set_cons_zero, List.set_cons_succ]
            refine take_on (i := 1) (v := ?v52) rfl (by kernel_rfl) (by kernel_rfl) (by kernel_rfl) (fun _ _ _ h => h) (by rfl) (by assumption) ?y52 ?_
            case y52 => (intro w hSw; (try dsimp only at hSw); go_simp; (try with_reducible rfl))
            try simp only [Act.put, List.setIfInBounds_toArray, List.set_cons_zero, List.set_cons_succ]
            refine take_on (i := 2) (v := ?v53) rfl (by kernel_rfl) (by kernel_rfl) (by kernel_rfl) (fun _ _ _ h => h) (by rfl) (by assumption) ?y53 ?_
            case y53 => (intro w hSw; (try dsimp only at hSw); go_simp; (try with_reducible rfl))
            try simp only [Act.put, List.setIfInBounds_toArray, List.set_cons_zero, List.set_cons_succ]
            refine take_on (i := 3) (v := ?v54) rfl (by kernel_rfl) (by kernel_rfl) (by kernel_rfl) (fun _ _ _ h => h) (by rfl) (by assumption) ?y54 ?_
            case y54 => (intro w hSw; (try dsimp only at hSw); go_simp; (try with_reducible rfl))
            try simp only [Act.put, List.setIfInBounds_toArray, List.set_cons_zero, List.set_cons_succ]
            refine take_on (i := 4) (v := ?v55) rfl (by kernel_rfl) (by kernel_rfl) (by kernel_rfl) (fun _ _ _ h => h) (by rfl) (by assumption) ?y55 ?_
            case y55 => (intro w hSw; (try dsimp only at hSw); go_simp; (try with_reducible rfl))
            try simp only [Act.put, List.setIfInBounds_toArray, List.set_cons_zero, List.set_cons_succ]
            refine take_on (i := 5) (v := ?v56) rfl (by kernel_rfl) (by kernel_rfl) (by kernel_rfl) (fun _ _ _ h => h) (by rfl) (by assumption) ?y56 ?_
            case y56 => (intro w hSw; (try dsimp only at hSw); go_simp; (try with_reducible rfl))
            try simp only [Act.put, List.setIfInBounds_toArray, List.set_cons_zero, List.set_cons_succ]
            refine take_on (i := 6) (v := ?v57) rfl (by kernel_rfl) (by kernel_rfl) (by kernel_rfl) (fun _ _ _ h => h) (by rfl) (by assumption) ?y57 ?_
            case y57 => (intro w hSw; (try dsimp only at hSw); go_simp; (try with_reducible rfl))
            try simp only [Act.put, List.setIfInBounds_toArray, List.set_cons_zero, List.set_cons_succ]
            refine take_on (i := 7) (v := ?v58) rfl (by kernel_rfl) (by kernel_rfl) (by kernel_rfl) (fun _ _ _ h => h) (by rfl) (by assumption) ?y58 ?_
            case y58 => (intro w hSw; (try dsimp only at hSw); go_simp; (try with_reducible rfl))
            try simp only [Act.put, List.setIfInBounds_toArray, List.set_cons_zero, List.set_cons_succ]
            refine wpAnyH_done (by kernel_rfl) ?_ _
            go_wp2
            go_ret
            exact ⟨by first | rfl | simp, (AM.trans haf).trans hHeld.1⟩
          · have hnm := HNE.out j hjn hjk
            rw [kmo, kml] at hnm
            generalize mo (leapB y1) j = MM at *
            generalize ml (leapB y1) j = LL at *
            rcases hnm with h1 | ⟨h1, h2, _⟩
            · go_wp2
              refine wp_region_held_drew (S := fun w' => Aft wr w' ∧ w'.cell? ⟨bl, off + j * 5, none⟩ = some (.int .i64 2) ∧ w'.cell? ⟨bl, off + j * 5 + 1, none⟩ = some (.int .i64 y1) ∧ w'.cell? ⟨bl, off + j * 5 + 2, none⟩ = some (.int .i64 MM) ∧ w'.cell? ⟨bl, off + j * 5 + 3, none⟩ = some (.int .i64 1) ∧ w'.cell? ⟨bl, off + j * 5 + 4, none⟩ = some (.bool LL) ∧ w'.cell? ⟨v2.heap.size, 0, none⟩ = some (.int .i64 2) ∧ w'.cell? ⟨v2.heap.size, 1, none⟩ = some (.int .i64 y1) ∧ w'.cell? ⟨v2.heap.size, 2, none⟩ = some (.int .i64 m1) ∧ w'.cell? ⟨v2.heap.size, 3, none⟩ = some (.int .i64 d1) ∧ w'.cell? ⟨v2.heap.size, 4, none⟩ = some (.bool l1)) (by kernel_rfl) (⟨Below.drew (Aft.refl _), d0, d1', d2, d3, d4, p0, p1, p2, p3, p4⟩) (fun hHeld => ?_)
              refine take_on (i := 0) (v := ?v59) rfl (by kernel_rfl) (by kernel_rfl) (by kernel_rfl) (fun _ _ _ h => h) (by rfl) (by assumption) ?y59 ?_
              case y59 => (intro w hSw; (try dsimp only at hSw); go_simp; (try with_reducible rfl))
              try simp only [Act.put, List.setIfInBounds_toArray, List.set_cons_zero, List.set_cons_succ]
              refine take_on (i := 1) (v := ?v60) rfl (by kernel_rfl) (by kernel_rfl) (by kernel_rfl) (fun _ _ _ h => h) (by rfl) (by assumption) ?y60 ?_
              case y60 => (intro w hSw; (try dsimp only at hSw); go_simp; (try with_reducible rfl))
              try simp only [Act.put, List.setIfInBounds_toArray, List.set_cons_zero, List.set_cons_succ]
              refine take_on (i := 2) (v := ?v61) rfl (by kernel_rfl) (by kernel_rfl) (by kernel_rfl) (fun _ _ _ h => h) (by rfl) (by assumption) ?y61 ?_
              case y61 => (intro w hSw; (try dsimp only at hSw); go_simp; (try with_reducible rfl))
              try simp only [Act.put, List.setIfInBounds_toArray, List.set_cons_zero, List.set_cons_succ]
              refine take_on (i := 3) (v := ?v62) rfl (by kernel_rfl) (by kernel_rfl) (by kernel_rfl) (fun _ _ _ h => h) (by rfl) (by assumption) ?y62 ?_
              case y62 => (intro w hSw; (try dsimp only at hSw); go_simp; (try with_reducible rfl))
              try simp only [Act.put, List.setIfInBounds_toArray, List.set_cons_zero, List.set_cons_succ]
              refine take_on (i := 4) (v := ?v63) rfl (by kernel_rfl) (by kernel_rfl) (by kernel_rfl) (fun _ _ _ h => h) (by rfl) (by assumption) ?y63 ?_
              case y63 => (intro w hSw; (try dsimp only at hSw); go_simp; (try with_reducible rfl))
              try simp only [Act.put, List.setIfInBounds_toArray, List.set_cons_zero, List.set_cons_succ]
              refine take_on (i := 5) (v := ?v64) rfl (by kernel_rfl) (by kernel_rfl) (by kernel_rfl) (fun _ _ _ h => h) (by rfl) (by assumption) ?y64 ?_
              case y64 => (intro w hSw; (try dsimp only at hSw); go_simp; (try with_reducible rfl))
              try simp only [Act.put, List.setIfInBounds_toArray, List.set_cons_zero, List.set_cons_succ]
              refine take_on (i := 6) (v := ?v65) rfl (by kernel_rfl) (by kernel_rfl) (by kernel_rfl) (fun _ _ _ h => h) (by rfl) (by assumption) ?y65 ?_
              case y65 => (intro w hSw; (try dsimp only at hSw); go_simp; (try with_reducible rfl))
              try simp only [Act.put, List.setIfInBounds_toArray, List.set_cons_zero, List.set_cons_succ]
              refine take_on (i := 7) (v := ?v66) rfl (by kernel_rfl) (by kernel_rfl) (by kernel_rfl) (fun _ _ _ h => h) (by rfl) (by assumption) ?y66 ?_
              case y66 => (intro w hSw; (try dsimp only at hSw); go_simp; (try with_reducible rfl))
              try simp only [Act.put, List.setIfInBounds_toArray, List.set_cons_zero, List.set_cons_succ]
              refine take_on (i := 8) (v := ?v67) rfl (by kernel_rfl) (by kernel_rfl) (by kernel_rfl) (fun _ _ _ h => h) (by rfl) (by assumption) ?y67 ?_
              case y67 => (intro w hSw; (try dsimp only at hSw); go_simp; (try with_reducible rfl))
              try simp only [Act.put, List.setIfInBounds_toArray, List.set_cons_zero, List.set_cons_succ]
              refine take_off (i := 9) rfl (by kernel_rfl) (by kernel_rfl) (by kernel_rfl) (fun _ _ _ h => h) (by rfl) (by assumption) ?_
              try simp only [Act.put, List.setIfInBounds_toArray, List.set_cons_zero, List.set_cons_succ]
              refine take_off (i := 10) rfl (by kernel_rfl) (by kernel_rfl) (by kernel_rfl) (fun _ _ _ h => h) (by rfl) (by assumption) ?_
              try simp only [Act.put, List.setIfInBounds_toArray, List.set_cons_zero, List.set_cons_succ]
              refine take_off (i := 11) rfl (by kernel_rfl) (by kernel_rfl) (by kernel_rfl) (fun _ _ _ h => h) (by rfl) (by assumption) ?_
              try simp only [Act.put, List.setIfInBounds_toArray, List.set_cons_zero, List.set_cons_succ]
              refine take_off (i := 12) rfl (by kernel_rfl) (by kernel_rfl) (by kernel_rfl) (fun _ _ _ h => h) (by rfl) (by assumption) ?_
              try simp only [Act.put, List.setIfInBounds_toArray, List.set_cons_zero, List.set_cons_succ]
              refine take_off (i := 13) rfl (by kernel_rfl) (by kernel_rfl) (by kernel_rfl) (fun _ _ _ h => h) (by rfl) (by assumption) ?_
              try simp only [Act.put, List.setIfInBounds_toArray, List.set_cons_zero, List.set_cons_succ]
              refine take_off (i := 14) rfl (by kernel_rfl) (by kernel_rfl) (by kernel_rfl) (fun _ _ _ h => h) (by rfl) (by assumption) ?_
              try simp only [Act.put, List.setIfInBounds_toArray, List.set_cons_zero, List.set_cons_succ]
              refine take_off (i := 15) rfl (by kernel_rfl) (by kernel_rfl) (by kernel_rfl) (fun _ _ _ h => h) (by rfl) (by assumption) ?_
              try simp only [Act.put, List.setIfInBounds_toArray, List.set_cons_zero, List.set_cons_succ]
              refine take_off (i := 16) rfl (by kernel_rfl) (by kernel_rfl) (by kernel_rfl) (fun _ _ _ h => h) (by rfl) (by assumption) ?_
              try simp only [Act.put, List.setIfInBounds_toArray, List.set_cons_zero, List.set_cons_succ]
              refine take_on (i := 17) (v := ?v76) rfl (by kernel_rfl) (by kernel_rfl) (by kernel_rfl) (fun _ _ _ h => h) (by rfl) (by assumption) ?y76 ?_
              case y76 => (intro w hSw; (try dsimp only at hSw); go_simp; (try with_reducible rfl))
              try simp only [Act.put, List.setIfInBounds_toArray, List.set_cons_zero, List.set_cons_succ]
              refine wpAnyH_done (by kernel_rfl) ?_ _
              have AH := hHeld.1
              clear hHeld
              go_wp2
              go_roundw
              case rel => exact ⟨rfl, j + 1, by omega, by go_num, haf.trans AH⟩
              case measure => simp [intOf]; omega
            · go_wp2
              refine wp_region_held_drew (S := fun w' => Aft wr w' ∧ w'.cell? ⟨bl, off + j * 5, none⟩ = some (.int .i64 2) ∧ w'.cell? ⟨bl, off + j * 5 + 1, none⟩ = some (.int .i64 y1) ∧ w'.cell? ⟨bl, off + j * 5 + 2, none⟩ = some (.int .i64 MM) ∧ w'.cell? ⟨bl, off + j * 5 + 3, none⟩ = some (.int .i64 1) ∧ w'.cell? ⟨bl, off + j * 5 + 4, none⟩ = some (.bool LL) ∧ w'.cell? ⟨v2.heap.size, 0, none⟩ = some (.int .i64 2) ∧ w'.cell? ⟨v2.heap.size, 1, none⟩ = some (.int .i64 y1) ∧ w'.cell? ⟨v2.heap.size, 2, none⟩ = some (.int .i64 m1) ∧ w'.cell? ⟨v2.heap.size, 3, none⟩ = some (.int .i64 d1) ∧ w'.cell? ⟨v2.heap.size, 4, none⟩ = some (.bool l1)) (by kernel_rfl) (⟨Below.drew (Aft.refl _), d0, d1', d2, d3, d4, p0, p1, p2, p3, p4⟩) (fun hHeld => ?_)
              refine take_on (i := 0) (v := ?v77) rfl (by kernel_rfl) (by kernel_rfl) (by kernel_rfl) (fun _ _ _ h => h) (by rfl) (by assumption) ?y77 ?_
              case y77 => (intro w hSw; (try dsimp only at hSw); go_simp; (try with_reducible rfl))
              try simp only [Act.put, List.setIfInBounds_toArray, List.set_cons_zero, List.set_cons_succ]
              refine take_on (i := 1) (v := ?v78) rfl (by kernel_rfl) (by kernel_rfl) (by kernel_rfl) (fun _ _ _ h => h) (by rfl) (by assumption) ?y78 ?_
              case y78 => (intro w hSw; (try dsimp only at hSw); go_simp; (try with_reducible rfl))
              try simp only [Act.put, List.setIfInBounds_toArray, List.set_cons_zero, List.set_cons_succ]
              refine take_on (i := 2) (v := ?v79) rfl (by kernel_rfl) (by kernel_rfl) (by kernel_rfl) (fun _ _ _ h => h) (by rfl) (by assumption) ?y79 ?_
              case y79 => (intro w hSw; (try dsimp only at hSw); go_simp; (try with_reducible rfl))
              try simp only [Act.put, List.setIfInBounds_toArray, List.set_cons_zero, List.set_cons_succ]
              refine take_on (i := 3) (v := ?v80) rfl (by kernel_rfl) (by kernel_rfl) (by kernel_rfl) (fun _ _ _ h => h) (by rfl) (by assumption) ?y80 ?_
              case y80 => (intro w hSw; (try dsimp only at hSw); go_simp; (try with_reducible rfl))
              try simp only [Act.put, List.setIfInBounds_toArray, List.set_cons_zero, List.set_cons_succ]
              refine take_on (i := 4) (v := ?v81) rfl (by kernel_rfl) (by kernel_rfl) (by kernel_rfl) (fun _ _ _ h => h) (by rfl) (by assumption) ?y81 ?_
              case y81 => (intro w hSw; (try dsimp only at hSw); go_simp; (try with_reducible rfl))
              try simp only [Act.put, List.setIfInBounds_toArray, List.set_cons_zero, List.set_cons_succ]
              refine take_on (i := 5) (v := ?v82) rfl (by kernel_rfl) (by kernel_rfl) (by kernel_rfl) (fun _ _ _ h => h) (by rfl) (by assumption) ?y82 ?_
              case y82 => (intro w hSw; (try dsimp only at hSw); go_simp; (try with_reducible rfl))
              try simp only [Act.put, List.setIfInBounds_toArray, List.set_cons_zero, List.set_cons_succ]
              refine take_on (i := 6) (v := ?v83) rfl (by kernel_rfl) (by kernel_rfl) (by kernel_rfl) (fun _ _ _ h => h) (by rfl) (by assumption) ?y83 ?_
              case y83 => (intro w hSw; (try dsimp only at hSw); go_simp; (try with_reducible rfl))
              try simp only [Act.put, List.setIfInBounds_toArray, List.set_cons_zero, List.set_cons_succ]
              refine take_on (i := 7) (v := ?v84) rfl (by kernel_rfl) (by kernel_rfl) (by kernel_rfl) (fun _ _ _ h => h) (by rfl) (by assumption) ?y84 ?_
              case y84 => (intro w hSw; (try dsimp only at hSw); go_simp; (try with_reducible rfl))
              try simp only [Act.put, List.setIfInBounds_toArray, List.set_cons_zero, List.set_cons_succ]
              refine take_on (i := 8) (v := ?v85) rfl (by kernel_rfl) (by kernel_rfl) (by kernel_rfl) (fun _ _ _ h => h) (by rfl) (by assumption) ?y85 ?_
              case y85 => (intro w hSw; (try dsimp only at hSw); go_simp; (try with_reducible rfl))
              try simp only [Act.put, List.setIfInBounds_toArray, List.set_cons_zero, List.set_cons_succ]
              refine take_on (i := 9) (v := ?v86) rfl (by kernel_rfl) (by kernel_rfl) (by kernel_rfl) (fun _ _ _ h => h) (by rfl) (by assumption) ?y86 ?_
              case y86 => (intro w hSw; (try dsimp only at hSw); go_simp; (try with_reducible rfl))
              try simp only [Act.put, List.setIfInBounds_toArray, List.set_cons_zero, List.set_cons_succ]
              refine take_on (i := 10) (v := ?v87) rfl (by kernel_rfl) (by kernel_rfl) (by kernel_rfl) (fun _ _ _ h => h) (by rfl) (by assumption) ?y87 ?_
              case y87 => (intro w hSw; (try dsimp only at hSw); go_simp; (try with_reducible rfl))
              try simp only [Act.put, List.setIfInBounds_toArray, List.set_cons_zero, List.set_cons_succ]
              refine take_on (i := 11) (v := ?v88) rfl (by kernel_rfl) (by kernel_rfl) (by kernel_rfl) (fun _ _ _ h => h) (by rfl) (by assumption) ?y88 ?_
              case y88 => (intro w hSw; (try dsimp only at hSw); go_simp; (try with_reducible rfl))
              try simp only [Act.put, List.setIfInBounds_toArray, List.set_cons_zero, List.set_cons_succ]
              refine take_on (i := 12) (v := ?v89) rfl (by kernel_rfl) (by kernel_rfl) (by kernel_rfl) (fun _ _ _ h => h) (by rfl) (by assumption) ?y89 ?_
              case y89 => (intro w hSw; (try dsimp only at hSw); go_simp; (try with_reducible rfl))
              try simp only [Act.put, List.setIfInBounds_toArray, List.set_cons_zero, List.set_cons_succ]
              refine take_on (i := 13) (v := ?v90) rfl (by kernel_rfl) (by kernel_rfl) (by kernel_rfl) (fun _ _ _ h => h) (by rfl) (by assumption) ?y90 ?_
              case y90 => (intro w hSw; (try dsimp only at hSw); go_simp; (try with_reducible rfl))
              try simp only [Act.put, List.setIfInBounds_toArray, List.set_cons_zero, List.set_cons_succ]
              refine take_on (i := 14) (v := ?v91) rfl (by kernel_rfl) (by kernel_rfl) (by kernel_rfl) (fun _ _ _ h => h) (by rfl) (by assumption) ?y91 ?_
              case y91 => (intro w hSw; (try dsimp only at hSw); go_simp; (try with_reducible rfl))
              try simp only [Act.put, List.setIfInBounds_toArray, List.set_cons_zero, List.set_cons_succ]
              refine take_on (i := 15) (v := ?v92) rfl (by kernel_rfl) (by kernel_rfl) (by kernel_rfl) (fun _ _ _ h => h) (by rfl) (by assumption) ?y92 ?_
              case y92 => (intro w hSw; (try dsimp only at hSw); go_simp; (try with_reducible rfl))
              try simp only [Act.put, List.setIfInBounds_toArray, List.set_cons_zero, List.set_cons_succ]
              refine take_on (i := 16) (v := ?v93) rfl (by kernel_rfl) (by kernel_rfl) (by kernel_rfl) (fun _ _ _ h => h) (by rfl) (by assumption) ?y93 ?_
              case y93 => (intro w hSw; (try dsimp only at hSw); go_simp; (try with_reducible rfl))
              try simp only [Act.put, List.setIfInBounds_toArray, List.set_cons_zero, List.set_cons_succ]
              refine take_on (i := 17) (v := ?v94) rfl (by kernel_rfl) (by kernel_rfl) (by kernel_rfl) (fun _ _ _ h => h) (by rfl) (by assumption) ?y94 ?_
              case y94 => (intro w hSw; (try dsimp only at hSw); go_simp; (try with_reducible rfl))
              try simp only [Act.put, List.setIfInBounds_toArray, List.set_cons_zero, List.set_cons_succ]
              refine wpAnyH_done (by kernel_rfl) ?_ _
              have AH := hHeld.1
              clear hHeld
              go_wp2
              go_roundw
              case rel => exact ⟨rfl, j + 1, by omega, by go_num, haf.trans AH⟩
              case measure => simp [intOf]; omega
      · subst ey em el ed
        have hq := deq_refl 2 (y1 + 1) 1 1 false
        have hmz := mo_zero (leapB (y1 + 1))
        have HMZ := Lib.hid hmz
        have HM2 := Lib.hid (fun w => Months_any (y1 + 1) w)
        have HK2 := Lib.hid (nmN_pos (leapB (y1 + 1)))
        clear hmz
        have hnl : ¬ d1 < md m1 l1 := by omega
        clear e0
        generalize md m1 l1 = MD at *
        have HM := Lib.hid (fun w => Months_any y1 w)
        have HNE := Lib.hid (fun (j : Nat) hj h => ent_ne (b := leapB y1) (j := j) (k := k) hj k2 h)
        have hkk := nmN_nm (leapB y1)
        have hnb := nm_bd (leapB y1)
        obtain ⟨c0, c1, c2, c3, c4⟩ := b10.five
        obtain ⟨g0, g1, g2, g3, g4⟩ := b11.five
        go_wp2
        refine wp_region_held_drew (S := fun w' => Aft (v3.alloc (.cells #[.int .i64 2, .int .i64 (y1 + 1), .int .i64 1, .int .i64 1, .bool false] 34)) w' ∧ w'.cell? ⟨v2.heap.size, 0, none⟩ = some (.int .i64 2) ∧ w'.cell? ⟨v2.heap.size, 1, none⟩ = some (.int .i64 y1) ∧ w'.cell? ⟨v2.heap.size, 2, none⟩ = some (.int .i64 m1) ∧ w'.cell? ⟨v2.heap.size, 3, none⟩ = some (.int .i64 d1) ∧ w'.cell? ⟨v2.heap.size, 4, none⟩ = some (.bool l1) ∧ w'.cell? ⟨v3.heap.size, 0, none⟩ = some (.int .i64 2) ∧ w'.cell? ⟨v3.heap.size, 1, none⟩ = some (.int .i64 (y1 + 1)) ∧ w'.cell? ⟨v3.heap.size, 2, none⟩ = some (.int .i64 1) ∧ w'.cell? ⟨v3.heap.size, 3, none⟩ = some (.int .i64 1) ∧ w'.cell? ⟨v3.heap.size, 4, none⟩ = some (.bool false)) (by kernel_rfl) (⟨Below.drew (Aft.refl _), c0, c1, c2, c3, c4, g0, g1, g2, g3, g4⟩) (fun hHeld => ?_)
        refine take_on (i := 0) (v := ?v95) rfl (by kernel_rfl) (by kernel_rfl) (by kernel_rfl) (fun _ _ _ h => h) (by rfl) (by assumption) ?y95 ?_
        case y95 => (intro w hSw; (try dsimp only at hSw); go_simp; (try with_reducible rfl))
        try simp only [Act.put, List.setIfInBounds_toArray, List.set_cons_zero, List.set_cons_succ]
        refine take_on (i := 1) (v := ?v96) rfl (by kernel_rfl) (by kernel_rfl) (by kernel_rfl) (fun _ _ _ h => h) (by rfl) (by assumption) ?y96 ?_
        case y96 => (intro w hSw; (try dsimp only at hSw); go_simp; (try with_reducible rfl))
        try simp only [Act.put, List.setIfInBounds_toArray, List.set_cons_zero, List.set_cons_succ]
        refine take_on (i := 2) (v := ?v97) rfl (by kernel_rfl) (by kernel_rfl) (by kernel_rfl) (fun _ _ _ h => h) (by rfl) (by assumption) ?y97 ?_
        case y97 => (intro w hSw; (try dsimp only at hSw); go_simp; (try with_reducible rfl))
        try simp only [Act.put, List.setIfInBounds_toArray, List.set_cons_zero, List.set_cons_succ]
        refine one_ready (i := 3) rfl (by kernel_rfl) (by rfl) (fun K hK => ?_)
        go_simp
        go_at_call 21
        refine (HMD.out _ (HT.out.aft (by first | exact hHeld.1 | exact Below.drew hHeld.1))).mono ?_
        rintro e' w' ⟨rfl, N9⟩
        have hh : (fun w' => Aft (v3.alloc (.cells #[.int .i64 2, .int .i64 (y1 + 1), .int .i64 1, .int .i64 1, .bool false] 34)) w' ∧ w'.cell? ⟨v2.heap.size, 0, none⟩ = some (.int .i64 2) ∧ w'.cell? ⟨v2.heap.size, 1, none⟩ = some (.int .i64 y1) ∧ w'.cell? ⟨v2.heap.size, 2, none⟩ = some (.int .i64 m1) ∧ w'.cell? ⟨v2.heap.size, 3, none⟩ = some (.int .i64 d1) ∧ w'.cell? ⟨v2.heap.size, 4, none⟩ = some (.bool l1) ∧ w'.cell? ⟨v3.heap.size, 0, none⟩ = some (.int .i64 2) ∧ w'.cell? ⟨v3.heap.size, 1, none⟩ = some (.int .i64 (y1 + 1)) ∧ w'.cell? ⟨v3.heap.size, 2, none⟩ = some (.int .i64 1) ∧ w'.cell? ⟨v3.heap.size, 3, none⟩ = some (.int .i64 1) ∧ w'.cell? ⟨v3.heap.size, 4, none⟩ = some (.bool false)) w' := ten_aft hHeld (Aft.trans (by first | exact Aft.refl _ | exact Below.drew (Aft.refl _)) N9)
        clear N9
        try go_simp
        refine hK.out _ _ (by first | exact hh | exact ⟨Below.drew hh.1, hh.2⟩ | exact hHeld) (fun hHeld => ?_)
        clear hK K
        try simp only [Act.put, List.setIfInBounds_toArray, List.set_cons_zero, List.set_cons_succ]
        refine take_on (i := 4) (v := ?v99) rfl (by kernel_rfl) (by kernel_rfl) (by kernel_rfl) (fun _ _ _ h => h) (by rfl) (by assumption) ?y99 ?_
        case y99 => (intro w hSw; (try dsimp only at hSw); go_simp; (try with_reducible rfl))
        try simp only [Act.put, List.setIfInBounds_toArray, List.set_cons_zero, List.set_cons_succ]
        refine wpAnyH_done (by kernel_rfl) ?_ _
        have AZ := A12.trans hHeld.1
        obtain ⟨_, x0, x1, x2, x3, x4, z0, z1, z2, z3, z4⟩ := hHeld
        clear c0 c1 c2 c3 c4 g0 g1 g2 g3 g4 b10 b11 HMD
        go_wp2_with fail
        refine (HM.out _).mono ?_
        rintro e' w3 ⟨A, cp, rfl, hms, N3⟩
        rw [if_neg (show ¬ y1 < 0 by omega)] at hms ⊢
        have X0 := Lib.hid (N3.cell x0)
        have X1 := Lib.hid (N3.cell x1)
        have X2 := Lib.hid (N3.cell x2)
        have X3 := Lib.hid (N3.cell x3)
        have X4 := Lib.hid (N3.cell x4)
        have Z0 := Lib.hid (N3.cell z0)
        have Z1 := Lib.hid (N3.cell z1)
        have Z2 := Lib.hid (N3.cell z2)
        have Z3 := Lib.hid (N3.cell z3)
        have Z4 := Lib.hid (N3.cell z4)
        have AM := AZ.trans N3
        have HMS := Lib.hid hms
        have hcp := hms.le
        have hcm := hms.cmax
        have HKK := Lib.hid hkk
        have hnmle : nmN (leapB y1) ≤ 13 := by omega
        have hkn : k < nmN (leapB y1) := by omega
        have hk1 : k + 1 = nmN (leapB y1) := by omega
        clear hms hkk N3 x0 x1 x2 x3 x4 z0 z1 z2 z3 z4 e1 HM
        generalize hnn : nmN (leapB y1) = NN at *
        clear hnn
        go_wp2
        generalize hW3 : w3 = W3 at *
        clear hW3
        go_loopw [7, 8] (fun v i wr => v = .slice A NN cp ∧ ∃ j : Nat, j ≤ k ∧ i = .int .i64 (j : Int) ∧ Aft W3 wr) (fun _ i _ => NN - (intOf i).toNat)
        case atStart => exact ⟨rfl, 0, Nat.zero_le _, rfl, Aft.refl _⟩
        case round =>
          obtain ⟨rfl, j, hj, rfl, haf⟩ := hrel
          have hjN : j < NN := by omega
          obtain ⟨bl, off, rfl, d0, d1', d2, d3, d4⟩ := (HMS.out.aft haf).cells j hjN
          have hji : (j : Int) < (NN : Int) := by omega
          have hjn : (j : Int) < nm (leapB y1) := by have := HKK.out; omega
          have p0 := haf.cell X0.out
          have p1 := haf.cell X1.out
          have p2 := haf.cell X2.out
          have p3 := haf.cell X3.out
          have p4 := haf.cell X4.out
          by_cases hjk : j = k
          · subst hjk
            have hm1 : (mo (leapB y1) j == m1) = true := by simp [kmo]
            have hl1 : (ml (leapB y1) j == l1) = true := by simp [kml]
            have s0 := haf.cell Z0.out
            have s1 := haf.cell Z1.out
            have s2 := haf.cell Z2.out
            have s3 := haf.cell Z3.out
            have s4 := haf.cell Z4.out
            have hki : ¬ (j : Int) + 1 < (NN : Int) := by omega
            clear kmo kml
            generalize mo (leapB y1) j = MM at *
            generalize ml (leapB y1) j = LL at *
            go_wp2
            refine wp_region_held_drew (S := fun w' => Aft wr w' ∧ w'.cell? ⟨bl, off + j * 5, none⟩ = some (.int .i64 2) ∧ w'.cell? ⟨bl, off + j * 5 + 1, none⟩ = some (.int .i64 y1) ∧ w'.cell? ⟨bl, off + j * 5 + 2, none⟩ = some (.int .i64 MM) ∧ w'.cell? ⟨bl, off + j * 5 + 3, none⟩ = some (.int .i64 1) ∧ w'.cell? ⟨bl, off + j * 5 + 4, none⟩ = some (.bool LL) ∧ w'.cell? ⟨v2.heap.size, 0, none⟩ = some (.int .i64 2) ∧ w'.cell? ⟨v2.heap.size, 1, none⟩ = some (.int .i64 y1) ∧ w'.cell? ⟨v2.heap.size, 2, none⟩ = some (.int .i64 m1) ∧ w'.cell? ⟨v2.heap.size, 3, none⟩ = some (.int .i64 d1) ∧ w'.cell? ⟨v2.heap.size, 4, none⟩ = some (.bool l1)) (by kernel_rfl) (⟨Below.drew (Aft.refl _), d0, d1', d2, d3, d4, p0, p1, p2, p3, p4⟩) (fun hHeld => ?_)
            refine take_on (i := 0) (v := ?v100) rfl (by kernel_rfl) (by kernel_rfl) (by kernel_rfl) (fun _ _ _ h => h) (by rfl) (by assumption) ?y100 ?_
            case y100 => (intro w hSw; (try dsimp only at hSw); go_simp; (try with_reducible rfl))
            try simp only [Act.put, List.setIfInBounds_toArray, List.set_cons_zero, List.set_cons_succ]
            refine take_on (i := 1) (v := ?v101) rfl (by kernel_rfl) (by kernel_rfl) (by kernel_rfl) (fun _ _ _ h => h) (by rfl) (by assumption) ?y101 ?_
            case y101 => (intro w hSw; (try dsimp only at hSw); go_simp; (try with_reducible rfl))
            try simp only [Act.put, List.setIfInBounds_toArray, List.set_cons_zero, List.set_cons_succ]
            refine take_on (i := 2) (v := ?v102) rfl (by kernel_rfl) (by kernel_rfl) (by kernel_rfl) (fun _ _ _ h => h) (by rfl) (by assumption) ?y102 ?_
            case y102 => (intro w hSw; (try dsimp only at hSw); go_simp; (try with_reducible rfl))
            try simp only [Act.put, List.setIfInBounds_toArray, List.set_cons_zero, List.set_cons_succ]
            refine take_on (i := 3) (v := ?v103) rfl (by kernel_rfl) (by kernel_rfl) (by kernel_rfl) (fun _ _ _ h => h) (by rfl) (by assumption) ?y103 ?_
            case y103 => (intro w hSw; (try dsimp only at hSw); go_simp; (try with_reducible rfl))
            try simp only [Act.put, List.setIfInBounds_toArray, List.set_cons_zero, List.set_cons_succ]
            refine take_on (i := 4) (v := ?v104) rfl (by kernel_rfl) (by kernel_rfl) (by kernel_rfl) (fun _ _ _ h => h) (by rfl) (by assumption) ?y104 ?_
            case y104 => (intro w hSw; (try dsimp only at hSw); go_simp; (try with_reducible rfl))
            try simp only [Act.put, List.setIfInBounds_toArray, List.set_cons_zero, List.set_cons_succ]
            refine take_on (i := 5) (v := ?v105) rfl (by kernel_rfl) (by kernel_rfl) (by kernel_rfl) (fun _ _ _ h => h) (by rfl) (by assumption) ?y105 ?_
            case y105 => (intro w hSw; (try dsimp only at hSw); go_simp; (try with_reducible rfl))
            try simp only [Act.put, List.setIfInBounds_toArray, List.set_cons_zero, List.set_cons_succ]
            refine take_on (i := 6) (v := ?v106) rfl (by kernel_rfl) (by kernel_rfl) (by kernel_rfl) (fun _ _ _ h => h) (by rfl) (by assumption) ?y106 ?_
            case y106 => (intro w hSw; (try dsimp only at hSw); go_simp; (try with_reducible rfl))
            try simp only [Act.put, List.setIfInBounds_toArray, List.set_cons_zero, List.set_cons_succ]
            refine take_on (i := 7) (v := ?v107) rfl (by kernel_rfl) (by kernel_rfl) (by kernel_rfl) (fun _ _ _ h => h) (by rfl) (by assumption) ?y107 ?_
            case y107 => (intro w hSw; (try dsimp only at hSw); go_simp; (try with_reducible rfl))
            try simp only [Act.put, List.setIfInBounds_toArray, List.set_cons_zero, List.set_cons_succ]
            refine take_on (i := 8) (v := ?v108) rfl (by kernel_rfl) (by kernel_rfl) (by kernel_rfl) (fun _ _ _ h => h) (by rfl) (by assumption) ?y108 ?_
            case y108 => (intro w hSw; (try dsimp only at hSw); go_simp; (try with_reducible rfl))
            try simp only [Act.put, List.setIfInBounds_toArray, List.set_cons_zero, List.set_cons_succ]
            refine take_on (i := 9) (v := ?v109) rfl (by kernel_rfl) (by kernel_rfl) (by kernel_rfl) (fun _ _ _ h => h) (by rfl) (by assumption) ?y109 ?_
            case y109 => (intro w hSw; (try dsimp only at hSw); go_simp; (try with_reducible rfl))
            try simp only [Act.put, List.setIfInBounds_toArray, List.set_cons_zero, List.set_cons_succ]
            refine take_on (i := 10) (v := ?v110) rfl (by kernel_rfl) (by kernel_rfl) (by kernel_rfl) (fun _ _ _ h => h) (by rfl) (by assumption) ?y110 ?_
            case y110 => (intro w hSw; (try dsimp only at hSw); go_simp; (try with_reducible rfl))
            try simp only [Act.put, List.setIfInBounds_toArray, List.set_cons_zero, List.set_cons_succ]
            refine take_on (i := 11) (v := ?v111) rfl (by kernel_rfl) (by kernel_rfl) (by kernel_rfl) (fun _ _ _ h => h) (by rfl) (by assumption) ?y111 ?_
            case y111 => (intro w hSw; (try dsimp only at hSw); go_simp; (try with_reducible rfl))
            try simp only [Act.put, List.setIfInBounds_toArray, List.set_cons_zero, List.set_cons_succ]
            refine take_on (i := 12) (v := ?v112) rfl (by kernel_rfl) (by kernel_rfl) (by kernel_rfl) (fun _ _ _ h => h) (by rfl) (by assumption) ?y112 ?_
            case y112 => (intro w hSw; (try dsimp only at hSw); go_simp; (try with_reducible rfl))
            try simp only [Act.put, List.setIfInBounds_toArray, List.set_cons_zero, List.set_cons_succ]
            refine take_on (i := 13) (v := ?v113) rfl (by kernel_rfl) (by kernel_rfl) (by kernel_rfl) (fun _ _ _ h => h) (by rfl) (by assumption) ?y113 ?_
            case y113 => (intro w hSw; (try dsimp only at hSw); go_simp; (try with_reducible rfl))
            try simp only [Act.put, List.setIfInBounds_toArray, List.set_cons_zero, List.set_cons_succ]
            refine take_on (i := 14) (v := ?v114) rfl (by kernel_rfl) (by kernel_rfl) (by kernel_rfl) (fun _ _ _ h => h) (by rfl) (by assumption) ?y114 ?_
            case y114 => (intro w hSw; (try dsimp only at hSw); go_simp; (try with_reducible rfl))
            try simp only [Act.put, List.setIfInBounds_toArray, List.set_cons_zero, List.set_cons_succ]
            refine take_on (i := 15) (v := ?v115) rfl (by kernel_rfl) (by kernel_rfl) (by kernel_rfl) (fun _ _ _ h => h) (by rfl) (by assumption) ?y115 ?_
            case y115 => (intro w hSw; (try dsimp only at hSw); go_simp; (try with_reducible rfl))
            try simp only [Act.put, List.setIfInBounds_toArray, List.set_cons_zero, List.set_cons_succ]
            refine take_on (i := 16) (v := ?v116) rfl (by kernel_rfl) (by kernel_rfl) (by kernel_rfl) (fun _ _ _ h => h) (by rfl) (by assumption) ?y116 ?_
            case y116 => (intro w hSw; (try dsimp only at hSw); go_simp; (try with_reducible rfl))
            try simp only [Act.put, List.setIfInBounds_toArray, List.set_cons_zero, List.set_cons_succ]
            refine take_on (i := 17) (v := ?v117) rfl (by kernel_rfl) (by kernel_rfl) (by kernel_rfl) (fun _ _ _ h => h) (by rfl) (by assumption) ?y117 ?_
            case y117 => (intro w hSw; (try dsimp only at hSw); go_simp; (try with_reducible rfl))
            try simp only [Act.put, List.setIfInBounds_toArray, List.set_cons_zero, List.set_cons_succ]
            refine wpAnyH_done (by kernel_rfl) ?_ _
            have AH := hHeld.1
            obtain ⟨_, _, _, _, _, _, u0, u1, u2, u3, u4⟩ := hHeld
            clear d0 d1' d2 d3 d4 p0 p1 p2 p3 p4
            go_wp2_with fail
            refine (HM2.out _).mono ?_
            rintro e' w6 ⟨A6, cp6, rfl, hms6, N6⟩
            rw [if_neg (show ¬ y1 + 1 < 0 by omega)] at hms6 ⊢
            have hcp6 := hms6.le
            have hcm6 := hms6.cmax
            have hp6 := HK2.out
            generalize nmN (leapB (y1 + 1)) = N6n at *
            obtain ⟨bl6, off6, rfl, t0, t1, t2, t3, t4⟩ := hms6.cells 0 hp6
            clear hms6
            rw [show ((0 : Nat) : Int) = 0 from rfl, HMZ.out.1] at t2
            rw [show ((0 : Nat) : Int) = 0 from rfl, HMZ.out.2] at t4
            simp only [Nat.zero_mul, Nat.add_zero] at t0 t1 t2 t3 t4
            have hp6i : (0 : Int) < (N6n : Int) := by omega
            have r0 := N6.cell (AH.cell s0)
            have r1 := N6.cell (AH.cell s1)
            have r2 := N6.cell (AH.cell s2)
            have r3 := N6.cell (AH.cell s3)
            have r4 := N6.cell (AH.cell s4)
            go_wp2
            refine wp_region_held_drew (S := fun w' => Aft w6 w' ∧ w'.cell? ⟨bl6, off6, none⟩ = some (.int .i64 2) ∧ w'.cell? ⟨bl6, off6 + 1, none⟩ = some (.int .i64 (y1 + 1)) ∧ w'.cell? ⟨bl6, off6 + 2, none⟩ = some (.int .i64 1) ∧ w'.cell? ⟨bl6, off6 + 3, none⟩ = some (.int .i64 1) ∧ w'.cell? ⟨bl6, off6 + 4, none⟩ = some (.bool false) ∧ w'.cell? ⟨v3.heap.size, 0, none⟩ = some (.int .i64 2) ∧ w'.cell? ⟨v3.heap.size, 1, none⟩ = some (.int .i64 (y1 + 1)) ∧ w'.cell? ⟨v3.heap.size, 2, none⟩ = some (.int .i64 1) ∧ w'.cell? ⟨v3.heap.size, 3, none⟩ = some (.int .i64 1) ∧ w'.cell? ⟨v3.heap.size, 4, none⟩ = some (.bool false)) (by kernel_rfl) (⟨Below.drew (Aft.refl _), t0, t1, t2, t3, t4, r0, r1, r2, r3, r4⟩) (fun hHeld => ?_)
            refine take_on (i := 0) (v := ?v118) rfl (by kernel_rfl) (by kernel_rfl) (by kernel_rfl) (fun _ _ _ h => h) (by rfl) (by assumption) ?y118 ?_
            case y118 => (intro w hSw; (try dsimp only at hSw); go_simp; (try with_reducible rfl))
            try simp only [Act.put, List.setIfInBounds_toArray, List.set_cons_zero, List.set_cons_succ]
            refine take_on (i := 1) (v := ?v119) rfl (by kernel_rfl) (by kernel_rfl) (by kernel_rfl) (fun _ _ _ h => h) (by rfl) (by assumption) ?y119 ?_
            case y119 => (intro w hSw; (try dsimp only at hSw); go_simp; (try with_reducible rfl))
            try simp only [Act.put, List.setIfInBounds_toArray, List.set_cons_zero, List.set_cons_succ]
            refine take_on (i := 2) (v := ?v120) rfl (by kernel_rfl) (by kernel_rfl) (by kernel_rfl) (fun _ _ _ h => h) (by rfl) (by assumption) ?y120 ?_
            case y120 => (intro w hSw; (try dsimp only at hSw); go_simp; (try with_reducible rfl))
            try simp only [Act.put, List.setIfInBounds_toArray, List.set_cons_zero, List.set_cons_succ]
            refine take_on (i := 3) (v := ?v121) rfl (by kernel_rfl) (by kernel_rfl) (by kernel_rfl) (fun _ _ _ h => h) (by rfl) (by assumption) ?y121 ?_
            case y121 => (intro w hSw; (try dsimp only at hSw); go_simp; (try with_reducible rfl))
            try simp only [Act.put, List.setIfInBounds_toArray, List.set_cons_zero, List.set_cons_succ]
            refine take_on (i := 4) (v := ?v122) rfl (by kernel_rfl) (by kernel_rfl) (by kernel_rfl) (fun _ _ _ h => h) (by rfl) (by assumption) ?y122 ?_
            case y122 => (intro w hSw; (try dsimp only at hSw); go_simp; (try with_reducible rfl))
            try simp only [Act.put, List.setIfInBounds_toArray, List.set_cons_zero, List.set_cons_succ]
            refine take_on (i := 5) (v := ?v123) rfl (by kernel_rfl) (by kernel_rfl) (by kernel_rfl) (fun _ _ _ h => h) (by rfl) (by assumption) ?y123 ?_
            case y123 => (intro w hSw; (try dsimp only at hSw); go_simp; (try with_reducible rfl))
            try simp only [Act.put, List.setIfInBounds_toArray, List.set_cons_zero, List.set_cons_succ]
            refine take_on (i := 6) (v := ?v124) rfl (by kernel_rfl) (by kernel_rfl) (by kernel_rfl) (fun _ _ _ h => h) (by rfl) (by assumption) ?y124 ?_
            case y124 => (intro w hSw; (try dsimp only at hSw); go_simp; (try with_reducible rfl))
            try simp only [Act.put, List.setIfInBounds_toArray, List.set_cons_zero, List.set_cons_succ]
            refine take_on (i := 7) (v := ?v125) rfl (by kernel_rfl) (by kernel_rfl) (by kernel_rfl) (fun _ _ _ h => h) (by rfl) (by assumption) ?y125 ?_
            case y125 => (intro w hSw; (try dsimp only at hSw); go_simp; (try with_reducible rfl))
            try simp only [Act.put, List.setIfInBounds_toArray, List.set_cons_zero, List.set_cons_succ]
            refine take_on (i := 8) (v := ?v126) rfl (by kernel_rfl) (by kernel_rfl) (by kernel_rfl) (fun _ _ _ h => h) (by rfl) (by assumption) ?y126 ?_
            case y126 => (intro w hSw; (try dsimp only at hSw); go_simp; (try with_reducible rfl))
            try simp only [Act.put, List.setIfInBounds_toArray, List.set_cons_zero, List.set_cons_succ]
            refine take_on (i := 9) (v := ?v127) rfl (by kernel_rfl) (by kernel_rfl) (by kernel_rfl) (fun _ _ _ h => h) (by rfl) (by assumption) ?y127 ?_
            case y127 => (intro w hSw; (try dsimp only at hSw); go_simp; (try with_reducible rfl))
            try simp only [Act.put, List.setIfInBounds_toArray, List.set_cons_zero, List.set_cons_succ]
            refine take_on (i := 10) (v := ?v128) rfl (by kernel_rfl) (by kernel_rfl) (by kernel_rfl) (fun _ _ _ h => h) (by rfl) (by assumption) ?y128 ?_
            case y128 => (intro w hSw; (try dsimp only at hSw); go_simp; (try with_reducible rfl))
            try simp only [Act.put, List.setIfInBounds_toArray, List.set_cons_zero, List.set_cons_succ]
            refine wpAnyH_done (by kernel_rfl) ?_ _
            go_wp2
            go_ret
            exact ⟨by first | rfl | simp, (((AM.trans haf).trans AH).trans N6).trans hHeld.1⟩
          · have hnm := HNE.out j hjn hjk
            rw [kmo, kml] at hnm
            generalize mo (leapB y1) j = MM at *
            generalize ml (leapB y1) j = LL at *
            rcases hnm with h1 | ⟨h1, h2, _⟩
            · go_wp2
              refine wp_region_held_drew (S := fun w' => Aft wr w' ∧ w'.cell? ⟨bl, off + j * 5, none⟩ = some (.int .i64 2) ∧ w'.cell? ⟨bl, off + j * 5 + 1, none⟩ = some (.int .i64 y1) ∧ w'.cell? ⟨bl, off + j * 5 + 2, none⟩ = some (.int .i64 MM) ∧ w'.cell? ⟨bl, off + j * 5 + 3, none⟩ = some (.int .i64 1) ∧ w'.cell? ⟨bl, off + j * 5 + 4, none⟩ = some (.bool LL) ∧ w'.cell? ⟨v2.heap.size, 0, none⟩ = some (.int .i64 2) ∧ w'.cell? ⟨v2.heap.size, 1, none⟩ = some (.int .i64 y1) ∧ w'.cell? ⟨v2.heap.size, 2, none⟩ = some (.int .i64 m1) ∧ w'.cell? ⟨v2.heap.size, 3, none⟩ = some (.int .i64 d1) ∧ w'.cell? ⟨v2.heap.size, 4, none⟩ = some (.bool l1)) (by kernel_rfl) (⟨Below.drew (Aft.refl _), d0, d1', d2, d3, d4, p0, p1, p2, p3, p4⟩) (fun hHeld => ?_)
              refine take_on (i := 0) (v := ?v129) rfl (by kernel_rfl) (by kernel_rfl) (by kernel_rfl) (fun _ _ _ h => h) (by rfl) (by assumption) ?y129 ?_
              case y129 => (intro w hSw; (try dsimp only at hSw); go_simp; (try with_reducible rfl))
              try simp only [Act.put, List.setIfInBounds_toArray, List.set_cons_zero, List.set_cons_succ]
              refine take_on (i := 1) (v := ?v130) rfl (by kernel_rfl) (by kernel_rfl) (by kernel_rfl) (fun _ _ _ h => h) (by rfl) (by assumption) ?y130 ?_
              case y130 => (intro w hSw; (try dsimp only at hSw); go_simp; (try with_reducible rfl))
              try simp only [Act.put, List.setIfInBounds_toArray, List.set_cons_zero, List.set_cons_succ]
              refine take_on (i := 2) (v := ?v131) rfl (by kernel_rfl) (by kernel_rfl) (by kernel_rfl) (fun _ _ _ h => h) (by rfl) (by assumption) ?y131 ?_
              case y131 => (intro w hSw; (try dsimp only at hSw); go_simp; (try with_reducible rfl))
              try simp only [Act.put, List.setIfInBounds_toArray, List.set_cons_zero, List.set_cons_succ]
              refine take_on (i := 3) (v := ?v132) rfl (by kernel_rfl) (by kernel_rfl) (by kernel_rfl) (fun _ _ _ h => h) (by rfl) (by assumption) ?y132 ?_
              case y132 => (intro w hSw; (try dsimp only at hSw); go_simp; (try with_reducible rfl))
              try simp only [Act.put, List.setIfInBounds_toArray, List.set_cons_zero, List.set_cons_succ]
              refine take_on (i := 4) (v := ?v133) rfl (by kernel_rfl) (by kernel_rfl) (by kernel_rfl) (fun _ _ _ h => h) (by rfl) (by assumption) ?y133 ?_
              case y133 => (intro w hSw; (try dsimp only at hSw); go_simp; (try with_reducible rfl))
              try simp only [Act.put, List.setIfInBounds_toArray, List.set_cons_zero, List.set_cons_succ]
              refine take_on (i := 5) (v := ?v134) rfl (by kernel_rfl) (by kernel_rfl) (by kernel_rfl) (fun _ _ _ h => h) (by rfl) (by assumption) ?y134 ?_
              case y134 => (intro w hSw; (try dsimp only at hSw); go_simp; (try with_reducible rfl))
              try simp only [Act.put, List.setIfInBounds_toArray, List.set_cons_zero, List.set_cons_succ]
              refine take_on (i := 6) (v := ?v135) rfl (by kernel_rfl) (by kernel_rfl) (by kernel_rfl) (fun _ _ _ h => h) (by rfl) (by assumption) ?y135 ?_
              case y135 => (intro w hSw; (try dsimp only at hSw); go_simp; (try with_reducible rfl))
              try simp only [Act.put, List.setIfInBounds_toArray, List.set_cons_zero, List.set_cons_succ]
              refine take_on (i := 7) (v := ?v136) rfl (by kernel_rfl) (by kernel_rfl) (by kernel_rfl) (fun _ _ _ h => h) (by rfl) (by assumption) ?y136 ?_
              case y136 => (intro w hSw; (try dsimp only at hSw); go_simp; (try with_reducible rfl))
              try simp only [Act.put, List.setIfInBounds_toArray, List.set_cons_zero, List.set_cons_succ]
              refine take_on (i := 8) (v := ?v137) rfl (by kernel_rfl) (by kernel_rfl) (by kernel_rfl) (fun _ _ _ h => h) (by rfl) (by assumption) ?y137 ?_
              case y137 => (intro w hSw; (try dsimp only at hSw); go_simp; (try with_reducible rfl))
              try simp only [Act.put, List.setIfInBounds_toArray, List.set_cons_zero, List.set_cons_succ]
              refine take_off (i := 9) rfl (by kernel_rfl) (by kernel_rfl) (by kernel_rfl) (fun _ _ _ h => h) (by rfl) (by assumption) ?_
              try simp only [Act.put, List.setIfInBounds_toArray, List.set_cons_zero, List.set_cons_succ]
              refine take_off (i := 10) rfl (by kernel_rfl) (by kernel_rfl) (by kernel_rfl) (fun _ _ _ h => h) (by rfl) (by assumption) ?_
              try simp only [Act.put, List.setIfInBounds_toArray, List.set_cons_zero, List.set_cons_succ]
              refine take_off (i := 11) rfl (by kernel_rfl) (by kernel_rfl) (by kernel_rfl) (fun _ _ _ h => h) (by rfl) (by assumption) ?_
              try simp only [Act.put, List.setIfInBounds_toArray, List.set_cons_zero, List.set_cons_succ]
              refine take_off (i := 12) rfl (by kernel_rfl) (by kernel_rfl) (by kernel_rfl) (fun _ _ _ h => h) (by rfl) (by assumption) ?_
              try simp only [Act.put, List.setIfInBounds_toArray, List.set_cons_zero, List.set_cons_succ]
              refine take_off (i := 13) rfl (by kernel_rfl) (by kernel_rfl) (by kernel_rfl) (fun _ _ _ h => h) (by rfl) (by assumption) ?_
              try simp only [Act.put, List.setIfInBounds_toArray, List.set_cons_zero, List.set_cons_succ]
              refine take_off (i := 14) rfl (by kernel_rfl) (by kernel_rfl) (by kernel_rfl) (fun _ _ _ h => h) (by rfl) (by assumption) ?_
              try simp only [Act.put, List.setIfInBounds_toArray, List.set_cons_zero, List.set_cons_succ]
              refine take_off (i := 15) rfl (by kernel_rfl) (by kernel_rfl) (by kernel_rfl) (fun _ _ _ h => h) (by rfl) (by assumption) ?_
              try simp only [Act.put, List.setIfInBounds_toArray, List.set_cons_zero, List.set_cons_succ]
              refine take_off (i := 16) rfl (by kernel_rfl) (by kernel_rfl) (by kernel_rfl) (fun _ _ _ h => h) (by rfl) (by assumption) ?_
              try simp only [Act.put, List.setIfInBounds_toArray, List.set_cons_zero, List.set_cons_succ]
              refine take_on (i := 17) (v := ?v146) rfl (by kernel_rfl) (by kernel_rfl) (by kernel_rfl) (fun _ _ _ h => h) (by rfl) (by assumption) ?y146 ?_
              case y146 => (intro w hSw; (try dsimp only at hSw); go_simp; (try with_reducible rfl))
              try simp only [Act.put, List.setIfInBounds_toArray, List.set_cons_zero, List.set_cons_succ]
              refine wpAnyH_done (by kernel_rfl) ?_ _
              have AH := hHeld.1
              clear hHeld
              go_wp2
              go_roundw
              case rel => exact ⟨rfl, j + 1, by omega, by go_num, haf.trans AH⟩
              case measure => simp [intOf]; omega
            · go_wp2
              refine wp_region_held_drew (S := fun w' => Aft wr w' ∧ w'.cell? ⟨bl, off + j * 5, none⟩ = some (.int .i64 2) ∧ w'.cell? ⟨bl, off + j * 5 + 1, none⟩ = some (.int .i64 y1) ∧ w'.cell? ⟨bl, off + j * 5 + 2, none⟩ = some (.int .i64 MM) ∧ w'.cell? ⟨bl, off + j * 5 + 3, none⟩ = some (.int .i64 1) ∧ w'.cell? ⟨bl, off + j * 5 + 4, none⟩ = some (.bool LL) ∧ w'.cell? ⟨v2.heap.size, 0, none⟩ = some (.int .i64 2) ∧ w'.cell? ⟨v2.heap.size, 1, none⟩ = some (.int .i64 y1) ∧ w'.cell? ⟨v2.heap.size, 2, none⟩ = some (.int .i64 m1) ∧ w'.cell? ⟨v2.heap.size, 3, none⟩ = some (.int .i64 d1) ∧ w'.cell? ⟨v2.heap.size, 4, none⟩ = some (.bool l1)) (by kernel_rfl) (⟨Below.drew (Aft.refl _), d0, d1', d2, d3, d4, p0, p1, p2, p3, p4⟩) (fun hHeld => ?_)
              refine take_on (i := 0) (v := ?v147) rfl (by kernel_rfl) (by kernel_rfl) (by kernel_rfl) (fun _ _ _ h => h) (by rfl) (by assumption) ?y147 ?_
              case y147 => (intro w hSw; (try dsimp only at hSw); go_simp; (try with_reducible rfl))
              try simp only [Act.put, List.setIfInBounds_toArray, List.set_cons_zero, List.set_cons_succ]
              refine take_on (i := 1) (v := ?v148) rfl (by kernel_rfl) (by kernel_rfl) (by kernel_rfl) (fun _ _ _ h => h) (by rfl) (by assumption) ?y148 ?_
              case y148 => (intro w hSw; (try dsimp only at hSw); go_simp; (try with_reducible rfl))
              try simp only [Act.put, List.setIfInBounds_toArray, List.set_cons_zero, List.set_cons_succ]
              refine take_on (i := 2) (v := ?v149) rfl (by kernel_rfl) (by kernel_rfl) (by kernel_rfl) (fun _ _ _ h => h) (by rfl) (by assumption) ?y149 ?_
              case y149 => (intro w hSw; (try dsimp only at hSw); go_simp; (try with_reducible rfl))
              try simp only [Act.put, List.setIfInBounds_toArray, List.set_cons_zero, List.set_cons_succ]
              refine take_on (i := 3) (v := ?v150) rfl (by kernel_rfl) (by kernel_rfl) (by kernel_rfl) (fun _ _ _ h => h) (by rfl) (by assumption) ?y150 ?_
              case y150 => (intro w hSw; (try dsimp only at hSw); go_simp; (try with_reducible rfl))
              try simp only [Act.put, List.setIfInBounds_toArray, List.set_cons_zero, List.set_cons_succ]
              refine take_on (i := 4) (v := ?v151) rfl (by kernel_rfl) (by kernel_rfl) (by kernel_rfl) (fun _ _ _ h => h) (by rfl) (by assumption) ?y151 ?_
              case y151 => (intro w hSw; (try dsimp only at hSw); go_simp; (try with_reducible rfl))
              try simp only [Act.put, List.setIfInBounds_toArray, List.set_cons_zero, List.set_cons_succ]
              refine take_on (i := 5) (v := ?v152) rfl (by kernel_rfl) (by kernel_rfl) (by kernel_rfl) (fun _ _ _ h => h) (by rfl) (by assumption) ?y152 ?_
              case y152 => (intro w hSw; (try dsimp only at hSw); go_simp; (try with_reducible rfl))
              try simp only [Act.put, List.setIfInBounds_toArray, List.set_cons_zero, List.set_cons_succ]
              refine take_on (i := 6) (v := ?v153) rfl (by kernel_rfl) (by kernel_rfl) (by kernel_rfl) (fun _ _ _ h => h) (by rfl) (by assumption) ?y153 ?_
              case y153 => (intro w hSw; (try dsimp only at hSw); go_simp; (try with_reducible rfl))
              try simp only [Act.put, List.setIfInBounds_toArray, List.set_cons_zero, List.set_cons_succ]
              refine take_on (i := 7) (v := ?v154) rfl (by kernel_rfl) (by kernel_rfl) (by kernel_rfl) (fun _ _ _ h => h) (by rfl) (by assumption) ?y154 ?_
              case y154 => (intro w hSw; (try dsimp only at hSw); go_simp; (try with_reducible rfl))
              try simp only [Act.put, List.setIfInBounds_toArray, List.set_cons_zero, List.set_cons_succ]
              refine take_on (i := 8) (v := ?v155) rfl (by kernel_rfl) (by kernel_rfl) (by kernel_rfl) (fun _ _ _ h => h) (by rfl) (by assumption) ?y155 ?_
              case y155 => (intro w hSw; (try dsimp only at hSw); go_simp; (try with_reducible rfl))
              try simp only [Act.put, List.setIfInBounds_toArray, List.set_cons_zero, List.set_cons_succ]
              refine take_on (i := 9) (v := ?v156) rfl (by kernel_rfl) (by kernel_rfl) (by kernel_rfl) (fun _ _ _ h => h) (by rfl) (by assumption) ?y156 ?_
              case y156 => (intro w hSw; (try dsimp only at hSw); go_simp; (try with_reducible rfl))
              try simp only [Act.put, List.setIfInBounds_toArray, List.set_cons_zero, List.set_cons_succ]
              refine take_on (i := 10) (v := ?v157) rfl (by kernel_rfl) (by kernel_rfl) (by kernel_rfl) (fun _ _ _ h => h) (by rfl) (by assumption) ?y157 ?_
              case y157 => (intro w hSw; (try dsimp only at hSw); go_simp; (try with_reducible rfl))
              try simp only [Act.put, List.setIfInBounds_toArray, List.set_cons_zero, List.set_cons_succ]
              refine take_on (i := 11) (v := ?v158) rfl (by kernel_rfl) (by kernel_rfl) (by kernel_rfl) (fun _ _ _ h => h) (by rfl) (by assumption) ?y158 ?_
              case y158 => (intro w hSw; (try dsimp only at hSw); go_simp; (try with_reducible rfl))
              try simp only [Act.put, List.setIfInBounds_toArray, List.set_cons_zero, List.set_cons_succ]
              refine take_on (i := 12) (v := ?v159) rfl (by kernel_rfl) (by kernel_rfl) (by kernel_rfl) (fun _ _ _ h => h) (by rfl) (by assumption) ?y159 ?_
              case y159 => (intro w hSw; (try dsimp only at hSw); go_simp; (try with_reducible rfl))
              try simp only [Act.put, List.setIfInBounds_toArray, List.set_cons_zero, List.set_cons_succ]
              refine take_on (i := 13) (v := ?v160) rfl (by kernel_rfl) (by kernel_rfl) (by kernel_rfl) (fun _ _ _ h => h) (by rfl) (by assumption) ?y160 ?_
              case y160 => (intro w hSw; (try dsimp only at hSw); go_simp; (try with_reducible rfl))
              try simp only [Act.put, List.setIfInBounds_toArray, List.set_cons_zero, List.set_cons_succ]
              refine take_on (i := 14) (v := ?v161) rfl (by kernel_rfl) (by kernel_rfl) (by kernel_rfl) (fun _ _ _ h => h) (by rfl) (by assumption) ?y161 ?_
              case y161 => (intro w hSw; (try dsimp only at hSw); go_simp; (try with_reducible rfl))
              try simp only [Act.put, List.setIfInBounds_toArray, List.set_cons_zero, List.set_cons_succ]
              refine take_on (i := 15) (v := ?v162) rfl (by kernel_rfl) (by kernel_rfl) (by kernel_rfl) (fun _ _ _ h => h) (by rfl) (by assumption) ?y162 ?_
              case y162 => (intro w hSw; (try dsimp only at hSw); go_simp; (try with_reducible rfl))
              try simp only [Act.put, List.setIfInBounds_toArray, List.set_cons_zero, List.set_cons_succ]
              refine take_on (i := 16) (v := ?v163) rfl (by kernel_rfl) (by kernel_rfl) (by kernel_rfl) (fun _ _ _ h => h) (by rfl) (by assumption) ?y163 ?_
              case y163 => (intro w hSw; (try dsimp only at hSw); go_simp; (try with_reducible rfl))
              try simp only [Act.put, List.setIfInBounds_toArray, List.set_cons_zero, List.set_cons_succ]
              refine take_on (i := 17) (v := ?v164) rfl (by kernel_rfl) (by kernel_rfl) (by kernel_rfl) (fun _ _ _ h => h) (by rfl) (by assumption) ?y164 ?_
              case y164 => (intro w hSw; (try dsimp only at hSw); go_simp; (try with_reducible rfl))
              try simp only [Act.put, List.setIfInBounds_toArray, List.set_cons_zero, List.set_cons_succ]
              refine wpAnyH_done (by kernel_rfl) ?_ _
              have AH := hHeld.1
              clear hHeld
              go_wp2
              go_roundw
              case rel => exact ⟨rfl, j + 1, by omega, by go_num, haf.trans AH⟩
              case measure => simp [intOf]; omega

theorem own : ownKnob Tryd.prog.godebug = none := by kernel_rfl
theorem laidOut : laidOutB Tryd.prog = true := by kernel_rfl

set_option maxRecDepth 100000 in
theorem contract (H : Type) (enc : TypeId × Value → H) (W : World) (base : Nat) (args : Array Value) (ds gs : List (DataW H)) (before : List MemPlace)
    (hval : ∀ (j : Nat) t v, Tryd.f10.params[j]? = some t → args[j]? = some v → Value.okWide Tryd.prog W .any base t v)
    (hW : DataW.Whole enc Tryd.prog Tryd.f10.params.toList Rows.lunisolarFollowsSpec.vars false W args.toList ds gs before) (hsz0 : (DataW.weightsEach Tryd.prog (Tryd.f10.params.toList ++ Rows.lunisolarFollowsSpec.plain.varTypes Tryd.prog) (ds ++ gs)).all (· ≤ reachBytes) = true) (hL : laidMetH Tryd.prog listed W) :
    Calls Tryd.prog 10 args W fun e W' => ∃ v, e = .returned v ∧ Rows.lunisolarFollowsSpec.post enc Tryd.prog Tryd.f10 false true false false W args v W' := by
  have hW' := hW
  obtain ⟨p, q, hA0, hV, rfl, hfz, hnd⟩ := hW
  have hA : DataW.TrodAll enc Tryd.prog W 0 (fun _ => true) true Tryd.f10.params.toList args.toList ds p := hA0
  have hsz := hsz0
  rw [Tryd.params10] at hA hval hsz
  obtain ⟨v0, vs0, d0, ds0, p0, q0, hargs, rfl, rfl, h0, r0⟩ := trodAll_cons hA
  obtain ⟨rfl, rfl, rfl⟩ := trodAll_nil r0
  obtain rfl : args = #[v0] := by cases args; simp_all
  obtain ⟨rfl, rfl⟩ := trodVars_none hV
  obtain ⟨xs0, rfl, rfl, rfl, z0⟩ := open_int Tryd.underlying3 (hval 0 3 v0 rfl rfl) h0
  clear hA0
  refine (walk xs0 W (tabs_of hL) z0).mono fun e W' ⟨he, bel⟩ => ?_
  subst he
  exact ⟨_, rfl, _, _, _, [], _, [], hW', trodAll_mk1 (shut_bool Tryd.underlying4 _), (trodAll_cons_mk (shut_int Tryd.underlying3 z0) trodAll_mk0), rfl, Below.frame bel _, fun h => by cases h⟩

theorem witness_row (os : Os) {H : Type} (enc : TypeId × Value → H) :
    (OpenSpec.ofChange Rows.lunisolarFollowsSpec).preRow enc Tryd.prog Tryd.f10 Rows.lunisolarFollowsRow.domain false Rows.lunisolarFollowsRow.laid ((laidWorld os).forCall (fun _ _ => 0) ⟨#[], #[.int .i64 0], []⟩).memory #[.int .i64 0] := by
  have hw : (DataW.whole enc Tryd.prog ((laidWorld os).forCall (fun _ _ => 0) ⟨#[], #[.int .i64 0], []⟩).memory Tryd.f10.params.toList Rows.lunisolarFollowsSpec.vars false (#[.int .i64 0] : Array Value).toList 8).map (fun x => (x.1, x.2.1)) =
      some ([.lit (.int .i64 0)], []) := by kernel_rfl
  obtain ⟨⟨x1, x2, x3⟩, hx, hx1⟩ := Option.map_eq_some_iff.1 hw
  simp only [Prod.mk.injEq] at hx1
  obtain ⟨rfl, rfl⟩ := hx1
  exact OpenSpec.preRow_of_cond 8 hx (by kernel_rfl) (fun k hk => by cases hk) (by kernel_rfl) (laid_met os _)

set_option maxRecDepth 100000 in
theorem lifted (os : Os) (started : os.Started) (H : Type) (enc : TypeId × Value → H) (F : Stop.Interp) :
    ReturnsInHanded {} Tryd.checked os 10 .any ((OpenSpec.ofChange Rows.lunisolarFollowsSpec).preRow enc Tryd.prog Tryd.f10 Rows.lunisolarFollowsRow.domain false Rows.lunisolarFollowsRow.laid) (((OpenSpec.ofChange Rows.lunisolarFollowsSpec).at F).post enc Tryd.prog Tryd.f10 false true false false) := by
  refine returnsInHanded_of_row (C := Tryd.checked) (s := (OpenSpec.ofChange Rows.lunisolarFollowsSpec)) own started (by kernel_rfl) Tryd.func10
    (witness_row_atRef (enc := enc) (C := Tryd.checked) false (laidWorld os) #[.int .i64 0] rfl (by kernel_rfl) (by kernel_rfl) (by kernel_rfl) (witness_row os enc)) ?_
  intro W base args ds gs before hval hW _ _ hsz hL _ _
  exact contract H enc W base args ds gs before hval hW hsz hL

theorem row : Rows.LunisolarFollowsSaid :=
  OpenClaim.holds_of_cond 10 Tryd.f10 rfl rfl rfl rfl rfl rfl rfl ⟨rfl, rfl, rfl, rfl, rfl⟩ rfl rfl rfl rfl rfl (by kernel_rfl) Tryd.func10 (by kernel_rfl)
    (of_decide_eq_true (by kernel_rfl)) (by unfold Func.isWrapper; rw [if_neg (of_decide_eq_false (by kernel_rfl))]; exact ⟨rfl, rfl⟩)
    (fun os started H enc _ F0 => by rw [OpenClaim.pre_eq_preRow]; exact lifted os started H enc F0)

/-- No parameter wants a stand-in; the program's own looks are off. -/
theorem plain (f : FuncId) (fn : Func) (hf : Tryd.pinned.checked.prog.funcNamed "pentaglot/pentaglotlaw18.LunisolarFollows" = some f) (hfn : Tryd.pinned.checked.prog.funcs[f]? = some fn) :
    false = Tryd.pinned.checked.prog.looks [] ∧ ∀ (j : Nat) t, fn.params[j]? = some t → Tryd.pinned.checked.prog.wantsStandIn t = false := by
  obtain rfl : f = 10 := Option.some.inj ((show Tryd.prog.funcNamed "pentaglot/pentaglotlaw18.LunisolarFollows" = some 10 by kernel_rfl).symm.trans hf) |>.symm
  obtain rfl : fn = Tryd.f10 := (Option.some.inj (Tryd.func10.symm.trans hfn)).symm
  refine ⟨by kernel_rfl, fun j t ht => ?_⟩
  rw [Tryd.params10] at ht
  have hm : t = 3 := by simpa using Array.mem_of_getElem? ht
  rcases hm with rfl
  · exact (show Tryd.prog.wantsStandIn 3 = false by kernel_rfl)

theorem proved : Rows.LunisolarFollowsCardSaid :=
  Claim7.holds_tied_plain_at .later [] _ _ _ _ row (fun _ h => by cases h) (by kernel_rfl) (fun _ h => by cases h) lunisolarFollows_row_tie rfl ⟨rfl, rfl⟩ (by kernel_rfl) rfl plain (by kernel_rfl)
#print axioms proved
end Go.Proofs.YtdeojpmimhagjabDoor.lawNFollows
