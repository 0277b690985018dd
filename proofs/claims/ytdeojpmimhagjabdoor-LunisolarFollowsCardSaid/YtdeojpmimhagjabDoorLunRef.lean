/-
  The reference's Valid, Day, Same and Before. Conditions: the numbers fit an int.
-/
import Derived.Test.YtdeojpmimhagjabDoorLunDay
namespace Go.Proofs.YtdeojpmimhagjabDoor
open Go.RowKit
open LunPlain

set_option maxRecDepth 100000 in
set_option maxHeartbeats 1600000 in
theorem refValid_any (c y m d : Int) (l : Bool) (w : World) : Calls Tryd.prog 38 #[(.agg #[.int .i64 c, .int .i64 y, .int .i64 m, .int .i64 d, .bool l])] w (BoolPost w (decide (okD c y m l d))) := by
  have HMD := Lib.hid (fun w => refMonthDays_any c y m d l w)
  have hmb := mdV_bd c y m l
  have A0 := (Aft.refl w).alloc (.cells #[.int .i64 c, .int .i64 y, .int .i64 m, .int .i64 d, .bool l] 34)
  have b0 := BoxD.new w c y m d l
  obtain ⟨c0, c1, c2, c3, c4⟩ := b0.five
  clear b0
  by_cases hd1 : 1 ≤ d
  · have hgd := decide_eq_true hd1
    have HV := Lib.hid (show decide (okD c y m l d) = decide (d ≤ mdV c y m l) by
      by_cases h : d ≤ mdV c y m l
      · rw [decide_eq_true h]; exact decide_eq_true ⟨hd1, h⟩
      · rw [decide_eq_false h]; exact decide_eq_false (fun k => h k.2))
    rw [HV.out]
    generalize mdV c y m l = M at *
    clear HV
    go_enter Tryd.func38, Tryd.ntmps38
    go_wp2
    refine wp_region_held_drew (S := fun w' => Aft (w.alloc (.cells #[.int .i64 c, .int .i64 y, .int .i64 m, .int .i64 d, .bool l] 34)) w' ∧ w'.cell? ⟨w.heap.size, 0, none⟩ = some (.int .i64 c) ∧ w'.cell? ⟨w.heap.size, 1, none⟩ = some (.int .i64 y) ∧ w'.cell? ⟨w.heap.size, 2, none⟩ = some (.int .i64 m) ∧ w'.cell? ⟨w.heap.size, 3, none⟩ = some (.int .i64 d) ∧ w'.cell? ⟨w.heap.size, 4, none⟩ = some (.bool l)) (by kernel_rfl) (⟨Below.drew (Aft.refl _), c0, c1, c2, c3, c4⟩) (fun hHeld => ?_)
    refine take_on (i := 0) (v := ?v1) rfl (by kernel_rfl) (by kernel_rfl) (by kernel_rfl) (fun _ _ _ h => h) (by rfl) (by assumption) ?y1 ?_
    case y1 => (intro w hSw; (try dsimp only at hSw); go_simp; (try with_reducible rfl))
    try simp only [Act.put, List.setIfInBounds_toArray, List.set_cons_zero, List.set_cons_succ]
    refine take_on (i := 1) (v := ?v2) rfl (by kernel_rfl) (by kernel_rfl) (by kernel_rfl) (fun _ _ _ h => h) (by rfl) (by assumption) ?y2 ?_
    case y2 => (intro w hSw; (try dsimp only at hSw); go_simp; (try with_reducible rfl))
    try simp only [Act.put, List.setIfInBounds_toArray, List.set_cons_zero, List.set_cons_succ]
    refine take_on (i := 2) (v := ?v3) rfl (by kernel_rfl) (by kernel_rfl) (by kernel_rfl) (fun _ _ _ h => h) (by rfl) (by assumption) ?y3 ?_
    case y3 => (intro w hSw; (try dsimp only at hSw); go_simp; (try with_reducible rfl))
    try simp only [Act.put, List.setIfInBounds_toArray, List.set_cons_zero, List.set_cons_succ]
    refine take_on (i := 3) (v := ?v4) rfl (by kernel_rfl) (by kernel_rfl) (by kernel_rfl) (fun _ _ _ h => h) (by rfl) (by assumption) ?y4 ?_
    case y4 => (intro w hSw; (try dsimp only at hSw); go_simp; (try with_reducible rfl))
    try simp only [Act.put, List.setIfInBounds_toArray, List.set_cons_zero, List.set_cons_succ]
    refine take_on (i := 4) (v := ?v5) rfl (by kernel_rfl) (by kernel_rfl) (by kernel_rfl) (fun _ _ _ h => h) (by rfl) (by assumption) ?y5 ?_
    case y5 => (intro w hSw; (try dsimp only at hSw); go_simp; (try with_reducible rfl))
    try simp only [Act.put, List.setIfInBounds_toArray, List.set_cons_zero, List.set_cons_succ]
    refine take_on (i := 5) (v := ?v6) rfl (by kernel_rfl) (by kernel_rfl) (by kernel_rfl) (fun _ _ _ h => h) (by rfl) (by assumption) ?y6 ?_
    case y6 => (intro w hSw; (try dsimp only at hSw); go_simp; (try with_reducible rfl))
    try simp only [Act.put, List.setIfInBounds_toArray, List.set_cons_zero, List.set_cons_succ]
    refine take_on (i := 6) (v := ?v7) rfl (by kernel_rfl) (by kernel_rfl) (by kernel_rfl) (fun _ _ _ h => h) (by rfl) (by assumption) ?y7 ?_
    case y7 => (intro w hSw; (try dsimp only at hSw); go_simp; (try with_reducible rfl))
    try simp only [Act.put, List.setIfInBounds_toArray, List.set_cons_zero, List.set_cons_succ]
    refine one_ready (i := 7) rfl (by kernel_rfl) (by rfl) (fun K hK => ?_)
    go_simp
    go_at_call 24
    refine (HMD.out _).mono ?_
    rintro e' w' ⟨rfl, N9⟩
    have hh : (fun w' => Aft (w.alloc (.cells #[.int .i64 c, .int .i64 y, .int .i64 m, .int .i64 d, .bool l] 34)) w' ∧ w'.cell? ⟨w.heap.size, 0, none⟩ = some (.int .i64 c) ∧ w'.cell? ⟨w.heap.size, 1, none⟩ = some (.int .i64 y) ∧ w'.cell? ⟨w.heap.size, 2, none⟩ = some (.int .i64 m) ∧ w'.cell? ⟨w.heap.size, 3, none⟩ = some (.int .i64 d) ∧ w'.cell? ⟨w.heap.size, 4, none⟩ = some (.bool l)) w' := ds_aft hHeld (Aft.trans (by first | exact Aft.refl _ | exact Below.drew (Aft.refl _)) N9)
    clear N9
    try go_simp
    refine hK.out _ _ (by first | exact hh | exact ⟨Below.drew hh.1, hh.2⟩ | exact hHeld) (fun hHeld => ?_)
    clear hK K
    try simp only [Act.put, List.setIfInBounds_toArray, List.set_cons_zero, List.set_cons_succ]
    refine take_on (i := 8) (v := ?v9) rfl (by kernel_rfl) (by kernel_rfl) (by kernel_rfl) (fun _ _ _ h => h) (by rfl) (by assumption) ?y9 ?_
    case y9 => (intro w hSw; (try dsimp only at hSw); go_simp; (try with_reducible rfl))
    try simp only [Act.put, List.setIfInBounds_toArray, List.set_cons_zero, List.set_cons_succ]
    refine take_on (i := 9) (v := ?v10) rfl (by kernel_rfl) (by kernel_rfl) (by kernel_rfl) (fun _ _ _ h => h) (by rfl) (by assumption) ?y10 ?_
    case y10 => (intro w hSw; (try dsimp only at hSw); go_simp; (try with_reducible rfl))
    try simp only [Act.put, List.setIfInBounds_toArray, List.set_cons_zero, List.set_cons_succ]
    refine take_on (i := 10) (v := ?v11) rfl (by kernel_rfl) (by kernel_rfl) (by kernel_rfl) (fun _ _ _ h => h) (by rfl) (by assumption) ?y11 ?_
    case y11 => (intro w hSw; (try dsimp only at hSw); go_simp; (try with_reducible rfl))
    try simp only [Act.put, List.setIfInBounds_toArray, List.set_cons_zero, List.set_cons_succ]
    refine wpAnyH_done (by kernel_rfl) ?_ _
    go_wp2
    go_ret
    exact ⟨by first | rfl | simp, A0.trans hHeld.1⟩
  · have hgd := decide_eq_false hd1
    rw [show decide (okD c y m l d) = false from decide_eq_false (fun k => hd1 k.1)]
    go_enter Tryd.func38, Tryd.ntmps38
    go_wp2
    refine wp_region_held_drew (S := fun w' => Aft (w.alloc (.cells #[.int .i64 c, .int .i64 y, .int .i64 m, .int .i64 d, .bool l] 34)) w' ∧ w'.cell? ⟨w.heap.size, 0, none⟩ = some (.int .i64 c) ∧ w'.cell? ⟨w.heap.size, 1, none⟩ = some (.int .i64 y) ∧ w'.cell? ⟨w.heap.size, 2, none⟩ = some (.int .i64 m) ∧ w'.cell? ⟨w.heap.size, 3, none⟩ = some (.int .i64 d) ∧ w'.cell? ⟨w.heap.size, 4, none⟩ = some (.bool l)) (by kernel_rfl) (⟨Below.drew (Aft.refl _), c0, c1, c2, c3, c4⟩) (fun hHeld => ?_)
    refine take_on (i := 0) (v := ?v12) rfl (by kernel_rfl) (by kernel_rfl) (by kernel_rfl) (fun _ _ _ h => h) (by rfl) (by assumption) ?y12 ?_
    case y12 => (intro w hSw; (try dsimp only at hSw); go_simp; (try with_reducible rfl))
    try simp only [Act.put, List.setIfInBounds_toArray, List.set_cons_zero, List.set_cons_succ]
    refine take_on (i := 1) (v := ?v13) rfl (by kernel_rfl) (by kernel_rfl) (by kernel_rfl) (fun _ _ _ h => h) (by rfl) (by assumption) ?y13 ?_
    case y13 => (intro w hSw; (try dsimp only at hSw); go_simp; (try with_reducible rfl))
    try simp only [Act.put, List.setIfInBounds_toArray, List.set_cons_zero, List.set_cons_succ]
    refine take_on (i := 2) (v := ?v14) rfl (by kernel_rfl) (by kernel_rfl) (by kernel_rfl) (fun _ _ _ h => h) (by rfl) (by assumption) ?y14 ?_
    case y14 => (intro w hSw; (try dsimp only at hSw); go_simp; (try with_reducible rfl))
    try simp only [Act.put, List.setIfInBounds_toArray, List.set_cons_zero, List.set_cons_succ]
    refine take_on (i := 3) (v := ?v15) rfl (by kernel_rfl) (by kernel_rfl) (by kernel_rfl) (fun _ _ _ h => h) (by rfl) (by assumption) ?y15 ?_
    case y15 => (intro w hSw; (try dsimp only at hSw); go_simp; (try with_reducible rfl))
    try simp only [Act.put, List.setIfInBounds_toArray, List.set_cons_zero, List.set_cons_succ]
    refine take_off (i := 4) rfl (by kernel_rfl) (by kernel_rfl) (by kernel_rfl) (fun _ _ _ h => h) (by rfl) (by assumption) ?_
    try simp only [Act.put, List.setIfInBounds_toArray, List.set_cons_zero, List.set_cons_succ]
    refine take_off (i := 5) rfl (by kernel_rfl) (by kernel_rfl) (by kernel_rfl) (fun _ _ _ h => h) (by rfl) (by assumption) ?_
    try simp only [Act.put, List.setIfInBounds_toArray, List.set_cons_zero, List.set_cons_succ]
    refine take_off (i := 6) rfl (by kernel_rfl) (by kernel_rfl) (by kernel_rfl) (fun _ _ _ h => h) (by rfl) (by assumption) ?_
    try simp only [Act.put, List.setIfInBounds_toArray, List.set_cons_zero, List.set_cons_succ]
    refine take_off (i := 7) rfl (by kernel_rfl) (by kernel_rfl) (by kernel_rfl) (fun _ _ _ h => h) (by rfl) (by assumption) ?_
    try simp only [Act.put, List.setIfInBounds_toArray, List.set_cons_zero, List.set_cons_succ]
    refine take_off (i := 8) rfl (by kernel_rfl) (by kernel_rfl) (by kernel_rfl) (fun _ _ _ h => h) (by rfl) (by assumption) ?_
    try simp only [Act.put, List.setIfInBounds_toArray, List.set_cons_zero, List.set_cons_succ]
    refine take_on (i := 9) (v := ?v21) rfl (by kernel_rfl) (by kernel_rfl) (by kernel_rfl) (fun _ _ _ h => h) (by rfl) (by assumption) ?y21 ?_
    case y21 => (intro w hSw; (try dsimp only at hSw); go_simp; (try with_reducible rfl))
    try simp only [Act.put, List.setIfInBounds_toArray, List.set_cons_zero, List.set_cons_succ]
    refine take_on (i := 10) (v := ?v22) rfl (by kernel_rfl) (by kernel_rfl) (by kernel_rfl) (fun _ _ _ h => h) (by rfl) (by assumption) ?y22 ?_
    case y22 => (intro w hSw; (try dsimp only at hSw); go_simp; (try with_reducible rfl))
    try simp only [Act.put, List.setIfInBounds_toArray, List.set_cons_zero, List.set_cons_succ]
    refine wpAnyH_done (by kernel_rfl) ?_ _
    go_wp2
    go_ret
    exact ⟨by first | rfl | simp, A0.trans hHeld.1⟩

set_option maxRecDepth 100000 in
set_option maxHeartbeats 1600000 in
theorem refDay_any (c y m d : Int) (l : Bool) (w : World) : Calls Tryd.prog 29 #[(.agg #[.int .i64 c, .int .i64 y, .int .i64 m, .int .i64 d, .bool l])] w (ValPost w (.tuple #[.int .i64 (dayV c y m l d).1, .int .i64 (dayV c y m l d).2])) := by
  have HVD := Lib.hid (fun w => refValid_any c y m d l w)
  have A0 := (Aft.refl w).alloc (.cells #[.int .i64 c, .int .i64 y, .int .i64 m, .int .i64 d, .bool l] 34)
  have b0 := BoxD.new w c y m d l
  obtain ⟨c0, c1, c2, c3, c4⟩ := b0.five
  clear b0
  by_cases hok : okD c y m l d
  · rw [decide_eq_true hok] at HVD
    have hd1 := hok.1
    obtain ⟨rfl, hex, hd3⟩ := hok.in_
    have y0 := hex.1
    obtain ⟨k0, k1, k2, kix, kmo, kml, _⟩ := ok_ix hex
    obtain ⟨k, rfl⟩ : ∃ k : Nat, k0 = (k : Int) := ⟨k0.toNat, by omega⟩
    have HYS := Lib.hid (fun w => refYs_any y w)
    have HV := Lib.hid (show ¬ ys y ≤ 999999 → dayV 2 y m l d = (0, 2) from fun h => dayV_big hok (by have := (num_range hok).1; omega))
    have HU1 := Lib.hid (show ys y + ck (leapB y) k + d - 1 ≤ 999999 → dayV 2 y m l d = (ys y + ck (leapB y) k + d - 1, 0) from fun q => by
      have e : num y m l d = ys y + ck (leapB y) k + d - 1 := by unfold num; rw [kix]
      rw [dayV_ok hok (by omega), e])
    have HU2 := Lib.hid (show ¬ ys y + ck (leapB y) k + d - 1 ≤ 999999 → dayV 2 y m l d = (0, 2) from fun q => by
      have e : num y m l d = ys y + ck (leapB y) k + d - 1 := by unfold num; rw [kix]
      rw [dayV_big hok (by omega)])
    have hd31 : d ≤ 31 := by have := md_bd m l; omega
    have HM := Lib.hid (fun w => refMonths_any y w)
    have HZ := Lib.hid (ck_zero (leapB y))
    have HME := Lib.hid (fun (j : Nat) hj => md_ent y0 (j := j) hj)
    have HSC := Lib.hid (fun (j : Nat) (hj : (j : Int) < nm (leapB y)) => ck_succ (leapB y) (k := (j : Int)) (by omega) hj)
    have HNE := Lib.hid (fun (j : Nat) hj h => ent_ne (b := leapB y) (j := j) (k := k) hj k2 h)
    have hkk := nmN_nm (leapB y)
    have hnb := nm_bd (leapB y)
    clear hok hex hd3 kix
    generalize hdv : dayV 2 y m l d = V at *
    clear hdv
    by_cases hys : ys y ≤ 999999
    · rw [rysV_ok y0 hys] at HYS
      dsimp only at HYS
      clear HV
      have hS0 : (0 : Int) ≤ ys y := by have := ys_ge y0; omega
      generalize ys y = S at *
      go_enter Tryd.func29, Tryd.ntmps29
      go_wp2_with fail
      refine (HVD.out _).mono ?_
      rintro e w1 ⟨rfl, N1⟩
      have x0 := N1.cell c0; have x1 := N1.cell c1; have x2 := N1.cell c2; have x3 := N1.cell c3; have x4 := N1.cell c4
      have A1 := A0.trans N1
      clear c0 c1 c2 c3 c4 A0 N1 HVD
      go_wp2_with fail
      refine (HYS.out _).mono ?_
      rintro e' w' ⟨rfl, rfl⟩
      go_wp2_with fail
      refine (HM.out _).mono ?_
      rintro e' w3 ⟨A, cp, rfl, hms, N3⟩
      rw [if_neg (show ¬ y < 0 by omega)] at hms ⊢
      have X0 := N3.cell x0; have X1 := N3.cell x1; have X2 := N3.cell x2; have X3 := N3.cell x3; have X4 := N3.cell x4
      have A3 := A1.trans N3
      have HMS := Lib.hid hms
      have hcp := hms.le
      have hcm := hms.cmax
      have HKK := Lib.hid hkk
      have hnmle : nmN (leapB y) ≤ 13 := by omega
      have hk2 : k < nmN (leapB y) := by omega
      clear hms hkk N3 A1 x0 x1 x2 x3 x4 HYS HM
      generalize hnn : nmN (leapB y) = NN at *
      clear hnn
      have X0 := Lib.hid X0; have X1 := Lib.hid X1; have X2 := Lib.hid X2; have X3 := Lib.hid X3; have X4 := Lib.hid X4
      go_wp2
      generalize hW3 : w3 = W3 at *
      clear hW3
      go_loopw [4, 7] (fun s i wr => ∃ j : Nat, j ≤ k ∧ i = .int .i64 (j : Int) ∧ s = .int .i64 (S + ck (leapB y) j) ∧ Aft W3 wr) (fun _ i _ => NN - (intOf i).toNat)
      case atStart => exact ⟨0, Nat.zero_le _, rfl, by rw [show ((0 : Nat) : Int) = 0 from rfl, HZ.out, Int.add_zero], Aft.refl _⟩
      case round =>
        obtain ⟨j, hj, rfl, rfl, haf⟩ := hrel
        have hjN : j < NN := by omega
        obtain ⟨bl, off, rfl, d0, d1, d2, d3, d4⟩ := (HMS.out.aft haf).cells j hjN
        have hji : (j : Int) < (NN : Int) := by omega
        have hjn : (j : Int) < nm (leapB y) := by have := HKK.out; omega
        have hck := ck_bd (leapB y) (k := (j : Int)) (by omega) (by omega)
        have y0' := haf.cell X0.out; have y1 := haf.cell X1.out; have y2 := haf.cell X2.out; have y3 := haf.cell X3.out; have y4 := haf.cell X4.out
        by_cases hjk : j = k
        · subst hjk
          have hm1 : (mo (leapB y) j == m) = true := by simp [kmo]
          have hm2 : (mo (leapB y) j != m) = false := by simp [kmo]
          have hl1 : (ml (leapB y) j == l) = true := by simp [kml]
          have hl2 : (ml (leapB y) j != l) = false := by simp [kml]
          clear kmo kml
          generalize mo (leapB y) j = MM at *
          generalize ml (leapB y) j = LL at *
          generalize ck (leapB y) j = q at *
          go_wp2
          refine wp_region_held_drew (S := fun w' => Aft wr w' ∧ w'.cell? ⟨bl, off + j * 5, none⟩ = some (.int .i64 2) ∧ w'.cell? ⟨bl, off + j * 5 + 1, none⟩ = some (.int .i64 y) ∧ w'.cell? ⟨bl, off + j * 5 + 2, none⟩ = some (.int .i64 MM) ∧ w'.cell? ⟨bl, off + j * 5 + 3, none⟩ = some (.int .i64 1) ∧ w'.cell? ⟨bl, off + j * 5 + 4, none⟩ = some (.bool LL) ∧ w'.cell? ⟨w.heap.size, 0, none⟩ = some (.int .i64 2) ∧ w'.cell? ⟨w.heap.size, 1, none⟩ = some (.int .i64 y) ∧ w'.cell? ⟨w.heap.size, 2, none⟩ = some (.int .i64 m) ∧ w'.cell? ⟨w.heap.size, 3, none⟩ = some (.int .i64 d) ∧ w'.cell? ⟨w.heap.size, 4, none⟩ = some (.bool l)) (by kernel_rfl) (⟨Below.drew (Aft.refl _), d0, d1, d2, d3, d4, y0', y1, y2, y3, y4⟩) (fun hHeld => ?_)
          refine take_on (i := 0) (v := ?v23) rfl (by kernel_rfl) (by kernel_rfl) (by kernel_rfl) (fun _ _ _ h => h) (by rfl) (by assumption) ?y23 ?_
          case y23 => (intro w hSw; (try dsimp only at hSw); go_simp; (try with_reducible rfl))
          try simp only [Act.put, List.setIfInBounds_toArray, List.set_cons_zero, List.set_cons_succ]
          refine take_on (i := 1) (v := ?v24) rfl (by kernel_rfl) (by kernel_rfl) (by kernel_rfl) (fun _ _ _ h => h) (by rfl) (by assumption) ?y24 ?_
          case y24 => (intro w hSw; (try dsimp only at hSw); go_simp; (try with_reducible rfl))
          try simp only [Act.put, List.setIfInBounds_toArray, List.set_cons_zero, List.set_cons_succ]
          refine take_on (i := 2) (v := ?v25) rfl (by kernel_rfl) (by kernel_rfl) (by kernel_rfl) (fun _ _ _ h => h) (by rfl) (by assumption) ?y25 ?_
          case y25 => (intro w hSw; (try dsimp only at hSw); go_simp; (try with_reducible rfl))
          try simp only [Act.put, List.setIfInBounds_toArray, List.set_cons_zero, List.set_cons_succ]
          refine take_on (i := 3) (v := ?v26) rfl (by kernel_rfl) (by kernel_rfl) (by kernel_rfl) (fun _ _ _ h => h) (by rfl) (by assumption) ?y26 ?_
          case y26 => (intro w hSw; (try dsimp only at hSw); go_simp; (try with_reducible rfl))
          try simp only [Act.put, List.setIfInBounds_toArray, List.set_cons_zero, List.set_cons_succ]
          refine take_on (i := 4) (v := ?v27) rfl (by kernel_rfl) (by kernel_rfl) (by kernel_rfl) (fun _ _ _ h => h) (by rfl) (by assumption) ?y27 ?_
          case y27 => (intro w hSw; (try dsimp only at hSw); go_simp; (try with_reducible rfl))
          try simp only [Act.put, List.setIfInBounds_toArray, List.set_cons_zero, List.set_cons_succ]
          refine take_on (i := 5) (v := ?v28) rfl (by kernel_rfl) (by kernel_rfl) (by kernel_rfl) (fun _ _ _ h => h) (by rfl) (by assumption) ?y28 ?_
          case y28 => (intro w hSw; (try dsimp only at hSw); go_simp; (try with_reducible rfl))
          try simp only [Act.put, List.setIfInBounds_toArray, List.set_cons_zero, List.set_cons_succ]
          refine take_on (i := 6) (v := ?v29) rfl (by kernel_rfl) (by kernel_rfl) (by kernel_rfl) (fun _ _ _ h => h) (by rfl) (by assumption) ?y29 ?_
          case y29 => (intro w hSw; (try dsimp only at hSw); go_simp; (try with_reducible rfl))
          try simp only [Act.put, List.setIfInBounds_toArray, List.set_cons_zero, List.set_cons_succ]
          refine take_on (i := 7) (v := ?v30) rfl (by kernel_rfl) (by kernel_rfl) (by kernel_rfl) (fun _ _ _ h => h) (by rfl) (by assumption) ?y30 ?_
          case y30 => (intro w hSw; (try dsimp only at hSw); go_simp; (try with_reducible rfl))
          try simp only [Act.put, List.setIfInBounds_toArray, List.set_cons_zero, List.set_cons_succ]
          refine take_on (i := 8) (v := ?v31) rfl (by kernel_rfl) (by kernel_rfl) (by kernel_rfl) (fun _ _ _ h => h) (by rfl) (by assumption) ?y31 ?_
          case y31 => (intro w hSw; (try dsimp only at hSw); go_simp; (try with_reducible rfl))
          try simp only [Act.put, List.setIfInBounds_toArray, List.set_cons_zero, List.set_cons_succ]
          refine take_on (i := 9) (v := ?v32) rfl (by kernel_rfl) (by kernel_rfl) (by kernel_rfl) (fun _ _ _ h => h) (by rfl) (by assumption) ?y32 ?_
          case y32 => (intro w hSw; (try dsimp only at hSw); go_simp; (try with_reducible rfl))
          try simp only [Act.put, List.setIfInBounds_toArray, List.set_cons_zero, List.set_cons_succ]
          refine take_on (i := 10) (v := ?v33) rfl (by kernel_rfl) (by kernel_rfl) (by kernel_rfl) (fun _ _ _ h => h) (by rfl) (by assumption) ?y33 ?_
          case y33 => (intro w hSw; (try dsimp only at hSw); go_simp; (try with_reducible rfl))
          try simp only [Act.put, List.setIfInBounds_toArray, List.set_cons_zero, List.set_cons_succ]
          refine take_on (i := 11) (v := ?v34) rfl (by kernel_rfl) (by kernel_rfl) (by kernel_rfl) (fun _ _ _ h => h) (by rfl) (by assumption) ?y34 ?_
          case y34 => (intro w hSw; (try dsimp only at hSw); go_simp; (try with_reducible rfl))
          try simp only [Act.put, List.setIfInBounds_toArray, List.set_cons_zero, List.set_cons_succ]
          refine take_on (i := 12) (v := ?v35) rfl (by kernel_rfl) (by kernel_rfl) (by kernel_rfl) (fun _ _ _ h => h) (by rfl) (by assumption) ?y35 ?_
          case y35 => (intro w hSw; (try dsimp only at hSw); go_simp; (try with_reducible rfl))
          try simp only [Act.put, List.setIfInBounds_toArray, List.set_cons_zero, List.set_cons_succ]
          refine take_on (i := 13) (v := ?v36) rfl (by kernel_rfl) (by kernel_rfl) (by kernel_rfl) (fun _ _ _ h => h) (by rfl) (by assumption) ?y36 ?_
          case y36 => (intro w hSw; (try dsimp only at hSw); go_simp; (try with_reducible rfl))
          try simp only [Act.put, List.setIfInBounds_toArray, List.set_cons_zero, List.set_cons_succ]
          refine take_on (i := 14) (v := ?v37) rfl (by kernel_rfl) (by kernel_rfl) (by kernel_rfl) (fun _ _ _ h => h) (by rfl) (by assumption) ?y37 ?_
          case y37 => (intro w hSw; (try dsimp only at hSw); go_simp; (try with_reducible rfl))
          try simp only [Act.put, List.setIfInBounds_toArray, List.set_cons_zero, List.set_cons_succ]
          refine take_on (i := 15) (v := ?v38) rfl (by kernel_rfl) (by kernel_rfl) (by kernel_rfl) (fun _ _ _ h => h) (by rfl) (by assumption) ?y38 ?_
          case y38 => (intro w hSw; (try dsimp only at hSw); go_simp; (try with_reducible rfl))
          try simp only [Act.put, List.setIfInBounds_toArray, List.set_cons_zero, List.set_cons_succ]
          refine take_on (i := 16) (v := ?v39) rfl (by kernel_rfl) (by kernel_rfl) (by kernel_rfl) (fun _ _ _ h => h) (by rfl) (by assumption) ?y39 ?_
          case y39 => (intro w hSw; (try dsimp only at hSw); go_simp; (try with_reducible rfl))
          try simp only [Act.put, List.setIfInBounds_toArray, List.set_cons_zero, List.set_cons_succ]
          refine take_on (i := 17) (v := ?v40) rfl (by kernel_rfl) (by kernel_rfl) (by kernel_rfl) (fun _ _ _ h => h) (by rfl) (by assumption) ?y40 ?_
          case y40 => (intro w hSw; (try dsimp only at hSw); go_simp; (try with_reducible rfl))
          try simp only [Act.put, List.setIfInBounds_toArray, List.set_cons_zero, List.set_cons_succ]
          refine wpAnyH_done (by kernel_rfl) ?_ _
          have A5 := (A3.trans haf).trans hHeld.1
          obtain ⟨_, _, _, _, _, _, z0, z1, z2, z3, z4⟩ := hHeld
          by_cases hbig : S + q + d - 1 ≤ 999999
          · have HE := Lib.hid (HU1.out (by first | exact hbig | omega))
            clear HU1 HU2 y0' y1 y2 y3 y4 d0 d1 d2 d3 d4
            go_wp2
            go_ret2
            exact ⟨by rw [HE.out]; rfl, A5⟩
          · have HE := Lib.hid (HU2.out (by first | exact hbig | omega))
            clear HU1 HU2 y0' y1 y2 y3 y4 d0 d1 d2 d3 d4
            go_wp2
            go_ret2
            exact ⟨by rw [HE.out]; rfl, A5⟩
        · have he := HME.out j hjn
          have HS1 := Lib.hid (HSC.out j hjn)
          have hmb2 := md_bd (mo (leapB y) j) (ml (leapB y) j)
          have HMJ := Lib.hid (fun w => refMonthDays_any 2 y (mo (leapB y) j) 1 (ml (leapB y) j) w)
          rw [he] at HMJ
          have hnm := HNE.out j hjn hjk
          rw [kmo, kml] at hnm
          have hnm2 : (mo (leapB y) j == m) = false → (mo (leapB y) j != m) = true := fun h => by simpa using h
          have hnm3 : (mo (leapB y) j == m) = true → (mo (leapB y) j != m) = false := fun h => by simpa using h
          have HN2 := Lib.hid hnm2
          have HN3 := Lib.hid hnm3
          clear he hnm2 hnm3
          generalize md (mo (leapB y) j) (ml (leapB y) j) = MD at *
          generalize mo (leapB y) j = MM at *
          generalize ml (leapB y) j = LL at *
          generalize ck (leapB y) j = q at *
          rcases hnm with h1 | ⟨h1, _, h2⟩
          · have h3 := HN2.out h1
            clear HN2 HN3
            go_wp2
            refine wp_region_held_drew (S := fun w' => Aft wr w' ∧ w'.cell? ⟨bl, off + j * 5, none⟩ = some (.int .i64 2) ∧ w'.cell? ⟨bl, off + j * 5 + 1, none⟩ = some (.int .i64 y) ∧ w'.cell? ⟨bl, off + j * 5 + 2, none⟩ = some (.int .i64 MM) ∧ w'.cell? ⟨bl, off + j * 5 + 3, none⟩ = some (.int .i64 1) ∧ w'.cell? ⟨bl, off + j * 5 + 4, none⟩ = some (.bool LL) ∧ w'.cell? ⟨w.heap.size, 0, none⟩ = some (.int .i64 2) ∧ w'.cell? ⟨w.heap.size, 1, none⟩ = some (.int .i64 y) ∧ w'.cell? ⟨w.heap.size, 2, none⟩ = some (.int .i64 m) ∧ w'.cell? ⟨w.heap.size, 3, none⟩ = some (.int .i64 d) ∧ w'.cell? ⟨w.heap.size, 4, none⟩ = some (.bool l)) (by kernel_rfl) (⟨Below.drew (Aft.refl _), d0, d1, d2, d3, d4, y0', y1, y2, y3, y4⟩) (fun hHeld => ?_)
            refine take_on (i := 0) (v := ?v41) rfl (by kernel_rfl) (by kernel_rfl) (by kernel_rfl) (fun _ _ _ h => h) (by rfl) (by assumption) ?y41 ?_
            case y41 => (intro w hSw; (try dsimp only at hSw); go_simp; (try with_reducible rfl))
            try simp only [Act.put, List.setIfInBounds_toArray, List.set_cons_zero, List.set_cons_succ]
            refine take_on (i := 1) (v := ?v42) rfl (by kernel_rfl) (by kernel_rfl) (by kernel_rfl) (fun _ _ _ h => h) (by rfl) (by assumption) ?y42 ?_
            case y42 => (intro w hSw; (try dsimp only at hSw); go_simp; (try with_reducible rfl))
            try simp only [Act.put, List.setIfInBounds_toArray, List.set_cons_zero, List.set_cons_succ]
            refine take_on (i := 2) (v := ?v43) rfl (by kernel_rfl) (by kernel_rfl) (by kernel_rfl) (fun _ _ _ h => h) (by rfl) (by assumption) ?y43 ?_
            case y43 => (intro w hSw; (try dsimp only at hSw); go_simp; (try with_reducible rfl))
            try simp only [Act.put, List.setIfInBounds_toArray, List.set_cons_zero, List.set_cons_succ]
            refine take_on (i := 3) (v := ?v44) rfl (by kernel_rfl) (by kernel_rfl) (by kernel_rfl) (fun _ _ _ h => h) (by rfl) (by assumption) ?y44 ?_
            case y44 => (intro w hSw; (try dsimp only at hSw); go_simp; (try with_reducible rfl))
            try simp only [Act.put, List.setIfInBounds_toArray, List.set_cons_zero, List.set_cons_succ]
            refine take_on (i := 4) (v := ?v45) rfl (by kernel_rfl) (by kernel_rfl) (by kernel_rfl) (fun _ _ _ h => h) (by rfl) (by assumption) ?y45 ?_
            case y45 => (intro w hSw; (try dsimp only at hSw); go_simp; (try with_reducible rfl))
            try simp only [Act.put, List.setIfInBounds_toArray, List.set_cons_zero, List.set_cons_succ]
            refine take_on (i := 5) (v := ?v46) rfl (by kernel_rfl) (by kernel_rfl) (by kernel_rfl) (fun _ _ _ h => h) (by rfl) (by assumption) ?y46 ?_
            case y46 => (intro w hSw; (try dsimp only at hSw); go_simp; (try with_reducible rfl))
            try simp only [Act.put, List.setIfInBounds_toArray, List.set_cons_zero, List.set_cons_succ]
            refine take_on (i := 6) (v := ?v47) rfl (by kernel_rfl) (by kernel_rfl) (by kernel_rfl) (fun _ _ _ h => h) (by rfl) (by assumption) ?y47 ?_
            case y47 => (intro w hSw; (try dsimp only at hSw); go_simp; (try with_reducible rfl))
            try simp only [Act.put, List.setIfInBounds_toArray, List.set_cons_zero, List.set_cons_succ]
            refine take_on (i := 7) (v := ?v48) rfl (by kernel_rfl) (by kernel_rfl) (by kernel_rfl) (fun _ _ _ h => h) (by rfl) (by assumption) ?y48 ?_
            case y48 => (intro w hSw; (try dsimp only at hSw); go_simp; (try with_reducible rfl))
            try simp only [Act.put, List.setIfInBounds_toArray, List.set_cons_zero, List.set_cons_succ]
            refine take_on (i := 8) (v := ?v49) rfl (by kernel_rfl) (by kernel_rfl) (by kernel_rfl) (fun _ _ _ h => h) (by rfl) (by assumption) ?y49 ?_
            case y49 => (intro w hSw; (try dsimp only at hSw); go_simp; (try with_reducible rfl))
            try simp only [Act.put, List.setIfInBounds_toArray, List.set_cons_zero, List.set_cons_succ]
            refine take_off (i := 9) rfl (by kernel_rfl) (by kernel_rfl) (by kernel_rfl) (fun _ _ _ h => h) (by rfl) (by assumption) ?_
            try simp only [Act.put, List.setIfInBounds_toArray, List.set_cons_zero, List.set_cons_succ]
            refine take_off (i := 10) rfl (by kernel_rfl) (by kernel_rfl) (by kernel_rfl) (fun _ _ _ h => h) (by rfl) (by assumption) ?_
            try simp only [Act.put, List.setIfInBounds_toArray, List.set_cons_zero, List.set_cons_succ]
            refine take_off (i := 11) rfl (by kernel_rfl) (by kernel_rfl) (by kernel_rfl) (fun _ _ _ h => h) (by rfl) (by assumption) ?_
            try simp only [Act.put, List.setIfInBounds_toArray, List.set_cons_zero, List.set_cons_succ]
            refine take_off (i := 12) rfl (by kernel_rfl) (by kernel_rfl) (by kernel_rfl) (fun _ _ _ h => h) (by rfl) (by assumption) ?_
            try simp only [Act.put, List.setIfInBounds_toArray, List.set_cons_zero, List.set_cons_succ]
            refine take_off (i := 13) rfl (by kernel_rfl) (by kernel_rfl) (by kernel_rfl) (fun _ _ _ h => h) (by rfl) (by assumption) ?_
            try simp only [Act.put, List.setIfInBounds_toArray, List.set_cons_zero, List.set_cons_succ]
            refine take_off (i := 14) rfl (by kernel_rfl) (by kernel_rfl) (by kernel_rfl) (fun _ _ _ h => h) (by rfl) (by assumption) ?_
            try simp only [Act.put, List.setIfInBounds_toArray, List.set_cons_zero, List.set_cons_succ]
            refine take_off (i := 15) rfl (by kernel_rfl) (by kernel_rfl) (by kernel_rfl) (fun _ _ _ h => h) (by rfl) (by assumption) ?_
            try simp only [Act.put, List.setIfInBounds_toArray, List.set_cons_zero, List.set_cons_succ]
            refine take_off (i := 16) rfl (by kernel_rfl) (by kernel_rfl) (by kernel_rfl) (fun _ _ _ h => h) (by rfl) (by assumption) ?_
            try simp only [Act.put, List.setIfInBounds_toArray, List.set_cons_zero, List.set_cons_succ]
            refine take_on (i := 17) (v := ?v58) rfl (by kernel_rfl) (by kernel_rfl) (by kernel_rfl) (fun _ _ _ h => h) (by rfl) (by assumption) ?y58 ?_
            case y58 => (intro w hSw; (try dsimp only at hSw); go_simp; (try with_reducible rfl))
            try simp only [Act.put, List.setIfInBounds_toArray, List.set_cons_zero, List.set_cons_succ]
            refine wpAnyH_done (by kernel_rfl) ?_ _
            obtain ⟨AH, z0, z1, z2, z3, z4, _, _, _, _, _⟩ := hHeld
            clear y0' y1 y2 y3 y4 d0 d1 d2 d3 d4
            go_wp2_with fail
            refine (HMJ.out _).mono ?_
            rintro e' w5 ⟨rfl, N5⟩
            go_wp2
            go_roundw
            case rel => exact ⟨j + 1, by omega, by go_num, by rw [show ((j + 1 : Nat) : Int) = (j : Int) + 1 by omega, HS1.out]; go_num, (haf.trans AH).trans N5⟩
            case measure => simp [intOf]; omega
          · have h3 := HN3.out h1
            clear HN2 HN3
            go_wp2
            refine wp_region_held_drew (S := fun w' => Aft wr w' ∧ w'.cell? ⟨bl, off + j * 5, none⟩ = some (.int .i64 2) ∧ w'.cell? ⟨bl, off + j * 5 + 1, none⟩ = some (.int .i64 y) ∧ w'.cell? ⟨bl, off + j * 5 + 2, none⟩ = some (.int .i64 MM) ∧ w'.cell? ⟨bl, off + j * 5 + 3, none⟩ = some (.int .i64 1) ∧ w'.cell? ⟨bl, off + j * 5 + 4, none⟩ = some (.bool LL) ∧ w'.cell? ⟨w.heap.size, 0, none⟩ = some (.int .i64 2) ∧ w'.cell? ⟨w.heap.size, 1, none⟩ = some (.int .i64 y) ∧ w'.cell? ⟨w.heap.size, 2, none⟩ = some (.int .i64 m) ∧ w'.cell? ⟨w.heap.size, 3, none⟩ = some (.int .i64 d) ∧ w'.cell? ⟨w.heap.size, 4, none⟩ = some (.bool l)) (by kernel_rfl) (⟨Below.drew (Aft.refl _), d0, d1, d2, d3, d4, y0', y1, y2, y3, y4⟩) (fun hHeld => ?_)
            refine take_on (i := 0) (v := ?v59) rfl (by kernel_rfl) (by kernel_rfl) (by kernel_rfl) (fun _ _ _ h => h) (by rfl) (by assumption) ?y59 ?_
            case y59 => (intro w hSw; (try dsimp only at hSw); go_simp; (try with_reducible rfl))
            try simp only [Act.put, List.setIfInBounds_toArray, List.set_cons_zero, List.set_cons_succ]
            refine take_on (i := 1) (v := ?v60) rfl (by kernel_rfl) (by kernel_rfl) (by kernel_rfl) (fun _ _ _ h => h) (by rfl) (by assumption) ?y60 ?_
            case y60 => (intro w hSw; (try dsimp only at hSw); go_simp; (try with_reducible rfl))
            try simp only [Act.put, List.setIfInBounds_toArray, List.set_cons_zero, List.set_cons_succ]
            refine take_on (i := 2) (v := ?v61) rfl (by kernel_rfl) (by kernel_rfl) (by kernel_rfl) (fun _ _ _ h => h) (by rfl) (by assumption) ?y61 ?_
            case y61 => (intro w hSw; (try dsimp only at hSw); go_simp; (try with_reducible rfl))
            try simp only [Act.put, List.setIfInBounds_toArray, List.set_cons_zero, List.set_cons_succ]
            refine take_on (i := 3) (v := ?v62) rfl (by kernel_rfl) (by kernel_rfl) (by kernel_rfl) (fun _ _ _ h => h) (by rfl) (by assumption) ?y62 ?_
            case y62 => (intro w hSw; (try dsimp only at hSw); go_simp; (try with_reducible rfl))
            try simp only [Act.put, List.setIfInBounds_toArray, List.set_cons_zero, List.set_cons_succ]
            refine take_on (i := 4) (v := ?v63) rfl (by kernel_rfl) (by kernel_rfl) (by kernel_rfl) (fun _ _ _ h => h) (by rfl) (by assumption) ?y63 ?_
            case y63 => (intro w hSw; (try dsimp only at hSw); go_simp; (try with_reducible rfl))
            try simp only [Act.put, List.setIfInBounds_toArray, List.set_cons_zero, List.set_cons_succ]
            refine take_on (i := 5) (v := ?v64) rfl (by kernel_rfl) (by kernel_rfl) (by kernel_rfl) (fun _ _ _ h => h) (by rfl) (by assumption) ?y64 ?_
            case y64 => (intro w hSw; (try dsimp only at hSw); go_simp; (try with_reducible rfl))
            try simp only [Act.put, List.setIfInBounds_toArray, List.set_cons_zero, List.set_cons_succ]
            refine take_on (i := 6) (v := ?v65) rfl (by kernel_rfl) (by kernel_rfl) (by kernel_rfl) (fun _ _ _ h => h) (by rfl) (by assumption) ?y65 ?_
            case y65 => (intro w hSw; (try dsimp only at hSw); go_simp; (try with_reducible rfl))
            try simp only [Act.put, List.setIfInBounds_toArray, List.set_cons_zero, List.set_cons_succ]
            refine take_on (i := 7) (v := ?v66) rfl (by kernel_rfl) (by kernel_rfl) (by kernel_rfl) (fun _ _ _ h => h) (by rfl) (by assumption) ?y66 ?_
            case y66 => (intro w hSw; (try dsimp only at hSw); go_simp; (try with_reducible rfl))
            try simp only [Act.put, List.setIfInBounds_toArray, List.set_cons_zero, List.set_cons_succ]
            refine take_on (i := 8) (v := ?v67) rfl (by kernel_rfl) (by kernel_rfl) (by kernel_rfl) (fun _ _ _ h => h) (by rfl) (by assumption) ?y67 ?_
            case y67 => (intro w hSw; (try dsimp only at hSw); go_simp; (try with_reducible rfl))
            try simp only [Act.put, List.setIfInBounds_toArray, List.set_cons_zero, List.set_cons_succ]
            refine take_on (i := 9) (v := ?v68) rfl (by kernel_rfl) (by kernel_rfl) (by kernel_rfl) (fun _ _ _ h => h) (by rfl) (by assumption) ?y68 ?_
            case y68 => (intro w hSw; (try dsimp only at hSw); go_simp; (try with_reducible rfl))
            try simp only [Act.put, List.setIfInBounds_toArray, List.set_cons_zero, List.set_cons_succ]
            refine take_on (i := 10) (v := ?v69) rfl (by kernel_rfl) (by kernel_rfl) (by kernel_rfl) (fun _ _ _ h => h) (by rfl) (by assumption) ?y69 ?_
            case y69 => (intro w hSw; (try dsimp only at hSw); go_simp; (try with_reducible rfl))
            try simp only [Act.put, List.setIfInBounds_toArray, List.set_cons_zero, List.set_cons_succ]
            refine take_on (i := 11) (v := ?v70) rfl (by kernel_rfl) (by kernel_rfl) (by kernel_rfl) (fun _ _ _ h => h) (by rfl) (by assumption) ?y70 ?_
            case y70 => (intro w hSw; (try dsimp only at hSw); go_simp; (try with_reducible rfl))
            try simp only [Act.put, List.setIfInBounds_toArray, List.set_cons_zero, List.set_cons_succ]
            refine take_on (i := 12) (v := ?v71) rfl (by kernel_rfl) (by kernel_rfl) (by kernel_rfl) (fun _ _ _ h => h) (by rfl) (by assumption) ?y71 ?_
            case y71 => (intro w hSw; (try dsimp only at hSw); go_simp; (try with_reducible rfl))
            try simp only [Act.put, List.setIfInBounds_toArray, List.set_cons_zero, List.set_cons_succ]
            refine take_on (i := 13) (v := ?v72) rfl (by kernel_rfl) (by kernel_rfl) (by kernel_rfl) (fun _ _ _ h => h) (by rfl) (by assumption) ?y72 ?_
            case y72 => (intro w hSw; (try dsimp only at hSw); go_simp; (try with_reducible rfl))
            try simp only [Act.put, List.setIfInBounds_toArray, List.set_cons_zero, List.set_cons_succ]
            refine take_on (i := 14) (v := ?v73) rfl (by kernel_rfl) (by kernel_rfl) (by kernel_rfl) (fun _ _ _ h => h) (by rfl) (by assumption) ?y73 ?_
            case y73 => (intro w hSw; (try dsimp only at hSw); go_simp; (try with_reducible rfl))
            try simp only [Act.put, List.setIfInBounds_toArray, List.set_cons_zero, List.set_cons_succ]
            refine take_on (i := 15) (v := ?v74) rfl (by kernel_rfl) (by kernel_rfl) (by kernel_rfl) (fun _ _ _ h => h) (by rfl) (by assumption) ?y74 ?_
            case y74 => (intro w hSw; (try dsimp only at hSw); go_simp; (try with_reducible rfl))
            try simp only [Act.put, List.setIfInBounds_toArray, List.set_cons_zero, List.set_cons_succ]
            refine take_on (i := 16) (v := ?v75) rfl (by kernel_rfl) (by kernel_rfl) (by kernel_rfl) (fun _ _ _ h => h) (by rfl) (by assumption) ?y75 ?_
            case y75 => (intro w hSw; (try dsimp only at hSw); go_simp; (try with_reducible rfl))
            try simp only [Act.put, List.setIfInBounds_toArray, List.set_cons_zero, List.set_cons_succ]
            refine take_on (i := 17) (v := ?v76) rfl (by kernel_rfl) (by kernel_rfl) (by kernel_rfl) (fun _ _ _ h => h) (by rfl) (by assumption) ?y76 ?_
            case y76 => (intro w hSw; (try dsimp only at hSw); go_simp; (try with_reducible rfl))
            try simp only [Act.put, List.setIfInBounds_toArray, List.set_cons_zero, List.set_cons_succ]
            refine wpAnyH_done (by kernel_rfl) ?_ _
            obtain ⟨AH, z0, z1, z2, z3, z4, _, _, _, _, _⟩ := hHeld
            clear y0' y1 y2 y3 y4 d0 d1 d2 d3 d4
            go_wp2_with fail
            refine (HMJ.out _).mono ?_
            rintro e' w5 ⟨rfl, N5⟩
            go_wp2
            go_roundw
            case rel => exact ⟨j + 1, by omega, by go_num, by rw [show ((j + 1 : Nat) : Int) = (j : Int) + 1 by omega, HS1.out]; go_num, (haf.trans AH).trans N5⟩
            case measure => simp [intOf]; omega
    · rw [rysV_big y0 hys] at HYS
      have hV := HV.out hys
      rw [hV]
      dsimp only at HYS ⊢
      clear hV HU1 HU2 HV hys
      go_enter Tryd.func29, Tryd.ntmps29
      go_wp2_with fail
      refine (HVD.out _).mono ?_
      rintro e w1 ⟨rfl, N1⟩
      have x0 := N1.cell c0; have x1 := N1.cell c1; have x2 := N1.cell c2; have x3 := N1.cell c3; have x4 := N1.cell c4
      have A1 := A0.trans N1
      clear c0 c1 c2 c3 c4 A0 N1 HVD
      go_wp2_with fail
      refine (HYS.out _).mono ?_
      rintro e' w' ⟨rfl, rfl⟩
      go_wp2
      go_ret2
      exact ⟨rfl, A1⟩
  · rw [decide_eq_false hok] at HVD
    rw [dayV_bad hok]
    clear hok
    go_enter Tryd.func29, Tryd.ntmps29
    go_wp2_with fail
    refine (HVD.out _).mono ?_
    rintro e w1 ⟨rfl, N1⟩
    go_wp2
    go_ret2
    exact ⟨rfl, A0.trans N1⟩

set_option maxRecDepth 100000 in
set_option maxHeartbeats 1600000 in
theorem refSame_any (A B : Option Addr) (n c c' : Nat) (y : Int) (b : Bool) (w : World) (ha : Ms w A n c y b) (hb : Ms w B n c' y b) : Calls Tryd.prog 22 #[.slice A n c, .slice B n c'] w (BoolPost w true) := by
  have h1 := ha.le
  have h2 := ha.cmax
  have h3 := hb.le
  have h4 := hb.cmax
  have HA := Lib.hid ha
  have HB := Lib.hid hb
  clear ha hb
  go_enter Tryd.func22, Tryd.ntmps22
  go_wp2
  go_loopw [5] (fun i wr => ∃ k : Nat, k ≤ n ∧ i = .int .i64 (k : Int) ∧ Aft w wr) (fun i _ => n - (intOf i).toNat)
  case atStart => exact ⟨0, Nat.zero_le _, rfl, Aft.refl _⟩
  case round =>
    obtain ⟨k, hk, rfl, haf⟩ := hrel
    by_cases hlt : k < n
    · obtain ⟨bl, off, rfl, d0, d1, d2, d3, d4⟩ := (HA.out.aft haf).cells k hlt
      obtain ⟨bl2, off2, rfl, e0, e1, e2, e3, e4⟩ := (HB.out.aft haf).cells k hlt
      have hki : (k : Int) < (n : Int) := by omega
      have hq := deq_refl 2 y (mo b k) 1 (ml b k)
      generalize mo b k = MM at *
      generalize ml b k = LL at *
      go_wp2
      refine wp_region_held_drew (S := fun w' => Aft wr w' ∧ w'.cell? ⟨bl, off + k * 5, none⟩ = some (.int .i64 2) ∧ w'.cell? ⟨bl, off + k * 5 + 1, none⟩ = some (.int .i64 y) ∧ w'.cell? ⟨bl, off + k * 5 + 2, none⟩ = some (.int .i64 MM) ∧ w'.cell? ⟨bl, off + k * 5 + 3, none⟩ = some (.int .i64 1) ∧ w'.cell? ⟨bl, off + k * 5 + 4, none⟩ = some (.bool LL) ∧ w'.cell? ⟨bl2, off2 + k * 5, none⟩ = some (.int .i64 2) ∧ w'.cell? ⟨bl2, off2 + k * 5 + 1, none⟩ = some (.int .i64 y) ∧ w'.cell? ⟨bl2, off2 + k * 5 + 2, none⟩ = some (.int .i64 MM) ∧ w'.cell? ⟨bl2, off2 + k * 5 + 3, none⟩ = some (.int .i64 1) ∧ w'.cell? ⟨bl2, off2 + k * 5 + 4, none⟩ = some (.bool LL)) (by kernel_rfl) (⟨Below.drew (Aft.refl _), d0, d1, d2, d3, d4, e0, e1, e2, e3, e4⟩) (fun hHeld => ?_)
      refine take_on (i := 0) (v := ?v77) rfl (by kernel_rfl) (by kernel_rfl) (by kernel_rfl) (fun _ _ _ h => h) (by rfl) (by assumption) ?y77 ?_
      case y77 => (intro w hSw; (try dsimp only at hSw); go_simp; (try with_reducible rfl))
      try simp only [Act.put, List.setIfInBounds_toArray, List.set_cons_zero, List.set_cons_succ]
      refine take_on (i := 1) (v := ?v78) rfl (by kernel_rfl) (by kernel_rfl) (by kernel_rfl) (fun _ _ _ h => h) (by rfl) (by assumption) ?y78 ?_
      case y78 => (intro w hSw; (try dsimp only at hSw); go_simp; (try with_reducible rfl))
      try simp only [Act.put, List.setIfInBounds_toArray, List.set_cons_zero, List.set_cons_succ]
      refine take_on (i := 2) (v := ?v79) rfl (by kernel_rfl) (by kernel_rfl) (by kernel_rfl) (fun _ _ _ h => h) (by rfl) (by assumption) ?y79 ?_
      case y79 => (intro w hSw; (try dsimp only at hSw); go_simp; (try with_reducible rfl))
      try simp only [Act.put, List.setIfInBounds_toArray, List.set_cons_zero, List.set_cons_succ]
      refine take_on (i := 3) (v := ?v80) rfl (by kernel_rfl) (by kernel_rfl) (by kernel_rfl) (fun _ _ _ h => h) (by rfl) (by assumption) ?y80 ?_
      case y80 => (intro w hSw; (try dsimp only at hSw); go_simp; (try with_reducible rfl))
      try simp only [Act.put, List.setIfInBounds_toArray, List.set_cons_zero, List.set_cons_succ]
      refine take_on (i := 4) (v := ?v81) rfl (by kernel_rfl) (by kernel_rfl) (by kernel_rfl) (fun _ _ _ h => h) (by rfl) (by assumption) ?y81 ?_
      case y81 => (intro w hSw; (try dsimp only at hSw); go_simp; (try with_reducible rfl))
      try simp only [Act.put, List.setIfInBounds_toArray, List.set_cons_zero, List.set_cons_succ]
      refine take_on (i := 5) (v := ?v82) rfl (by kernel_rfl) (by kernel_rfl) (by kernel_rfl) (fun _ _ _ h => h) (by rfl) (by assumption) ?y82 ?_
      case y82 => (intro w hSw; (try dsimp only at hSw); go_simp; (try with_reducible rfl))
      try simp only [Act.put, List.setIfInBounds_toArray, List.set_cons_zero, List.set_cons_succ]
      refine take_on (i := 6) (v := ?v83) rfl (by kernel_rfl) (by kernel_rfl) (by kernel_rfl) (fun _ _ _ h => h) (by rfl) (by assumption) ?y83 ?_
      case y83 => (intro w hSw; (try dsimp only at hSw); go_simp; (try with_reducible rfl))
      try simp only [Act.put, List.setIfInBounds_toArray, List.set_cons_zero, List.set_cons_succ]
      refine take_on (i := 7) (v := ?v84) rfl (by kernel_rfl) (by kernel_rfl) (by kernel_rfl) (fun _ _ _ h => h) (by rfl) (by assumption) ?y84 ?_
      case y84 => (intro w hSw; (try dsimp only at hSw); go_simp; (try with_reducible rfl))
      try simp only [Act.put, List.setIfInBounds_toArray, List.set_cons_zero, List.set_cons_succ]
      refine take_on (i := 8) (v := ?v85) rfl (by kernel_rfl) (by kernel_rfl) (by kernel_rfl) (fun _ _ _ h => h) (by rfl) (by assumption) ?y85 ?_
      case y85 => (intro w hSw; (try dsimp only at hSw); go_simp; (try with_reducible rfl))
      try simp only [Act.put, List.setIfInBounds_toArray, List.set_cons_zero, List.set_cons_succ]
      refine wpAnyH_done (by kernel_rfl) ?_ _
      have AH := hHeld.1
      clear hHeld
      go_wp2
      go_roundw
      case rel => exact ⟨k + 1, by omega, by go_num, haf.trans AH⟩
      case measure => simp [intOf]; omega
    · obtain rfl : k = n := by omega
      go_wp2
      go_ret
      exact ⟨rfl, haf⟩

theorem order_any (a b : Int) (w : World) : Calls Tryd.prog 40 #[.int .i64 a, .int .i64 b] w (SamePost w (.int .i64 (cmpI a b))) := by
  by_cases h1 : a < b
  · rw [cmp_lt h1]
    go_enter Tryd.func40, Tryd.ntmps40
    go_wp2
    go_ret
    exact ⟨rfl, rfl⟩
  · by_cases h2 : b < a
    · rw [cmp_gt h2]
      go_enter Tryd.func40, Tryd.ntmps40
      go_wp2
      go_ret
      exact ⟨rfl, rfl⟩
    · obtain rfl : a = b := by omega
      rw [cmp_eq]
      go_enter Tryd.func40, Tryd.ntmps40
      go_wp2
      go_ret
      exact ⟨rfl, rfl⟩
set_option maxRecDepth 100000 in
set_option maxHeartbeats 1600000 in
theorem Before_any (c y m d : Int) (l : Bool) (c' y' m' d' : Int) (l' : Bool) (w : World) : Calls Tryd.prog 31 #[(.agg #[.int .i64 c, .int .i64 y, .int .i64 m, .int .i64 d, .bool l]), (.agg #[.int .i64 c', .int .i64 y', .int .i64 m', .int .i64 d', .bool l'])] w (ValPost w (.int .i64 (befV y m l d y' m' l' d'))) := by
  have A0 := ((Aft.refl w).alloc (.cells #[.int .i64 c, .int .i64 y, .int .i64 m, .int .i64 d, .bool l] 34)).alloc (.cells #[.int .i64 c', .int .i64 y', .int .i64 m', .int .i64 d', .bool l'] 34)
  obtain ⟨c0, c1, c2, c3, c4⟩ := ((BoxD.new w c y m d l).aft ((Aft.refl _).alloc (.cells #[.int .i64 c', .int .i64 y', .int .i64 m', .int .i64 d', .bool l'] 34))).five
  have HO := Lib.hid (fun a b w => order_any a b w)
  by_cases e1 : y = y'
  · subst e1
    by_cases e2 : m = m'
    · subst e2
      by_cases e3 : l = l'
      · subst e3
        have HV := Lib.hid (show befV y m l d y m l d' = cmpI d d' by unfold befV; rw [if_neg (by simp), if_neg (by simp), if_neg (by simp)])
        rw [HV.out]
        clear HV
        go_enter Tryd.func31, Tryd.ntmps31
        go_wp2_with fail
        refine (HO.out _ _ _).mono ?_
        rintro e w' ⟨rfl, rfl⟩
        go_wp2
        go_ret
        exact ⟨rfl, A0⟩
      · have HV := Lib.hid (show befV y m l d y m l' d' = (if l' = true then -1 else 1) by unfold befV; rw [if_neg (by simp), if_neg (by simp), if_pos e3])
        rw [HV.out]
        clear HV
        cases l <;> cases l' <;> simp at e3
        · go_enter Tryd.func31, Tryd.ntmps31
          go_wp2
          go_ret
          exact ⟨rfl, A0⟩
        · go_enter Tryd.func31, Tryd.ntmps31
          go_wp2
          go_ret
          exact ⟨rfl, A0⟩
    · have HV := Lib.hid (show befV y m l d y m' l' d' = cmpI m m' by unfold befV; rw [if_neg (by simp), if_pos e2])
      have e2b : (m != m') = true := by simp [e2]
      rw [HV.out]
      clear HV
      go_enter Tryd.func31, Tryd.ntmps31
      go_wp2_with fail
      refine (HO.out _ _ _).mono ?_
      rintro e w' ⟨rfl, rfl⟩
      go_wp2
      go_ret
      exact ⟨rfl, A0⟩
  · have HV := Lib.hid (show befV y m l d y' m' l' d' = cmpI y y' by unfold befV; rw [if_pos e1])
    have e1b : (y != y') = true := by simp [e1]
    rw [HV.out]
    clear HV
    go_enter Tryd.func31, Tryd.ntmps31
    go_wp2_with fail
    refine (HO.out _ _ _).mono ?_
    rintro e w' ⟨rfl, rfl⟩
    go_wp2
    go_ret
    exact ⟨rfl, A0⟩
end Go.Proofs.YtdeojpmimhagjabDoor
