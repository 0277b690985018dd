/-
  The day of a date: Day and Compare of the program, Valid and Day of the reference. Conditions: 'Tab'; the numbers fit an int.
-/
import Derived.Test.YtdeojpmimhagjabDoorLunDate
namespace Go.Proofs.YtdeojpmimhagjabDoor
open Go.RowKit
open LunPlain

theorem ds_aft {W0 w1 w2 : World} {p : Nat} {v0 v1 v2 v3 v4 : Value} (h : Aft W0 w1 ∧ w1.cell? ⟨p, 0, none⟩ = some v0 ∧ w1.cell? ⟨p, 1, none⟩ = some v1 ∧ w1.cell? ⟨p, 2, none⟩ = some v2 ∧ w1.cell? ⟨p, 3, none⟩ = some v3 ∧ w1.cell? ⟨p, 4, none⟩ = some v4) (k : Aft w1 w2) :
    Aft W0 w2 ∧ w2.cell? ⟨p, 0, none⟩ = some v0 ∧ w2.cell? ⟨p, 1, none⟩ = some v1 ∧ w2.cell? ⟨p, 2, none⟩ = some v2 ∧ w2.cell? ⟨p, 3, none⟩ = some v3 ∧ w2.cell? ⟨p, 4, none⟩ = some v4 :=
  ⟨h.1.trans k, k.cell h.2.1, k.cell h.2.2.1, k.cell h.2.2.2.1, k.cell h.2.2.2.2.1, k.cell h.2.2.2.2.2⟩
/-- What the loop over the months finds. -/
theorem ent_ne {b : Bool} {j k : Nat} (hj : (j : Int) < nm b) (hk : (k : Int) < nm b) (h : j ≠ k) : (mo b j == mo b k) = false ∨ ((mo b j == mo b k) = true ∧ (ml b j == ml b k) = false ∧ (ml b j != ml b k) = true) := by
  by_cases e : mo b j = mo b k
  · right
    have f : ml b j ≠ ml b k := fun f => h (by have := mo_inj (by omega) hj (by omega) hk e f; omega)
    exact ⟨by simp [e], by simp [f], by simp [f]⟩
  · left; simp [e]

set_option maxRecDepth 100000 in
set_option maxHeartbeats 1600000 in
theorem Day_any (c y m d : Int) (l : Bool) (w : World) (ht : Tab w) (hd : (Lit.int .i64 d).wf = true) : Calls Tryd.prog 28 #[(.agg #[.int .i64 c, .int .i64 y, .int .i64 m, .int .i64 d, .bool l])] w (ValPost w (.tuple #[.int .i64 (dayV c y m l d).1, .int .i64 (dayV c y m l d).2])) := by
  have hdr := wf_range hd
  clear hd
  have HMD := Lib.hid (fun w ht => MonthDays_any c y m d l w ht)
  have hmb := mdV_bd c y m l
  have A0 := (Aft.refl w).alloc (.cells #[.int .i64 c, .int .i64 y, .int .i64 m, .int .i64 d, .bool l] 34)
  have b0 := BoxD.new w c y m d l
  obtain ⟨c0, c1, c2, c3, c4⟩ := b0.five
  have HT := Lib.hid (ht.aft A0)
  clear ht b0
  by_cases hd1 : d < 1
  · have hgd := decide_eq_true hd1
    rw [dayV_bad (fun h => by have := h.1; omega)]
    go_enter Tryd.func28, Tryd.ntmps28
    go_wp2
    refine wp_region_held_drew (S := fun w' => Aft (w.alloc (.cells #[.int .i64 c, .int .i64 y, .int .i64 m, .int .i64 d, .bool l] 34)) w' ∧ w'.cell? ⟨w.heap.size, 0, none⟩ = some (.int .i64 c) ∧ w'.cell? ⟨w.heap.size, 1, none⟩ = some (.int .i64 y) ∧ w'.cell? ⟨w.heap.size, 2, none⟩ = some (.int .i64 m) ∧ w'.cell? ⟨w.heap.size, 3, none⟩ = some (.int .i64 d) ∧ w'.cell? ⟨w.heap.size, 4, none⟩ = some (.bool l)) (by kernel_rfl) (⟨Below.drew (Aft.refl _), c0, c1, c2, c3, c4⟩) (fun hHeld => ?_)
    refine take_on (i := 0) (v := ?v1) rfl (by kernel_rfl) (by kernel_rfl) (by kernel_rfl) (fun _ _ _ h => h) (by rfl) (by assumption) ?y1 ?_
    case y1 => (intro w hSw; (try dsimp only at hSw); go_simp; (try with_reducible rfl))
    try simp only [Act.put, List.setIfInBounds_toArray, List.set_cons_zero, List.set_cons_succ]
    refine take_on (i := 1) (v := ?v2) rfl (by kernel_rfl) (by kernel_rfl) (by kernel_rfl) (fun _ _ _ h => h) (by rfl) (by assumption) ?y2 ?_
    case y2 => (intro w hSw; (try dsimp only at hSw); go_simp; (try with_reducible rfl))
    try simp only [Act.put, List.setIfInBounds_toArray, List.set_cons_zero, List.set_cons_succ]
    refine take_on (i := 2) (v := ?v3) rfl (by kernel_rfl) (by kernel_rfl) (by kernel_rfl) (fun _ _ _ h => h) (by rfl) (by assumption) ?y3 ?_
    case y3 => (intro w hSw; (try dsimp only at hSw); go_simp; (try with_reducible rfl))
    try simp only [Act.put, List.setIfInBounds_toArray, List.set_cons_zero, List.set_cons_succ]
    refine take_on (i := 3) (v := ?v4) rfl (by kernel_rfl) (by kernel_rfl) (by kernel_rfl) (fun _ _ _ h => h) (by rfl) (by assumption) ?y4 ?_
    case y4 => (intro w hSw; (try dsimp only at hSw); go_simp; (try with_reducible rfl))
    try simp only [Act.put, List.setIfInBounds_toArray, List.set_cons_zero, List.set_cons_succ]
    refine take_off (i := 4) rfl (by kernel_rfl) (by kernel_rfl) (by kernel_rfl) (fun _ _ _ h => h) (by rfl) (by assumption) ?_
    try simp only [Act.put, List.setIfInBounds_toArray, List.set_cons_zero, List.set_cons_succ]
    refine take_off (i := 5) rfl (by kernel_rfl) (by kernel_rfl) (by kernel_rfl) (fun _ _ _ h => h) (by rfl) (by assumption) ?_
    try simp only [Act.put, List.setIfInBounds_toArray, List.set_cons_zero, List.set_cons_succ]
    refine take_off (i := 6) rfl (by kernel_rfl) (by kernel_rfl) (by kernel_rfl) (fun _ _ _ h => h) (by rfl) (by assumption) ?_
    try simp only [Act.put, List.setIfInBounds_toArray, List.set_cons_zero, List.set_cons_succ]
    refine take_off (i := 7) rfl (by kernel_rfl) (by kernel_rfl) (by kernel_rfl) (fun _ _ _ h => h) (by rfl) (by assumption) ?_
    try simp only [Act.put, List.setIfInBounds_toArray, List.set_cons_zero, List.set_cons_succ]
    refine take_off (i := 8) rfl (by kernel_rfl) (by kernel_rfl) (by kernel_rfl) (fun _ _ _ h => h) (by rfl) (by assumption) ?_
    try simp only [Act.put, List.setIfInBounds_toArray, List.set_cons_zero, List.set_cons_succ]
    refine take_on (i := 9) (v := ?v10) rfl (by kernel_rfl) (by kernel_rfl) (by kernel_rfl) (fun _ _ _ h => h) (by rfl) (by assumption) ?y10 ?_
    case y10 => (intro w hSw; (try dsimp only at hSw); go_simp; (try with_reducible rfl))
    try simp only [Act.put, List.setIfInBounds_toArray, List.set_cons_zero, List.set_cons_succ]
    refine wpAnyH_done (by kernel_rfl) ?_ _
    go_wp2
    go_ret2
    exact ⟨rfl, A0.trans hHeld.1⟩
  · have hgd := decide_eq_false hd1
    by_cases hd2 : mdV c y m l < d
    · rw [dayV_bad (fun h => by have := h.2; omega)]
      generalize mdV c y m l = M at *
      go_enter Tryd.func28, Tryd.ntmps28
      go_wp2
      refine wp_region_held_drew (S := fun w' => Aft (w.alloc (.cells #[.int .i64 c, .int .i64 y, .int .i64 m, .int .i64 d, .bool l] 34)) w' ∧ w'.cell? ⟨w.heap.size, 0, none⟩ = some (.int .i64 c) ∧ w'.cell? ⟨w.heap.size, 1, none⟩ = some (.int .i64 y) ∧ w'.cell? ⟨w.heap.size, 2, none⟩ = some (.int .i64 m) ∧ w'.cell? ⟨w.heap.size, 3, none⟩ = some (.int .i64 d) ∧ w'.cell? ⟨w.heap.size, 4, none⟩ = some (.bool l)) (by kernel_rfl) (⟨Below.drew (Aft.refl _), c0, c1, c2, c3, c4⟩) (fun hHeld => ?_)
      refine take_on (i := 0) (v := ?v11) rfl (by kernel_rfl) (by kernel_rfl) (by kernel_rfl) (fun _ _ _ h => h) (by rfl) (by assumption) ?y11 ?_
      case y11 => (intro w hSw; (try dsimp only at hSw); go_simp; (try with_reducible rfl))
      try simp only [Act.put, List.setIfInBounds_toArray, List.set_cons_zero, List.set_cons_succ]
      refine take_on (i := 1) (v := ?v12) rfl (by kernel_rfl) (by kernel_rfl) (by kernel_rfl) (fun _ _ _ h => h) (by rfl) (by assumption) ?y12 ?_
      case y12 => (intro w hSw; (try dsimp only at hSw); go_simp; (try with_reducible rfl))
      try simp only [Act.put, List.setIfInBounds_toArray, List.set_cons_zero, List.set_cons_succ]
      refine take_on (i := 2) (v := ?v13) rfl (by kernel_rfl) (by kernel_rfl) (by kernel_rfl) (fun _ _ _ h => h) (by rfl) (by assumption) ?y13 ?_
      case y13 => (intro w hSw; (try dsimp only at hSw); go_simp; (try with_reducible rfl))
      try simp only [Act.put, List.setIfInBounds_toArray, List.set_cons_zero, List.set_cons_succ]
      refine take_on (i := 3) (v := ?v14) rfl (by kernel_rfl) (by kernel_rfl) (by kernel_rfl) (fun _ _ _ h => h) (by rfl) (by assumption) ?y14 ?_
      case y14 => (intro w hSw; (try dsimp only at hSw); go_simp; (try with_reducible rfl))
      try simp only [Act.put, List.setIfInBounds_toArray, List.set_cons_zero, List.set_cons_succ]
      refine take_on (i := 4) (v := ?v15) rfl (by kernel_rfl) (by kernel_rfl) (by kernel_rfl) (fun _ _ _ h => h) (by rfl) (by assumption) ?y15 ?_
      case y15 => (intro w hSw; (try dsimp only at hSw); go_simp; (try with_reducible rfl))
      try simp only [Act.put, List.setIfInBounds_toArray, List.set_cons_zero, List.set_cons_succ]
      refine take_on (i := 5) (v := ?v16) rfl (by kernel_rfl) (by kernel_rfl) (by kernel_rfl) (fun _ _ _ h => h) (by rfl) (by assumption) ?y16 ?_
      case y16 => (intro w hSw; (try dsimp only at hSw); go_simp; (try with_reducible rfl))
      try simp only [Act.put, List.setIfInBounds_toArray, List.set_cons_zero, List.set_cons_succ]
      refine take_on (i := 6) (v := ?v17) rfl (by kernel_rfl) (by kernel_rfl) (by kernel_rfl) (fun _ _ _ h => h) (by rfl) (by assumption) ?y17 ?_
      case y17 => (intro w hSw; (try dsimp only at hSw); go_simp; (try with_reducible rfl))
      try simp only [Act.put, List.setIfInBounds_toArray, List.set_cons_zero, List.set_cons_succ]
      refine one_ready (i := 7) rfl (by kernel_rfl) (by rfl) (fun K hK => ?_)
      go_simp
      go_at_call 21
      refine (HMD.out _ (HT.out.aft (by first | exact hHeld.1 | exact Below.drew hHeld.1))).mono ?_
      rintro e' w' ⟨rfl, N9⟩
      have hh : (fun w' => Aft (w.alloc (.cells #[.int .i64 c, .int .i64 y, .int .i64 m, .int .i64 d, .bool l] 34)) w' ∧ w'.cell? ⟨w.heap.size, 0, none⟩ = some (.int .i64 c) ∧ w'.cell? ⟨w.heap.size, 1, none⟩ = some (.int .i64 y) ∧ w'.cell? ⟨w.heap.size, 2, none⟩ = some (.int .i64 m) ∧ w'.cell? ⟨w.heap.size, 3, none⟩ = some (.int .i64 d) ∧ w'.cell? ⟨w.heap.size, 4, none⟩ = some (.bool l)) w' := ds_aft hHeld (Aft.trans (by first | exact Aft.refl _ | exact Below.drew (Aft.refl _)) N9)
      clear N9
      try go_simp
      refine hK.out _ _ (by first | exact hh | exact ⟨Below.drew hh.1, hh.2⟩ | exact hHeld) (fun hHeld => ?_)
      clear hK K
      try simp only [Act.put, List.setIfInBounds_toArray, List.set_cons_zero, List.set_cons_succ]
      refine take_on (i := 8) (v := ?v19) rfl (by kernel_rfl) (by kernel_rfl) (by kernel_rfl) (fun _ _ _ h => h) (by rfl) (by assumption) ?y19 ?_
      case y19 => (intro w hSw; (try dsimp only at hSw); go_simp; (try with_reducible rfl))
      try simp only [Act.put, List.setIfInBounds_toArray, List.set_cons_zero, List.set_cons_succ]
      refine take_on (i := 9) (v := ?v20) rfl (by kernel_rfl) (by kernel_rfl) (by kernel_rfl) (fun _ _ _ h => h) (by rfl) (by assumption) ?y20 ?_
      case y20 => (intro w hSw; (try dsimp only at hSw); go_simp; (try with_reducible rfl))
      try simp only [Act.put, List.setIfInBounds_toArray, List.set_cons_zero, List.set_cons_succ]
      refine wpAnyH_done (by kernel_rfl) ?_ _
      go_wp2
      go_ret2
      exact ⟨rfl, A0.trans hHeld.1⟩
    · have hok : okD c y m l d := ⟨by omega, by omega⟩
      obtain ⟨rfl, hex, hd3⟩ := hok.in_
      have y0 := hex.1
      have hyn : ¬ y < 0 := by omega
      obtain ⟨k0, k1, k2, kix, kmo, kml, _⟩ := ok_ix hex
      obtain ⟨k, rfl⟩ : ∃ k : Nat, k0 = (k : Int) := ⟨k0.toNat, by omega⟩
      have HYS := Lib.hid (fun w => ysProg_any y w)
      have HV := Lib.hid (show ¬ ys y ≤ 999999 → dayV 2 y m l d = (0, 2) from fun h => dayV_big hok (by have := (num_range hok).1; omega))
      have HU := Lib.hid (show dayV 2 y m l d = (if ys y + ck (leapB y) k + d - 1 ≤ 999999 then ys y + ck (leapB y) k + d - 1 else 0, if ys y + ck (leapB y) k + d - 1 ≤ 999999 then 0 else 2) by
        have e : num y m l d = ys y + ck (leapB y) k + d - 1 := by unfold num; rw [kix]
        by_cases q : num y m l d ≤ 999999
        · rw [dayV_ok hok q, ← e, if_pos q, if_pos q]
        · rw [dayV_big hok q, ← e, if_neg q, if_neg q])
      have hd31 : d ≤ 31 := by have := md_bd m l; omega
      have HM := Lib.hid (fun w => Months_any y w)
      have HZ := Lib.hid (ck_zero (leapB y))
      have HME := Lib.hid (fun (j : Nat) hj => md_ent y0 (j := j) hj)
      have HSC := Lib.hid (fun (j : Nat) (hj : (j : Int) < nm (leapB y)) => ck_succ (leapB y) (k := (j : Int)) (by omega) hj)
      have HNE := Lib.hid (fun (j : Nat) hj h => ent_ne (b := leapB y) (j := j) (k := k) hj k2 h)
      have hkk := nmN_nm (leapB y)
      have hnb := nm_bd (leapB y)
      clear hok hex hd3 kix
      generalize mdV 2 y m l = MV at *
      generalize hdv : dayV 2 y m l d = V at *
      clear hdv
      by_cases hys : ys y ≤ 999999
      · rw [ysV_ok y0 hys] at HYS
        dsimp only at HYS
        clear HV
        have hS0 : (0 : Int) ≤ ys y := by have := ys_ge y0; omega
        generalize ys y = S at *
        go_enter Tryd.func28, Tryd.ntmps28
        go_wp2
        refine wp_region_held_drew (S := fun w' => Aft (w.alloc (.cells #[.int .i64 2, .int .i64 y, .int .i64 m, .int .i64 d, .bool l] 34)) w' ∧ w'.cell? ⟨w.heap.size, 0, none⟩ = some (.int .i64 2) ∧ w'.cell? ⟨w.heap.size, 1, none⟩ = some (.int .i64 y) ∧ w'.cell? ⟨w.heap.size, 2, none⟩ = some (.int .i64 m) ∧ w'.cell? ⟨w.heap.size, 3, none⟩ = some (.int .i64 d) ∧ w'.cell? ⟨w.heap.size, 4, none⟩ = some (.bool l)) (by kernel_rfl) (⟨Below.drew (Aft.refl _), c0, c1, c2, c3, c4⟩) (fun hHeld => ?_)
        refine take_on (i := 0) (v := ?v21) rfl (by kernel_rfl) (by kernel_rfl) (by kernel_rfl) (fun _ _ _ h => h) (by rfl) (by assumption) ?y21 ?_
        case y21 => (intro w hSw; (try dsimp only at hSw); go_simp; (try with_reducible rfl))
        try simp only [Act.put, List.setIfInBounds_toArray, List.set_cons_zero, List.set_cons_succ]
        refine take_on (i := 1) (v := ?v22) rfl (by kernel_rfl) (by kernel_rfl) (by kernel_rfl) (fun _ _ _ h => h) (by rfl) (by assumption) ?y22 ?_
        case y22 => (intro w hSw; (try dsimp only at hSw); go_simp; (try with_reducible rfl))
        try simp only [Act.put, List.setIfInBounds_toArray, List.set_cons_zero, List.set_cons_succ]
        refine take_on (i := 2) (v := ?v23) rfl (by kernel_rfl) (by kernel_rfl) (by kernel_rfl) (fun _ _ _ h => h) (by rfl) (by assumption) ?y23 ?_
        case y23 => (intro w hSw; (try dsimp only at hSw); go_simp; (try with_reducible rfl))
        try simp only [Act.put, List.setIfInBounds_toArray, List.set_cons_zero, List.set_cons_succ]
        refine take_on (i := 3) (v := ?v24) rfl (by kernel_rfl) (by kernel_rfl) (by kernel_rfl) (fun _ _ _ h => h) (by rfl) (by assumption) ?y24 ?_
        case y24 => (intro w hSw; (try dsimp only at hSw); go_simp; (try with_reducible rfl))
        try simp only [Act.put, List.setIfInBounds_toArray, List.set_cons_zero, List.set_cons_succ]
        refine take_on (i := 4) (v := ?v25) rfl (by kernel_rfl) (by kernel_rfl) (by kernel_rfl) (fun _ _ _ h => h) (by rfl) (by assumption) ?y25 ?_
        case y25 => (intro w hSw; (try dsimp only at hSw); go_simp; (try with_reducible rfl))
        try simp only [Act.put, List.setIfInBounds_toArray, List.set_cons_zero, List.set_cons_succ]
        refine take_on (i := 5) (v := ?v26) rfl (by kernel_rfl) (by kernel_rfl) (by kernel_rfl) (fun _ _ _ h => h) (by rfl) (by assumption) ?y26 ?_
        case y26 => (intro w hSw; (try dsimp only at hSw); go_simp; (try with_reducible rfl))
        try simp only [Act.put, List.setIfInBounds_toArray, List.set_cons_zero, List.set_cons_succ]
        refine take_on (i := 6) (v := ?v27) rfl (by kernel_rfl) (by kernel_rfl) (by kernel_rfl) (fun _ _ _ h => h) (by rfl) (by assumption) ?y27 ?_
        case y27 => (intro w hSw; (try dsimp only at hSw); go_simp; (try with_reducible rfl))
        try simp only [Act.put, List.setIfInBounds_toArray, List.set_cons_zero, List.set_cons_succ]
        refine one_ready (i := 7) rfl (by kernel_rfl) (by rfl) (fun K hK => ?_)
        go_simp
        go_at_call 21
        refine (HMD.out _ (HT.out.aft (by first | exact hHeld.1 | exact Below.drew hHeld.1))).mono ?_
        rintro e' w' ⟨rfl, N9⟩
        have hh : (fun w' => Aft (w.alloc (.cells #[.int .i64 2, .int .i64 y, .int .i64 m, .int .i64 d, .bool l] 34)) w' ∧ w'.cell? ⟨w.heap.size, 0, none⟩ = some (.int .i64 2) ∧ w'.cell? ⟨w.heap.size, 1, none⟩ = some (.int .i64 y) ∧ w'.cell? ⟨w.heap.size, 2, none⟩ = some (.int .i64 m) ∧ w'.cell? ⟨w.heap.size, 3, none⟩ = some (.int .i64 d) ∧ w'.cell? ⟨w.heap.size, 4, none⟩ = some (.bool l)) w' := ds_aft hHeld (Aft.trans (by first | exact Aft.refl _ | exact Below.drew (Aft.refl _)) N9)
        clear N9
        try go_simp
        refine hK.out _ _ (by first | exact hh | exact ⟨Below.drew hh.1, hh.2⟩ | exact hHeld) (fun hHeld => ?_)
        clear hK K
        try simp only [Act.put, List.setIfInBounds_toArray, List.set_cons_zero, List.set_cons_succ]
        refine take_on (i := 8) (v := ?v29) rfl (by kernel_rfl) (by kernel_rfl) (by kernel_rfl) (fun _ _ _ h => h) (by rfl) (by assumption) ?y29 ?_
        case y29 => (intro w hSw; (try dsimp only at hSw); go_simp; (try with_reducible rfl))
        try simp only [Act.put, List.setIfInBounds_toArray, List.set_cons_zero, List.set_cons_succ]
        refine take_on (i := 9) (v := ?v30) rfl (by kernel_rfl) (by kernel_rfl) (by kernel_rfl) (fun _ _ _ h => h) (by rfl) (by assumption) ?y30 ?_
        case y30 => (intro w hSw; (try dsimp only at hSw); go_simp; (try with_reducible rfl))
        try simp only [Act.put, List.setIfInBounds_toArray, List.set_cons_zero, List.set_cons_succ]
        refine wpAnyH_done (by kernel_rfl) ?_ _
        have A1 := A0.trans hHeld.1
        have HT1 := Lib.hid (HT.out.aft hHeld.1)
        obtain ⟨_, x0, x1, x2, x3, x4⟩ := hHeld
        clear c0 c1 c2 c3 c4 HT A0 HMD
        go_wp2_with fail
        refine (HYS.out _).mono ?_
        rintro e' w' ⟨rfl, rfl⟩
        go_wp2_with fail
        refine (HM.out _).mono ?_
        rintro e' w3 ⟨A, cp, rfl, hms, N3⟩
        rw [if_neg (show ¬ y < 0 by omega)] at hms ⊢
        have X0 := N3.cell x0; have X1 := N3.cell x1; have X2 := N3.cell x2; have X3 := N3.cell x3; have X4 := N3.cell x4
        have HT3 := Lib.hid (HT1.out.aft N3)
        have A3 := A1.trans N3
        have HMS := Lib.hid hms
        have hcp := hms.le
        have hcm := hms.cmax
        have HKK := Lib.hid hkk
        have hnmle : nmN (leapB y) ≤ 13 := by omega
        have hk2 : k < nmN (leapB y) := by omega
        clear hms hkk N3 A1 x0 x1 x2 x3 x4 HYS HM HT1
        generalize hnn : nmN (leapB y) = NN at *
        clear hnn
        have X0 := Lib.hid X0; have X1 := Lib.hid X1; have X2 := Lib.hid X2; have X3 := Lib.hid X3; have X4 := Lib.hid X4
        go_wp2
        generalize hW3 : w3 = W3 at *
        clear hW3
        go_loopw [4, 31] (fun s i wr => ∃ j : Nat, j ≤ k ∧ i = .int .i64 (j : Int) ∧ s = .int .i64 (S + ck (leapB y) j) ∧ Aft W3 wr) (fun _ i _ => NN - (intOf i).toNat)
        case atStart => exact ⟨0, Nat.zero_le _, rfl, by rw [show ((0 : Nat) : Int) = 0 from rfl, HZ.out, Int.add_zero], Aft.refl _⟩
        case round =>
          obtain ⟨j, hj, rfl, rfl, haf⟩ := hrel
          have hjN : j < NN := by omega
          obtain ⟨bl, off, rfl, d0, d1, d2, d3, d4⟩ := (HMS.out.aft haf).cells j hjN
          have hji : (j : Int) < (NN : Int) := by omega
          have hjn : (j : Int) < nm (leapB y) := by have := HKK.out; omega
          have hck := ck_bd (leapB y) (k := (j : Int)) (by omega) (by omega)
          have y0' := haf.cell X0.out; have y1 := haf.cell X1.out; have y2 := haf.cell X2.out; have y3 := haf.cell X3.out; have y4 := haf.cell X4.out
          by_cases hjk : j = k
          · subst hjk
            have hm1 : (mo (leapB y) j == m) = true := by simp [kmo]
            have hl1 : (ml (leapB y) j == l) = true := by simp [kml]
            have HUP := Lib.hid (fun w => upTo_any (S + ck (leapB y) j + d - 1) w)
            clear kmo kml
            generalize mo (leapB y) j = MM at *
            generalize ml (leapB y) j = LL at *
            generalize (if S + ck (leapB y) j + d - 1 ≤ 999999 then S + ck (leapB y) j + d - 1 else 0) = r1 at HUP HU
            generalize (if S + ck (leapB y) j + d - 1 ≤ 999999 then (0 : Int) else 2) = r2 at HUP HU
            generalize ck (leapB y) j = q at *
            have AL := (Aft.refl wr).alloc (.cells #[.int .i64 2, .int .i64 y, .int .i64 MM, .int .i64 1, .bool LL] 34)
            have z0 := AL.cell y0'; have z1 := AL.cell y1; have z2 := AL.cell y2; have z3 := AL.cell y3; have z4 := AL.cell y4
            clear AL
            go_wp2_with fail
            refine (HUP.out _).mono ?_
            rintro e' w' ⟨rfl, rfl⟩
            go_wp2
            go_ret2
            exact ⟨by rw [HU.out]; rfl, (A3.trans haf).alloc _⟩
          · have he := HME.out j hjn
            have HS1 := Lib.hid (HSC.out j hjn)
            have hmb2 := md_bd (mo (leapB y) j) (ml (leapB y) j)
            have HMJ := Lib.hid (fun w ht => MonthDays_any 2 y (mo (leapB y) j) 1 (ml (leapB y) j) w ht)
            rw [he] at HMJ
            have HTJ := Lib.hid (HT3.out.aft haf)
            have hnm := HNE.out j hjn hjk
            rw [kmo, kml] at hnm
            clear he
            generalize md (mo (leapB y) j) (ml (leapB y) j) = MD at *
            generalize mo (leapB y) j = MM at *
            generalize ml (leapB y) j = LL at *
            generalize ck (leapB y) j = q at *
            have AL := (Aft.refl wr).alloc (.cells #[.int .i64 2, .int .i64 y, .int .i64 MM, .int .i64 1, .bool LL] 34)
            have z0 := AL.cell y0'; have z1 := AL.cell y1; have z2 := AL.cell y2; have z3 := AL.cell y3; have z4 := AL.cell y4
            clear AL
            rcases hnm with h1 | ⟨h1, h2, _⟩
            · go_wp2_with fail
              refine (HMJ.out _ (HTJ.out.aft ((Aft.refl _).alloc _))).mono ?_
              rintro e' w5 ⟨rfl, N5⟩
              go_wp2
              go_roundw
              case rel => exact ⟨j + 1, by omega, by go_num, by rw [show ((j + 1 : Nat) : Int) = (j : Int) + 1 by omega, HS1.out]; go_num, (haf.alloc _).trans N5⟩
              case measure => simp [intOf]; omega
            · go_wp2_with fail
              refine (HMJ.out _ (HTJ.out.aft ((Aft.refl _).alloc _))).mono ?_
              rintro e' w5 ⟨rfl, N5⟩
              go_wp2
              go_roundw
              case rel => exact ⟨j + 1, by omega, by go_num, by rw [show ((j + 1 : Nat) : Int) = (j : Int) + 1 by omega, HS1.out]; go_num, (haf.alloc _).trans N5⟩
              case measure => simp [intOf]; omega
      · rw [ysV_big y0 hys] at HYS
        have hV := HV.out hys
        rw [hV]
        dsimp only at HYS ⊢
        clear hV HU HV hys
        go_enter Tryd.func28, Tryd.ntmps28
        go_wp2
        refine wp_region_held_drew (S := fun w' => Aft (w.alloc (.cells #[.int .i64 2, .int .i64 y, .int .i64 m, .int .i64 d, .bool l] 34)) w' ∧ w'.cell? ⟨w.heap.size, 0, none⟩ = some (.int .i64 2) ∧ w'.cell? ⟨w.heap.size, 1, none⟩ = some (.int .i64 y) ∧ w'.cell? ⟨w.heap.size, 2, none⟩ = some (.int .i64 m) ∧ w'.cell? ⟨w.heap.size, 3, none⟩ = some (.int .i64 d) ∧ w'.cell? ⟨w.heap.size, 4, none⟩ = some (.bool l)) (by kernel_rfl) (⟨Below.drew (Aft.refl _), c0, c1, c2, c3, c4⟩) (fun hHeld => ?_)
        refine take_on (i := 0) (v := ?v31) rfl (by kernel_rfl) (by kernel_rfl) (by kernel_rfl) (fun _ _ _ h => h) (by rfl) (by assumption) ?y31 ?_
        case y31 => (intro w hSw; (try dsimp only at hSw); go_simp; (try with_reducible rfl))
        try simp only [Act.put, List.setIfInBounds_toArray, List.set_cons_zero, List.set_cons_succ]
        refine take_on (i := 1) (v := ?v32) rfl (by kernel_rfl) (by kernel_rfl) (by kernel_rfl) (fun _ _ _ h => h) (by rfl) (by assumption) ?y32 ?_
        case y32 => (intro w hSw; (try dsimp only at hSw); go_simp; (try with_reducible rfl))
        try simp only [Act.put, List.setIfInBounds_toArray, List.set_cons_zero, List.set_cons_succ]
        refine take_on (i := 2) (v := ?v33) rfl (by kernel_rfl) (by kernel_rfl) (by kernel_rfl) (fun _ _ _ h => h) (by rfl) (by assumption) ?y33 ?_
        case y33 => (intro w hSw; (try dsimp only at hSw); go_simp; (try with_reducible rfl))
        try simp only [Act.put, List.setIfInBounds_toArray, List.set_cons_zero, List.set_cons_succ]
        refine take_on (i := 3) (v := ?v34) rfl (by kernel_rfl) (by kernel_rfl) (by kernel_rfl) (fun _ _ _ h => h) (by rfl) (by assumption) ?y34 ?_
        case y34 => (intro w hSw; (try dsimp only at hSw); go_simp; (try with_reducible rfl))
        try simp only [Act.put, List.setIfInBounds_toArray, List.set_cons_zero, List.set_cons_succ]
        refine take_on (i := 4) (v := ?v35) rfl (by kernel_rfl) (by kernel_rfl) (by kernel_rfl) (fun _ _ _ h => h) (by rfl) (by assumption) ?y35 ?_
        case y35 => (intro w hSw; (try dsimp only at hSw); go_simp; (try with_reducible rfl))
        try simp only [Act.put, List.setIfInBounds_toArray, List.set_cons_zero, List.set_cons_succ]
        refine take_on (i := 5) (v := ?v36) rfl (by kernel_rfl) (by kernel_rfl) (by kernel_rfl) (fun _ _ _ h => h) (by rfl) (by assumption) ?y36 ?_
        case y36 => (intro w hSw; (try dsimp only at hSw); go_simp; (try with_reducible rfl))
        try simp only [Act.put, List.setIfInBounds_toArray, List.set_cons_zero, List.set_cons_succ]
        refine take_on (i := 6) (v := ?v37) rfl (by kernel_rfl) (by kernel_rfl) (by kernel_rfl) (fun _ _ _ h => h) (by rfl) (by assumption) ?y37 ?_
        case y37 => (intro w hSw; (try dsimp only at hSw); go_simp; (try with_reducible rfl))
        try simp only [Act.put, List.setIfInBounds_toArray, List.set_cons_zero, List.set_cons_succ]
        refine one_ready (i := 7) rfl (by kernel_rfl) (by rfl) (fun K hK => ?_)
        go_simp
        go_at_call 21
        refine (HMD.out _ (HT.out.aft (by first | exact hHeld.1 | exact Below.drew hHeld.1))).mono ?_
        rintro e' w' ⟨rfl, N9⟩
        have hh : (fun w' => Aft (w.alloc (.cells #[.int .i64 2, .int .i64 y, .int .i64 m, .int .i64 d, .bool l] 34)) w' ∧ w'.cell? ⟨w.heap.size, 0, none⟩ = some (.int .i64 2) ∧ w'.cell? ⟨w.heap.size, 1, none⟩ = some (.int .i64 y) ∧ w'.cell? ⟨w.heap.size, 2, none⟩ = some (.int .i64 m) ∧ w'.cell? ⟨w.heap.size, 3, none⟩ = some (.int .i64 d) ∧ w'.cell? ⟨w.heap.size, 4, none⟩ = some (.bool l)) w' := ds_aft hHeld (Aft.trans (by first | exact Aft.refl _ | exact Below.drew (Aft.refl _)) N9)
        clear N9
        try go_simp
        refine hK.out _ _ (by first | exact hh | exact ⟨Below.drew hh.1, hh.2⟩ | exact hHeld) (fun hHeld => ?_)
        clear hK K
        try simp only [Act.put, List.setIfInBounds_toArray, List.set_cons_zero, List.set_cons_succ]
        refine take_on (i := 8) (v := ?v39) rfl (by kernel_rfl) (by kernel_rfl) (by kernel_rfl) (fun _ _ _ h => h) (by rfl) (by assumption) ?y39 ?_
        case y39 => (intro w hSw; (try dsimp only at hSw); go_simp; (try with_reducible rfl))
        try simp only [Act.put, List.setIfInBounds_toArray, List.set_cons_zero, List.set_cons_succ]
        refine take_on (i := 9) (v := ?v40) rfl (by kernel_rfl) (by kernel_rfl) (by kernel_rfl) (fun _ _ _ h => h) (by rfl) (by assumption) ?y40 ?_
        case y40 => (intro w hSw; (try dsimp only at hSw); go_simp; (try with_reducible rfl))
        try simp only [Act.put, List.setIfInBounds_toArray, List.set_cons_zero, List.set_cons_succ]
        refine wpAnyH_done (by kernel_rfl) ?_ _
        have A1 := A0.trans hHeld.1
        obtain ⟨_, x0, x1, x2, x3, x4⟩ := hHeld
        clear c0 c1 c2 c3 c4 HT A0 HMD
        go_wp2_with fail
        refine (HYS.out _).mono ?_
        rintro e' w' ⟨rfl, rfl⟩
        go_wp2
        go_ret2
        exact ⟨rfl, A1⟩

/-- What Compare returns. -/
def cmpV (a b : Int × Int) : Int × Int := if a.2 ≠ 0 then (0, a.2) else if b.2 ≠ 0 then (0, b.2) else (cmpI a.1 b.1, 0)
theorem cmpV_ok (a b : Int) : cmpV (a, 0) (b, 0) = (cmpI a b, 0) := rfl
theorem cmpV_one {a E : Int} (h : E ≠ 0) (b : Int × Int) : cmpV (a, E) b = (0, E) := if_pos h
theorem cmpV_two {b E : Int} (h : E ≠ 0) (a : Int) : cmpV (a, 0) (b, E) = (0, E) := by unfold cmpV; rw [if_neg (by simp), if_pos h]
set_option maxRecDepth 100000 in
set_option maxHeartbeats 1600000 in
theorem Compare_any (c y m d : Int) (l : Bool) (c' y' m' d' : Int) (l' : Bool) (w : World) (ht : Tab w) (hd : (Lit.int .i64 d).wf = true) (hd' : (Lit.int .i64 d').wf = true) :
    Calls Tryd.prog 30 #[(.agg #[.int .i64 c, .int .i64 y, .int .i64 m, .int .i64 d, .bool l]), (.agg #[.int .i64 c', .int .i64 y', .int .i64 m', .int .i64 d', .bool l'])] w (ValPost w (.tuple #[.int .i64 (cmpV (dayV c y m l d) (dayV c' y' m' l' d')).1, .int .i64 (cmpV (dayV c y m l d) (dayV c' y' m' l' d')).2])) := by
  have A0 := ((Aft.refl w).alloc (.cells #[.int .i64 c, .int .i64 y, .int .i64 m, .int .i64 d, .bool l] 34)).alloc (.cells #[.int .i64 c', .int .i64 y', .int .i64 m', .int .i64 d', .bool l'] 34)
  have b0 := (BoxD.new w c y m d l).aft ((Aft.refl _).alloc (.cells #[.int .i64 c', .int .i64 y', .int .i64 m', .int .i64 d', .bool l'] 34))
  have b1 := BoxD.new' (w.alloc (.cells #[.int .i64 c, .int .i64 y, .int .i64 m, .int .i64 d, .bool l] 34)) c' y' m' d' l' (H := w.heap.size + 1) (by simp)
  obtain ⟨c0, c1, c2, c3, c4⟩ := b0.five
  have H1 := Lib.hid (fun w ht => Day_any c y m d l w ht hd)
  have H2 := Lib.hid (fun w ht => Day_any c' y' m' d' l' w ht hd')
  have HT := Lib.hid (ht.aft A0)
  have HC := Lib.hid (fun a b w => compare_any a b w)
  clear ht b0 hd hd'
  generalize dayV c y m l d = V1 at *
  generalize dayV c' y' m' l' d' = V2 at *
  obtain ⟨r1, E1⟩ := V1
  obtain ⟨r2, E2⟩ := V2
  dsimp only at H1 H2 ⊢
  by_cases e1 : E1 = 0
  · subst e1
    by_cases e2 : E2 = 0
    · subst e2
      rw [cmpV_ok]
      dsimp only
      go_enter Tryd.func30, Tryd.ntmps30
      go_wp2_with fail
      refine (H1.out _ HT.out).mono ?_
      rintro e w1 ⟨rfl, N1⟩
      obtain ⟨g0, g1, g2, g3, g4⟩ := (b1.aft N1).five
      clear b1 c0 c1 c2 c3 c4
      go_wp2_with fail
      refine (H2.out _ (HT.out.aft N1)).mono ?_
      rintro e w2 ⟨rfl, N2⟩
      go_wp2_with fail
      refine (HC.out _ _ _).mono ?_
      rintro e w' ⟨rfl, rfl⟩
      go_wp2
      go_ret2
      exact ⟨rfl, (A0.trans N1).trans N2⟩
    · have e2b : (E2 != 0) = true := by simp [e2]
      rw [cmpV_two e2]
      dsimp only
      go_enter Tryd.func30, Tryd.ntmps30
      go_wp2_with fail
      refine (H1.out _ HT.out).mono ?_
      rintro e w1 ⟨rfl, N1⟩
      obtain ⟨g0, g1, g2, g3, g4⟩ := (b1.aft N1).five
      clear b1 c0 c1 c2 c3 c4
      go_wp2_with fail
      refine (H2.out _ (HT.out.aft N1)).mono ?_
      rintro e w2 ⟨rfl, N2⟩
      go_wp2
      go_ret2
      exact ⟨rfl, (A0.trans N1).trans N2⟩
  · have e1b : (E1 != 0) = true := by simp [e1]
    rw [cmpV_one e1]
    dsimp only
    clear b1
    go_enter Tryd.func30, Tryd.ntmps30
    go_wp2_with fail
    refine (H1.out _ HT.out).mono ?_
    rintro e w1 ⟨rfl, N1⟩
    go_wp2
    go_ret2
    exact ⟨rfl, A0.trans N1⟩
end Go.Proofs.YtdeojpmimhagjabDoor
