/-
  The program's and the reference's functions of years and months: they only compute. Conditions: the table of the months' lengths holds what its text lays ('Tab'); bounds as each theorem says.
-/
import Derived.Test.YtdeojpmimhagjaaDoorCalBase
import Derived.Test.YtdeojpmimhagjaaDoorCalPlain
namespace Go.Proofs.YtdeojpmimhagjaaDoor
open Go.RowKit
open CalPlain

/-- The table of the months' lengths. -/
def Tab (w : World) : Prop := ∀ k : Nat, k < 12 → w.cell? ⟨0, k, none⟩ = some (.int .i64 (mbase ((k : Int) + 1)))
theorem Tab.aft {w w' : World} (h : Tab w) (k : Aft w w') : Tab w' := fun i hi => k.cell (h i hi)
theorem leap_any (y : Int) (w : World) : Calls Tryd.prog 18 #[.int .i64 y] w (SamePost w (.bool (leapB y))) := by
  by_cases h : 0 ≤ y
  · by_cases h4 : y % 4 = 0
    · by_cases h8 : y % 128 = 0
      · have e : leapB y = false := by unfold leapB; simp [h8]
        rw [e]; clear e
        go_enter Tryd.func18, Tryd.ntmps18
        go_wp2
        go_ret
        exact ⟨by first | rfl | simp [*], rfl⟩
      · have e : leapB y = true := (leap_iff y).2 ⟨h, h4, h8⟩
        rw [e]; clear e
        go_enter Tryd.func18, Tryd.ntmps18
        go_wp2
        go_ret
        exact ⟨by first | rfl | simp [*], rfl⟩
    · have e : leapB y = false := by unfold leapB; simp [h4]
      rw [e]; clear e
      go_enter Tryd.func18, Tryd.ntmps18
      go_wp2
      go_ret
      exact ⟨by first | rfl | simp [*], rfl⟩
  · have e : leapB y = false := by unfold leapB; simp [h]
    rw [e]; clear e
    go_enter Tryd.func18, Tryd.ntmps18
    go_wp2
    go_ret
    exact ⟨by first | rfl | simp [*], rfl⟩
theorem refLeap_any (y : Int) (w : World) : Calls Tryd.prog 19 #[.int .i64 y] w (SamePost w (.bool (leapB y))) := by
  by_cases h : 0 ≤ y
  · by_cases h4 : y % 4 = 0
    · by_cases h8 : y % 128 = 0
      · have e : leapB y = false := by unfold leapB; simp [h8]
        rw [e]; clear e
        go_enter Tryd.func19, Tryd.ntmps19
        go_wp2
        go_ret
        exact ⟨by first | rfl | simp [*], rfl⟩
      · have e : leapB y = true := (leap_iff y).2 ⟨h, h4, h8⟩
        rw [e]; clear e
        go_enter Tryd.func19, Tryd.ntmps19
        go_wp2
        go_ret
        exact ⟨by first | rfl | simp [*], rfl⟩
    · have e : leapB y = false := by unfold leapB; simp [h4]
      rw [e]; clear e
      go_enter Tryd.func19, Tryd.ntmps19
      go_wp2
      go_ret
      exact ⟨by first | rfl | simp [*], rfl⟩
  · have e : leapB y = false := by unfold leapB; simp [h]
    rw [e]; clear e
    go_enter Tryd.func19, Tryd.ntmps19
    go_wp2
    go_ret
    exact ⟨by first | rfl | simp [*], rfl⟩
theorem checkDay_any (n : Int) (w : World) : Calls Tryd.prog 39 #[.int .i64 n] w (SamePost w (.int .i64 (ckV n))) := by
  by_cases h : n < 0
  · rw [ckV_neg h]
    go_enter Tryd.func39, Tryd.ntmps39
    go_wp2
    go_ret
    exact ⟨rfl, rfl⟩
  · by_cases k : 999999 < n
    · rw [ckV_big k]
      go_enter Tryd.func39, Tryd.ntmps39
      go_wp2
      go_ret
      exact ⟨rfl, rfl⟩
    · rw [ckV_ok (by omega) (by omega)]
      go_enter Tryd.func39, Tryd.ntmps39
      go_wp2
      go_ret
      exact ⟨rfl, rfl⟩
theorem yearStart_any (y : Int) (w : World) (h0 : 0 ≤ y) (h1 : y ≤ 1000000) : Calls Tryd.prog 37 #[.int .i64 y] w (SamePost w (.int .i64 (ys y))) := by
  have HY := Lib.hid (show ys y = 365 * y + (y + 3) / 4 - (y + 127) / 128 from rfl)
  go_enter Tryd.func37, Tryd.ntmps37
  go_wp2
  go_ret
  exact ⟨ret_int (by rw [HY.out]), rfl⟩
theorem upTo_any (n : Int) (w : World) (h : 0 ≤ n) : Calls Tryd.prog 36 #[.int .i64 n] w (SamePost w (.tuple #[.int .i64 (if n ≤ 999999 then n else 0), .int .i64 (if n ≤ 999999 then 0 else 2)])) := by
  have hc := checkDay_any n w
  by_cases k : 999999 < n
  · rw [ckV_big k] at hc
    rw [if_neg (by omega), if_neg (by omega)]
    go_enter Tryd.func36, Tryd.ntmps36
    go_wp2_with fail
    refine hc.mono ?_
    rintro e w' ⟨rfl, rfl⟩
    go_wp2
    go_ret2
    exact ⟨rfl, rfl⟩
  · rw [ckV_ok h (by omega)] at hc
    rw [if_pos (by omega), if_pos (by omega)]
    go_enter Tryd.func36, Tryd.ntmps36
    go_wp2_with fail
    refine hc.mono ?_
    rintro e w' ⟨rfl, rfl⟩
    go_wp2
    go_ret2
    exact ⟨rfl, rfl⟩
theorem isPair_any (u v : Int) (w : World) : Calls Tryd.prog 43 #[.int .i64 u, .int .i64 v] w (SamePost w (.bool (pairB u v))) := by
  by_cases h1 : 1 ≤ u
  · by_cases h2 : u ≤ 13
    · by_cases h3 : 0 ≤ v
      · by_cases h4 : v < 20
        · have e : pairB u v = true := by unfold pairB; simp [h1, h2, h3, h4]
          rw [e]; clear e
          go_enter Tryd.func43, Tryd.ntmps43
          go_wp2
          go_ret
          exact ⟨by first | rfl | simp [*], rfl⟩
        · have e : pairB u v = false := by unfold pairB; simp [h4]
          rw [e]; clear e
          go_enter Tryd.func43, Tryd.ntmps43
          go_wp2
          go_ret
          exact ⟨by first | rfl | simp [*], rfl⟩
      · have e : pairB u v = false := by unfold pairB; simp [h3]
        rw [e]; clear e
        go_enter Tryd.func43, Tryd.ntmps43
        go_wp2
        go_ret
        exact ⟨by first | rfl | simp [*], rfl⟩
    · have e : pairB u v = false := by unfold pairB; simp [h2]
      rw [e]; clear e
      go_enter Tryd.func43, Tryd.ntmps43
      go_wp2
      go_ret
      exact ⟨by first | rfl | simp [*], rfl⟩
  · have e : pairB u v = false := by unfold pairB; simp [h1]
    rw [e]; clear e
    go_enter Tryd.func43, Tryd.ntmps43
    go_wp2
    go_ret
    exact ⟨by first | rfl | simp [*], rfl⟩
theorem mdays_any (y m : Int) (w : World) (ht : Tab w) : Calls Tryd.prog 20 #[.int .i64 y, .int .i64 m] w (SamePost w (.int .i64 (mdays y m))) := by
  by_cases h0 : y < 0
  · rw [mdays_bad (Or.inl h0)]
    go_enter Tryd.func20, Tryd.ntmps20
    go_wp2
    go_ret
    exact ⟨rfl, rfl⟩
  by_cases h1 : m < 1
  · rw [mdays_bad (Or.inr (Or.inl h1))]
    go_enter Tryd.func20, Tryd.ntmps20
    go_wp2
    go_ret
    exact ⟨rfl, rfl⟩
  by_cases h2 : 12 < m
  · rw [mdays_bad (Or.inr (Or.inr h2))]
    go_enter Tryd.func20, Tryd.ntmps20
    go_wp2
    go_ret
    exact ⟨rfl, rfl⟩
  have HE := Lib.hid (mdays_eq (y := y) (m := m) (by omega) (by omega) (by omega))
  obtain ⟨k, rfl⟩ : ∃ k : Nat, m = (k : Int) + 1 := ⟨(m - 1).toNat, by omega⟩
  have hc := ht k (by omega)
  have hk : k < 12 := by omega
  have hb := mbase_bd ((k : Int) + 1)
  have hs : (k : Int) + 1 - 1 = (k : Int) := by omega
  have hl := leap_any y w
  generalize mbase ((k : Int) + 1) = B at *
  clear ht
  by_cases h12 : k = 11
  · have HEE := Lib.hid (show mdays y ((k : Int) + 1) = B + lp y by rw [HE.out, if_pos (by omega)])
    subst h12
    clear HE
    rcases lp_cases y with ⟨_, _, _, e, f⟩ | ⟨_, e, f⟩
    · rw [e] at hl
      rw [f] at HEE
      clear e f
      go_enter Tryd.func20, Tryd.ntmps20
      go_wp2_with fail
      refine hl.mono ?_
      rintro e w' ⟨rfl, rfl⟩
      go_wp2
      go_ret
      exact ⟨ret_int (by rw [HEE.out]), rfl⟩
    · rw [e] at hl
      rw [f] at HEE
      clear e f
      go_enter Tryd.func20, Tryd.ntmps20
      go_wp2_with fail
      refine hl.mono ?_
      rintro e w' ⟨rfl, rfl⟩
      go_wp2
      go_ret
      exact ⟨ret_int (by rw [HEE.out, Int.add_zero]), rfl⟩
  · have HEE := Lib.hid (show mdays y ((k : Int) + 1) = B by rw [HE.out, if_neg (by omega), Int.add_zero])
    have h12' : ¬ ((k : Int) + 1 = 12) := by omega
    clear HE h12
    go_enter Tryd.func20, Tryd.ntmps20
    go_wp2
    go_ret
    exact ⟨ret_int (by rw [HEE.out]), rfl⟩
theorem refMdays_any (y m : Int) (w : World) : Calls Tryd.prog 21 #[.int .i64 y, .int .i64 m] w (SamePost w (.int .i64 (mdays y m))) := by
  by_cases h0 : y < 0
  · rw [mdays_bad (Or.inl h0)]
    go_enter Tryd.func21, Tryd.ntmps21
    go_wp2
    go_ret
    exact ⟨rfl, rfl⟩
  by_cases h1 : m < 1
  · rw [mdays_bad (Or.inr (Or.inl h1))]
    go_enter Tryd.func21, Tryd.ntmps21
    go_wp2
    go_ret
    exact ⟨rfl, rfl⟩
  by_cases h2 : 12 < m
  · rw [mdays_bad (Or.inr (Or.inr h2))]
    go_enter Tryd.func21, Tryd.ntmps21
    go_wp2
    go_ret
    exact ⟨rfl, rfl⟩
  have hg : ¬ (y < 0 ∨ m < 1 ∨ 12 < m) := by omega
  have hl := refLeap_any y w
  by_cases h3 : m % 2 = 1
  · have e : mdays y m = 31 := by unfold mdays; rw [if_neg hg, if_pos h3]
    rw [e]; clear e
    go_enter Tryd.func21, Tryd.ntmps21
    go_wp2
    go_ret
    exact ⟨by first | rfl | simp [*], rfl⟩
  · by_cases h4 : m < 12
    · have e : mdays y m = 30 := by unfold mdays; rw [if_neg hg, if_neg h3, if_pos (Or.inl h4)]
      rw [e]; clear e
      go_enter Tryd.func21, Tryd.ntmps21
      go_wp2
      go_ret
      exact ⟨by first | rfl | simp [*], rfl⟩
    · cases hq : leapB y
      · have e : mdays y m = 29 := by unfold mdays; rw [if_neg hg, if_neg h3, if_neg (by simp [h4, hq])]
        rw [hq] at hl
        rw [e]; clear e hq
        go_enter Tryd.func21, Tryd.ntmps21
        go_wp2_with fail
        refine hl.mono ?_
        rintro e w' ⟨rfl, rfl⟩
        go_wp2
        go_ret
        exact ⟨by first | rfl | simp [*], rfl⟩
      · have e : mdays y m = 30 := by unfold mdays; rw [if_neg hg, if_neg h3, if_pos (Or.inr hq)]
        rw [hq] at hl
        rw [e]; clear e hq
        go_enter Tryd.func21, Tryd.ntmps21
        go_wp2_with fail
        refine hl.mono ?_
        rintro e w' ⟨rfl, rfl⟩
        go_wp2
        go_ret
        exact ⟨by first | rfl | simp [*], rfl⟩
theorem ysProg_any (y : Int) (w : World) : Calls Tryd.prog 22 #[.int .i64 y] w (SamePost w (.tuple #[.int .i64 (ysV y).1, .int .i64 (ysV y).2])) := by
  by_cases h0 : y < 0
  · rw [ysV_neg h0]
    go_enter Tryd.func22, Tryd.ntmps22
    go_wp2
    go_ret2
    exact ⟨rfl, rfl⟩
  · by_cases h1 : 2739 < y
    · rw [ysV_big (by omega) (by have := ys_max h1; omega)]
      go_enter Tryd.func22, Tryd.ntmps22
      go_wp2
      go_ret2
      exact ⟨rfl, rfl⟩
    · have hy := yearStart_any y w (by omega) (by omega)
      have hg := (ys_ge (y := y) (by omega))
      have hu := upTo_any (ys y) w (by omega)
      have HV := Lib.hid (show ysV y = (if ys y ≤ 999999 then ys y else 0, if ys y ≤ 999999 then 0 else 2) by
        by_cases k : ys y ≤ 999999
        · rw [ysV_ok (by omega) k, if_pos k, if_pos k]
        · rw [ysV_big (by omega) k, if_neg k, if_neg k])
      rw [HV.out]
      dsimp only
      clear hg HV
      generalize (if ys y ≤ 999999 then ys y else 0) = a at *
      generalize (if ys y ≤ 999999 then (0 : Int) else 2) = b at *
      go_enter Tryd.func22, Tryd.ntmps22
      go_wp2_with fail
      refine hy.mono ?_
      rintro e w' ⟨rfl, rfl⟩
      go_wp2_with fail
      refine hu.mono ?_
      rintro e w' ⟨rfl, rfl⟩
      go_wp2
      go_ret2
      exact ⟨rfl, rfl⟩

/-- y is the year of the day n. -/
def YearIs (n y : Int) : Prop := 0 ≤ y ∧ y ≤ 2739 ∧ ys y ≤ n ∧ n < ys (y + 1)
theorem yearOf_any (n : Int) (w : World) (h0 : 0 ≤ n) (h1 : n ≤ 999999) : Calls Tryd.prog 40 #[.int .i64 n] w (fun e w' => ∃ y : Int, e = .returned (.int .i64 y) ∧ YearIs n y ∧ w = w') := by
  have hgs := ys_guess h0
  go_enter Tryd.func40, Tryd.ntmps40
  go_wp2
  go_loop [3] (fun i => ∃ y : Int, i = .int .i64 y ∧ 0 ≤ y ∧ y ≤ 2739 ∧ n < ys (y + 1)) (fun i => (intOf i).toNat)
  case atStart => exact ⟨_, rfl, by omega, by omega, hgs⟩
  case round =>
    obtain ⟨y, rfl, y0, y1, y2⟩ := hrel
    have hy := yearStart_any y w y0 (by omega)
    have hz : y = 0 → ys y = 0 := fun e => by rw [e]; rfl
    by_cases hc : n < ys y
    · have hy0 : 0 < y := by
        by_cases e : y = 0
        · have := hz e; omega
        · omega
      clear hgs hz
      go_wp2_with fail
      refine hy.mono ?_
      rintro e w' ⟨rfl, rfl⟩
      go_wp2
      go_round
      case rel => exact ⟨y - 1, rfl, by omega, by omega, by rw [show y - 1 + 1 = y by omega]; exact hc⟩
      case measure => simp [intOf]; omega
    · clear hgs hz
      go_wp2_with fail
      refine hy.mono ?_
      rintro e w' ⟨rfl, rfl⟩
      go_wp2
      go_ret
      exact ⟨y, rfl, ⟨y0, y1, by omega, y2⟩, rfl⟩

theorem refYd_any (y : Int) (w : World) (h : 0 ≤ y) : Calls Tryd.prog 38 #[.int .i64 y] w (SamePost w (.int .i64 (365 + lp y))) := by
  have HS1 := Lib.hid (sumM_one y)
  go_enter Tryd.func38, Tryd.ntmps38
  go_wp2
  go_loop [3, 4] (fun s i => ∃ m : Int, i = .int .i64 m ∧ 1 ≤ m ∧ m ≤ 13 ∧ s = .int .i64 (sumM y m)) (fun _ i => (13 - intOf i).toNat)
  case atStart => exact ⟨1, rfl, by omega, by omega, by rw [HS1.out]⟩
  case round =>
    obtain ⟨m, rfl, m0, m1, rfl⟩ := hrel
    clear HS1
    have hb := sumM_bd (y := y) m0
    by_cases hlt : m ≤ 12
    · have hm := refMdays_any y m w
      have hd := mdays_bd y m
      have HS := Lib.hid (sumM_succ h m0 hlt)
      generalize mdays y m = M at *
      generalize hq : sumM y m = S at *
      have HQ := Lib.hid hq
      clear hq
      go_wp2_with fail
      refine hm.mono ?_
      rintro e w' ⟨rfl, rfl⟩
      go_wp2
      go_round
      case rel => exact ⟨m + 1, rfl, by omega, by omega, by rw [HS.out]⟩
      case measure => simp [intOf]; omega
    · have HF := Lib.hid (show sumM y m = 365 + lp y by unfold sumM; rw [if_neg hlt])
      generalize hq : sumM y m = S at *
      clear hq
      go_wp2
      go_ret
      exact ⟨ret_int HF.out, rfl⟩

theorem refYs_any (y : Int) (w : World) : Calls Tryd.prog 23 #[.int .i64 y] w (SamePost w (.tuple #[.int .i64 (ysV y).1, .int .i64 (ysV y).2])) := by
  by_cases h0 : y < 0
  · rw [ysV_neg h0]
    go_enter Tryd.func23, Tryd.ntmps23
    go_wp2
    go_ret2
    exact ⟨rfl, rfl⟩
  · have HZ := Lib.hid ys_zero
    go_enter Tryd.func23, Tryd.ntmps23
    go_wp2
    go_loop [4, 5] (fun s i => ∃ k : Int, i = .int .i64 k ∧ 0 ≤ k ∧ k ≤ y ∧ k ≤ 2741 ∧ s = .int .i64 (ys k)) (fun _ i => (y - intOf i).toNat)
    case atStart => exact ⟨0, rfl, by omega, by omega, by omega, by rw [HZ.out]⟩
    case round =>
      obtain ⟨k, rfl, k0, k1, k2, rfl⟩ := hrel
      clear HZ
      have hb := ys_ge k0
      by_cases hc : k < y
      · by_cases hd : ys k ≤ 999999
        · have hyd := refYd_any k w k0
          have hl := lp_01 k
          have HS := Lib.hid (ys_succ k0)
          have hk3 : k ≤ 2740 := by omega
          generalize lp k = L at *
          generalize hq : ys k = S at *
          have HQ := Lib.hid hq
          clear hq
          go_wp2_with fail
          refine hyd.mono ?_
          rintro e w' ⟨rfl, rfl⟩
          go_wp2
          go_round
          case rel => exact ⟨k + 1, rfl, by omega, by omega, by omega, by rw [HS.out]⟩
          case measure => simp [intOf]; omega
        · have HV := Lib.hid (ysV_big (y := y) (by omega) (show ¬ ys y ≤ 999999 by have := ys_mono (a := k) (b := y) (by omega) k0; omega))
          generalize hq : ys k = S at *
          clear hq
          go_wp2
          go_ret2
          exact ⟨by rw [HV.out]; rfl, rfl⟩
      · obtain rfl : k = y := by omega
        by_cases hd : ys k ≤ 999999
        · have HV := Lib.hid (ysV_ok k0 hd)
          generalize hq : ys k = S at *
          clear hq
          go_wp2
          go_ret2
          exact ⟨by rw [HV.out]; rfl, rfl⟩
        · have HV := Lib.hid (ysV_big k0 hd)
          generalize hq : ys k = S at *
          clear hq
          go_wp2
          go_ret2
          exact ⟨by rw [HV.out]; rfl, rfl⟩

theorem week_any (n : Int) (w : World) : Calls Tryd.prog 34 #[.int .i64 n] w (SamePost w (.int .i64 (wkV n))) := by
  have hc := checkDay_any n w
  by_cases h : n < 0
  · rw [wkV_bad (Or.inl h)]
    rw [ckV_neg h] at hc
    go_enter Tryd.func34, Tryd.ntmps34
    go_wp2_with fail
    refine hc.mono ?_
    rintro e w' ⟨rfl, rfl⟩
    go_wp2
    go_ret
    exact ⟨rfl, rfl⟩
  · by_cases k : 999999 < n
    · rw [wkV_bad (Or.inr k)]
      rw [ckV_big k] at hc
      go_enter Tryd.func34, Tryd.ntmps34
      go_wp2_with fail
      refine hc.mono ?_
      rintro e w' ⟨rfl, rfl⟩
      go_wp2
      go_ret
      exact ⟨rfl, rfl⟩
    · rw [wkV_ok (by omega) (by omega)]
      rw [ckV_ok (by omega) (by omega)] at hc
      go_enter Tryd.func34, Tryd.ntmps34
      go_wp2_with fail
      refine hc.mono ?_
      rintro e w' ⟨rfl, rfl⟩
      go_wp2
      go_ret
      exact ⟨rfl, rfl⟩
theorem refWeek_any (n : Int) (w : World) : Calls Tryd.prog 35 #[.int .i64 n] w (SamePost w (.int .i64 (wkV n))) := by
  by_cases h : n < 0
  · rw [wkV_bad (Or.inl h)]
    go_enter Tryd.func35, Tryd.ntmps35
    go_wp2
    go_ret
    exact ⟨rfl, rfl⟩
  · by_cases k : 999999 < n
    · rw [wkV_bad (Or.inr k)]
      go_enter Tryd.func35, Tryd.ntmps35
      go_wp2
      go_ret
      exact ⟨rfl, rfl⟩
    · rw [wkV_ok (by omega) (by omega)]
      go_enter Tryd.func35, Tryd.ntmps35
      go_wp2
      go_ret
      exact ⟨rfl, rfl⟩
end Go.Proofs.YtdeojpmimhagjaaDoor
