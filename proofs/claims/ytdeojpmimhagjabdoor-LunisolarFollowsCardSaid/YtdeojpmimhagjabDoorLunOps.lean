/-
  The program's and the reference's functions of years and months of the lunisolar calendar. Conditions: the table of the months' lengths holds what its text lays ('Tab'); bounds as each theorem says.
-/
import Derived.Test.YtdeojpmimhagjabDoorCalBase
import Derived.Test.YtdeojpmimhagjabDoorLunPlain
namespace Go.Proofs.YtdeojpmimhagjabDoor
open Go.RowKit
open LunPlain

/-- The table of the months' lengths. -/
def Tab (w : World) : Prop := ∀ k : Nat, k < 12 → w.cell? ⟨0, k, none⟩ = some (.int .i64 (md ((k : Int) + 1) false))
theorem Tab.aft {w w' : World} (h : Tab w) (k : Aft w w') : Tab w' := fun i hi => k.cell (h i hi)
theorem leap_any (y : Int) (w : World) : Calls Tryd.prog 14 #[.int .i64 y] w (SamePost w (.bool (leapB y))) := by
  by_cases h : y < 0
  · rw [leap_neg h]
    go_enter Tryd.func14, Tryd.ntmps14
    go_wp2
    go_ret
    exact ⟨by first | rfl | (simp; done) | (simp [*]; done), rfl⟩
  · cases hq : leapB y
    · have hn : ¬ isLp (y % 19) := fun k => by rw [(leap_rem (y := y) (by omega)).2 k] at hq; cases hq
      unfold isLp at hn
      have e2 : (y % 19 == 2) = false := by simp; omega
      have e5 : (y % 19 == 5) = false := by simp; omega
      have e7 : (y % 19 == 7) = false := by simp; omega
      have e10 : (y % 19 == 10) = false := by simp; omega
      have e13 : (y % 19 == 13) = false := by simp; omega
      have e15 : (y % 19 == 15) = false := by simp; omega
      have e18 : (y % 19 == 18) = false := by simp; omega
      clear hn
      go_enter Tryd.func14, Tryd.ntmps14
      go_wp2
      go_ret
      exact ⟨by first | rfl | (simp; done) | (simp [*]; done), rfl⟩
    · have hn := (leap_rem (y := y) (by omega)).1 hq
      unfold isLp at hn
      rcases hn with e | e | e | e | e | e | e
      all_goals
        go_enter Tryd.func14, Tryd.ntmps14
        go_wp2
        go_ret
        exact ⟨by first | rfl | (simp; done) | (simp [*]; done), rfl⟩
theorem refLeap_any (y : Int) (w : World) : Calls Tryd.prog 15 #[.int .i64 y] w (SamePost w (.bool (leapB y))) := by
  by_cases h : y < 0
  · rw [leap_neg h]
    go_enter Tryd.func15, Tryd.ntmps15
    go_wp2
    go_ret
    exact ⟨by first | rfl | (simp; done) | (simp [*]; done), rfl⟩
  · cases hq : leapB y
    · have hn : ¬ isLp (y % 19) := fun k => by rw [(leap_rem (y := y) (by omega)).2 k] at hq; cases hq
      unfold isLp at hn
      have e2 : (y % 19 == 2) = false := by simp; omega
      have e5 : (y % 19 == 5) = false := by simp; omega
      have e7 : (y % 19 == 7) = false := by simp; omega
      have e10 : (y % 19 == 10) = false := by simp; omega
      have e13 : (y % 19 == 13) = false := by simp; omega
      have e15 : (y % 19 == 15) = false := by simp; omega
      have e18 : (y % 19 == 18) = false := by simp; omega
      clear hn
      go_enter Tryd.func15, Tryd.ntmps15
      go_wp2
      go_ret
      exact ⟨by first | rfl | (simp; done) | (simp [*]; done), rfl⟩
    · have hn := (leap_rem (y := y) (by omega)).1 hq
      unfold isLp at hn
      rcases hn with e | e | e | e | e | e | e
      all_goals
        go_enter Tryd.func15, Tryd.ntmps15
        go_wp2
        go_ret
        exact ⟨by first | rfl | (simp; done) | (simp [*]; done), rfl⟩
theorem yd_any (y : Int) (w : World) : Calls Tryd.prog 16 #[.int .i64 y] w (SamePost w (.int .i64 (yd y))) := by
  have hl := Lib.hid (fun w => leap_any y w)
  by_cases h : y < 0
  · rw [yd_neg h]
    go_enter Tryd.func16, Tryd.ntmps16
    go_wp2
    go_ret
    exact ⟨rfl, rfl⟩
  · cases hq : leapB y
    · rw [yd_plain (by omega) hq]
      rw [hq] at hl
      clear hq
      go_enter Tryd.func16, Tryd.ntmps16
      go_wp2_with fail
      refine (hl.out _).mono ?_
      rintro e w' ⟨rfl, rfl⟩
      go_wp2
      go_ret
      exact ⟨rfl, rfl⟩
    · rw [yd_leap hq]
      rw [hq] at hl
      clear hq
      go_enter Tryd.func16, Tryd.ntmps16
      go_wp2_with fail
      refine (hl.out _).mono ?_
      rintro e w' ⟨rfl, rfl⟩
      go_wp2
      go_ret
      exact ⟨rfl, rfl⟩
theorem refYd_any (y : Int) (w : World) : Calls Tryd.prog 17 #[.int .i64 y] w (SamePost w (.int .i64 (yd y))) := by
  have hl := Lib.hid (fun w => refLeap_any y w)
  by_cases h : y < 0
  · rw [yd_neg h]
    go_enter Tryd.func17, Tryd.ntmps17
    go_wp2
    go_ret
    exact ⟨rfl, rfl⟩
  · cases hq : leapB y
    · rw [yd_plain (by omega) hq]
      rw [hq] at hl
      clear hq
      go_enter Tryd.func17, Tryd.ntmps17
      go_wp2_with fail
      refine (hl.out _).mono ?_
      rintro e w' ⟨rfl, rfl⟩
      go_wp2
      go_ret
      exact ⟨rfl, rfl⟩
    · rw [yd_leap hq]
      rw [hq] at hl
      clear hq
      go_enter Tryd.func17, Tryd.ntmps17
      go_wp2_with fail
      refine (hl.out _).mono ?_
      rintro e w' ⟨rfl, rfl⟩
      go_wp2
      go_ret
      exact ⟨rfl, rfl⟩

theorem yearStart_any (y : Int) (w : World) (h0 : 0 ≤ y) (h1 : y ≤ 1000000) : Calls Tryd.prog 33 #[.int .i64 y] w (SamePost w (.int .i64 (ys y))) := by
  have HD := Lib.hid (ys_div y)
  have HZ := Lib.hid ys_zero
  have hq : 0 ≤ y / 19 ∧ y / 19 ≤ 100000 := by omega
  have hr : 0 ≤ y % 19 ∧ y % 19 < 19 := by omega
  go_enter Tryd.func33, Tryd.ntmps33
  go_wp2
  go_loop [3, 10] (fun s i => ∃ k : Int, i = .int .i64 k ∧ 0 ≤ k ∧ k ≤ y % 19 ∧ s = .int .i64 (y / 19 * 6936 + ys k)) (fun _ i => (y % 19 - intOf i).toNat)
  case atStart => exact ⟨0, rfl, by omega, by omega, by rw [HZ.out]; simp⟩
  case round =>
    obtain ⟨k, rfl, k0, k1, rfl⟩ := hrel
    have hb := ys_ge k0
    by_cases hlt : k < y % 19
    · have HS := Lib.hid (ys_succ k0)
      have hy := Lib.hid (fun w => yd_any k w)
      have hyb := yd_bd0 k
      generalize yd k = D at *
      generalize ys k = S at *
      go_wp2_with fail
      refine (hy.out _).mono ?_
      rintro e w' ⟨rfl, rfl⟩
      go_wp2
      go_round
      case rel => exact ⟨k + 1, rfl, by omega, by omega, by rw [HS.out]; go_num⟩
      case measure => simp [intOf]; omega
    · have hk : k = y % 19 := by omega
      rw [← hk] at HD
      clear hk
      generalize ys k = S at *
      go_wp2
      go_ret
      exact ⟨ret_int (by rw [HD.out]), rfl⟩
theorem upTo_any (n : Int) (w : World) : Calls Tryd.prog 32 #[.int .i64 n] w (SamePost w (.tuple #[.int .i64 (if n ≤ 999999 then n else 0), .int .i64 (if n ≤ 999999 then 0 else 2)])) := by
  by_cases k : 999999 < n
  · rw [if_neg (by omega), if_neg (by omega)]
    go_enter Tryd.func32, Tryd.ntmps32
    go_wp2
    go_ret2
    exact ⟨rfl, rfl⟩
  · rw [if_pos (by omega), if_pos (by omega)]
    go_enter Tryd.func32, Tryd.ntmps32
    go_wp2
    go_ret2
    exact ⟨rfl, rfl⟩
theorem ysProg_any (y : Int) (w : World) : Calls Tryd.prog 18 #[.int .i64 y] w (SamePost w (.tuple #[.int .i64 (ysV y).1, .int .i64 (ysV y).2])) := by
  by_cases h0 : y < 0
  · rw [ysV_neg h0]
    go_enter Tryd.func18, Tryd.ntmps18
    go_wp2
    go_ret2
    exact ⟨rfl, rfl⟩
  · by_cases h1 : 2824 < y
    · rw [ysV_big (by omega) (by have := ys_max h1; omega)]
      go_enter Tryd.func18, Tryd.ntmps18
      go_wp2
      go_ret2
      exact ⟨rfl, rfl⟩
    · have hy := yearStart_any y w (by omega) (by omega)
      have hu := upTo_any (ys y) w
      have HV := Lib.hid (show ysV y = (if ys y ≤ 999999 then ys y else 0, if ys y ≤ 999999 then 0 else 2) by
        by_cases k : ys y ≤ 999999
        · rw [ysV_ok (by omega) k, if_pos k, if_pos k]
        · rw [ysV_big (by omega) k, if_neg k, if_neg k])
      rw [HV.out]
      dsimp only
      clear HV
      generalize (if ys y ≤ 999999 then ys y else 0) = a at *
      generalize (if ys y ≤ 999999 then (0 : Int) else 2) = b at *
      go_enter Tryd.func18, Tryd.ntmps18
      go_wp2_with fail
      refine hy.mono ?_
      rintro e w' ⟨rfl, rfl⟩
      go_wp2_with fail
      refine hu.mono ?_
      rintro e w' ⟨rfl, rfl⟩
      go_wp2
      go_ret2
      exact ⟨rfl, rfl⟩

/-- y is the year of the day n. -/
def YearIs (n y : Int) : Prop := 0 ≤ y ∧ y ≤ 2825 ∧ ys y ≤ n ∧ n < ys (y + 1)
theorem yearOf_any (n : Int) (w : World) (h0 : 0 ≤ n) (h1 : n ≤ 999999) : Calls Tryd.prog 35 #[.int .i64 n] w (fun e w' => ∃ y : Int, e = .returned (.int .i64 y) ∧ YearIs n y ∧ w = w') := by
  have HM := Lib.hid (ys_mul (n / 6936))
  have hq : 0 ≤ n / 6936 ∧ n / 6936 ≤ 144 := by omega
  have hr : n = 6936 * (n / 6936) + n % 6936 := by omega
  have hr2 : 0 ≤ n % 6936 ∧ n % 6936 < 6936 := by omega
  have HR := Lib.hid hr
  clear hr
  go_enter Tryd.func35, Tryd.ntmps35
  go_wp2
  go_loop [3, 4] (fun i s => ∃ y : Int, i = .int .i64 y ∧ 0 ≤ y ∧ y ≤ 2825 ∧ s = .int .i64 (n - ys y) ∧ 0 ≤ n - ys y) (fun _ s => (intOf s).toNat)
  case atStart => exact ⟨n / 6936 * 19, rfl, by omega, by omega, by rw [HM.out]; congr 1; have := HR.out; omega, by rw [HM.out]; have := HR.out; omega⟩
  case round =>
    obtain ⟨y, rfl, y0, y1, rfl, hs⟩ := hrel
    have hge := ys_ge y0
    have HS := Lib.hid (ys_succ y0)
    have hy := Lib.hid (fun w => yd_any y w)
    have hyb := yd_bd y0
    generalize yd y = D at *
    generalize hS : ys y = S at *
    have HSS := Lib.hid hS
    clear hS
    by_cases hc : D ≤ n - S
    · have hy2 : y + 1 ≤ 2825 := by
        by_cases e : y + 1 ≤ 2825
        · exact e
        · have := ys_ge (y := y + 1) (by omega); have := HS.out; omega
      go_wp2_with fail
      refine (hy.out _).mono ?_
      rintro e w' ⟨rfl, rfl⟩
      go_wp2_with fail
      refine (hy.out _).mono ?_
      rintro e w' ⟨rfl, rfl⟩
      go_wp2
      go_round
      case rel => exact ⟨y + 1, rfl, by omega, hy2, by rw [HS.out]; go_num, by rw [HS.out]; omega⟩
      case measure => simp [intOf]; omega
    · go_wp2_with fail
      refine (hy.out _).mono ?_
      rintro e w' ⟨rfl, rfl⟩
      go_wp2
      go_ret
      exact ⟨y, rfl, ⟨y0, y1, by rw [HSS.out]; omega, by rw [HS.out]; omega⟩, rfl⟩

/-- What the reference's YearStart returns: the day, and whether it is at most MaxDay. -/
def rysV (y : Int) : Int × Bool := if y ≤ 0 then (0, true) else if ys y ≤ 999999 then (ys y, true) else (0, false)
theorem rysV_zero {y : Int} (h : y ≤ 0) : rysV y = (0, true) := if_pos h
theorem rysV_ok {y : Int} (h : 0 ≤ y) (k : ys y ≤ 999999) : rysV y = (ys y, true) := by
  unfold rysV
  by_cases e : y ≤ 0
  · obtain rfl : y = 0 := by omega
    rw [if_pos e]; rfl
  · rw [if_neg e, if_pos k]
theorem rysV_big {y : Int} (h : 0 ≤ y) (k : ¬ ys y ≤ 999999) : rysV y = (0, false) := by
  unfold rysV
  have e : ¬ y ≤ 0 := fun e => k (by rw [show y = 0 by omega]; decide)
  rw [if_neg e, if_neg k]
theorem refYs_any (y : Int) (w : World) : Calls Tryd.prog 19 #[.int .i64 y] w (SamePost w (.tuple #[.int .i64 (rysV y).1, .bool (rysV y).2])) := by
  by_cases h0 : y < 0
  · rw [rysV_zero (by omega)]
    go_enter Tryd.func19, Tryd.ntmps19
    go_wp2
    go_loop [4, 5] (fun s i => s = .int .i64 0 ∧ i = .int .i64 0) (fun _ i => 0)
    case atStart => exact ⟨rfl, rfl⟩
    case round =>
      obtain ⟨rfl, rfl⟩ := hrel
      go_wp2
      go_ret2
      exact ⟨rfl, rfl⟩
  · have HZ := Lib.hid ys_zero
    have HO := Lib.hid (rysV_ok (y := y) (by omega))
    have HG := Lib.hid (rysV_big (y := y) (by omega))
    have HMN := Lib.hid (fun k (h : k ≤ y) => ys_mono h)
    generalize rysV y = V at *
    go_enter Tryd.func19, Tryd.ntmps19
    go_wp2
    go_loop [4, 5] (fun s i => ∃ k : Int, i = .int .i64 k ∧ 0 ≤ k ∧ k ≤ y ∧ s = .int .i64 (ys k) ∧ ys k ≤ 999999) (fun _ i => (y - intOf i).toNat)
    case atStart => exact ⟨0, rfl, by omega, by omega, by rw [HZ.out], by rw [HZ.out]; omega⟩
    case round =>
      obtain ⟨k, rfl, k0, k1, rfl, k2⟩ := hrel
      have hb := ys_ge k0
      by_cases hc : k < y
      · have HS := Lib.hid (ys_succ k0)
        have hyd := Lib.hid (fun w => yd_any k w)
        have hyd := Lib.hid (fun w => refYd_any k w)
        have hyb := yd_bd0 k
        have HM2 := Lib.hid (HMN.out (k + 1) (by omega))
        by_cases hd : ys k + yd k ≤ 999999
        · generalize yd k = D at *
          generalize ys k = S at *
          go_wp2_with fail
          refine (hyd.out _).mono ?_
          rintro e w' ⟨rfl, rfl⟩
          go_wp2
          go_round
          case rel => exact ⟨k + 1, rfl, by omega, by omega, by rw [HS.out], by rw [HS.out]; omega⟩
          case measure => simp [intOf]; omega
        · have HV := Lib.hid (HG.out (by have := HM2.out; have := HS.out; omega))
          generalize yd k = D at *
          generalize ys k = S at *
          go_wp2_with fail
          refine (hyd.out _).mono ?_
          rintro e w' ⟨rfl, rfl⟩
          go_wp2
          go_ret2
          exact ⟨by rw [HV.out]; rfl, rfl⟩
      · obtain rfl : k = y := by omega
        have HV := Lib.hid (HO.out k2)
        generalize ys k = S at *
        go_wp2
        go_ret2
        exact ⟨by rw [HV.out]; rfl, rfl⟩
end Go.Proofs.YtdeojpmimhagjabDoor
