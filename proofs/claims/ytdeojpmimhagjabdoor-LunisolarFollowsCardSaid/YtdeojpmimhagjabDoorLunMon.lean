/-
  Whether a month exists, and its length: exists, MonthDays, of the program and of the reference. Conditions: 'Tab'.
-/
import Derived.Test.YtdeojpmimhagjabDoorLunOps
namespace Go.Proofs.YtdeojpmimhagjabDoor
open Go.RowKit
open LunPlain

theorem nex {c y m : Int} {l : Bool} (h : ¬ (c = 2 ∧ exM y m l)) : decide (c = 2 ∧ exM y m l) = false := decide_eq_false h
theorem exists_any (c y m d : Int) (l : Bool) (w : World) : Calls Tryd.prog 34 #[(.agg #[.int .i64 c, .int .i64 y, .int .i64 m, .int .i64 d, .bool l])] w (BoolPost w (decide (c = 2 ∧ exM y m l))) := by
  have A0 := (Aft.refl w).alloc (.cells #[.int .i64 c, .int .i64 y, .int .i64 m, .int .i64 d, .bool l] 34)
  by_cases hc : c = 2
  · subst hc
    by_cases h0 : y < 0
    · rw [nex (fun h => by have := h.2.1; omega)]
      go_enter Tryd.func34, Tryd.ntmps34
      go_wp2
      go_ret
      exact ⟨by first | rfl | (simp; done) | (simp [*]; done), A0⟩
    · by_cases h1 : m < 1
      · rw [nex (fun h => by have := h.2.2.1; omega)]
        go_enter Tryd.func34, Tryd.ntmps34
        go_wp2
        go_ret
        exact ⟨by first | rfl | (simp; done) | (simp [*]; done), A0⟩
      · by_cases h2 : 12 < m
        · rw [nex (fun h => by have := h.2.2.2.1; omega)]
          go_enter Tryd.func34, Tryd.ntmps34
          go_wp2
          go_ret
          exact ⟨by first | rfl | (simp; done) | (simp [*]; done), A0⟩
        · cases l
          · rw [show decide ((2 : Int) = 2 ∧ exM y m false) = true from decide_eq_true ⟨rfl, by omega, by omega, by omega, fun h => by cases h⟩]
            go_enter Tryd.func34, Tryd.ntmps34
            go_wp2
            go_ret
            exact ⟨by first | rfl | (simp; done) | (simp [*]; done), A0⟩
          · by_cases h6 : m = 6
            · subst h6
              have hl := Lib.hid (fun w => leap_any y w)
              have HV := Lib.hid (show decide ((2 : Int) = 2 ∧ exM y 6 true) = leapB y by
                cases hq : leapB y
                · exact decide_eq_false (fun h => by have := (h.2.2.2.2 rfl).2; rw [hq] at this; cases this)
                · exact decide_eq_true ⟨rfl, by omega, by omega, by omega, fun _ => ⟨rfl, hq⟩⟩)
              rw [HV.out]
              generalize leapB y = q at *
              clear HV
              go_enter Tryd.func34, Tryd.ntmps34
              go_wp2_with fail
              refine (hl.out _).mono ?_
              rintro e w' ⟨rfl, rfl⟩
              go_wp2
              go_ret
              exact ⟨by first | rfl | (simp; done) | (simp [*]; done), A0⟩
            · have h6b : (m == 6) = false := by simp [h6]
              have h6c : (m != 6) = true := by simp [h6]
              rw [nex (fun h => h6 (h.2.2.2.2 rfl).1)]
              go_enter Tryd.func34, Tryd.ntmps34
              go_wp2
              go_ret
              exact ⟨by first | rfl | (simp; done) | (simp [*]; done), A0⟩
  · have hcn : (c != 2) = true := by simp [hc]
    have hcn2 : (c == 2) = false := by simp [hc]
    rw [nex (fun h => hc h.1)]
    go_enter Tryd.func34, Tryd.ntmps34
    go_wp2
    go_ret
    exact ⟨by first | rfl | (simp; done) | (simp [*]; done), A0⟩
set_option maxRecDepth 100000 in
set_option maxHeartbeats 1600000 in
theorem MonthDays_any (c y m d : Int) (l : Bool) (w : World) (ht : Tab w) : Calls Tryd.prog 21 #[(.agg #[.int .i64 c, .int .i64 y, .int .i64 m, .int .i64 d, .bool l])] w (ValPost w (.int .i64 (mdV c y m l))) := by
  have A0 := (Aft.refl w).alloc (.cells #[.int .i64 c, .int .i64 y, .int .i64 m, .int .i64 d, .bool l] 34)
  have b0 := BoxD.new w c y m d l
  have HE := Lib.hid (fun w => exists_any c y m d l w)
  by_cases h : c = 2 ∧ exM y m l
  · obtain ⟨rfl, hx⟩ := h
    rw [mdV_in hx]
    rw [decide_eq_true ⟨rfl, hx⟩] at HE
    obtain ⟨y0, m0, m1, m2⟩ := hx
    cases l
    · obtain ⟨k, rfl⟩ : ∃ k : Nat, m = (k : Int) + 1 := ⟨(m - 1).toNat, by omega⟩
      have hc := ht k (by omega)
      have hk : k < 12 := by omega
      have hs : (k : Int) + 1 - 1 = (k : Int) := by omega
      clear ht m2
      generalize md ((k : Int) + 1) false = M at *
      go_enter Tryd.func21, Tryd.ntmps21
      go_wp2_with fail
      refine (HE.out _).mono ?_
      rintro e w1 ⟨rfl, N1⟩
      have A1 := A0.trans N1
      obtain ⟨c0, c1, c2, c3, c4⟩ := (b0.aft N1).five
      clear b0
      have hc1 := A1.cell hc
      clear hc
      go_wp2
      go_ret
      exact ⟨rfl, A1⟩
    · rw [show md m true = 30 from rfl]
      clear m2
      go_enter Tryd.func21, Tryd.ntmps21
      go_wp2_with fail
      refine (HE.out _).mono ?_
      rintro e w1 ⟨rfl, N1⟩
      have A1 := A0.trans N1
      obtain ⟨c0, c1, c2, c3, c4⟩ := (b0.aft N1).five
      clear b0
      go_wp2
      go_ret
      exact ⟨rfl, A1⟩
  · rw [mdV_out h]
    rw [decide_eq_false h] at HE
    clear h
    go_enter Tryd.func21, Tryd.ntmps21
    go_wp2_with fail
    refine (HE.out _).mono ?_
    rintro e w1 ⟨rfl, N1⟩
    have A1 := A0.trans N1
    obtain ⟨c0, c1, c2, c3, c4⟩ := (b0.aft N1).five
    clear b0
    go_wp2
    go_ret
    exact ⟨rfl, A1⟩
set_option maxRecDepth 100000 in
set_option maxHeartbeats 1600000 in
theorem refMonthDays_any (c y m d : Int) (l : Bool) (w : World) : Calls Tryd.prog 24 #[(.agg #[.int .i64 c, .int .i64 y, .int .i64 m, .int .i64 d, .bool l])] w (ValPost w (.int .i64 (mdV c y m l))) := by
  have A0 := (Aft.refl w).alloc (.cells #[.int .i64 c, .int .i64 y, .int .i64 m, .int .i64 d, .bool l] 34)
  by_cases hc : c = 2
  · subst hc
    by_cases h0 : y < 0
    · rw [mdV_out (fun h => by have := h.2.1; omega)]
      go_enter Tryd.func24, Tryd.ntmps24
      go_wp2
      go_ret
      exact ⟨by first | rfl | (simp; done) | (simp [*]; done), A0⟩
    · by_cases h1 : m < 1
      · rw [mdV_out (fun h => by have := h.2.2.1; omega)]
        go_enter Tryd.func24, Tryd.ntmps24
        go_wp2
        go_ret
        exact ⟨by first | rfl | (simp; done) | (simp [*]; done), A0⟩
      · by_cases h2 : 12 < m
        · rw [mdV_out (fun h => by have := h.2.2.2.1; omega)]
          go_enter Tryd.func24, Tryd.ntmps24
          go_wp2
          go_ret
          exact ⟨by first | rfl | (simp; done) | (simp [*]; done), A0⟩
        · cases l
          · rw [mdV_in ⟨by omega, by omega, by omega, fun h => by cases h⟩]
            by_cases h3 : m % 2 = 1
            · rw [show md m false = 30 by unfold md; simp [h3]]
              go_enter Tryd.func24, Tryd.ntmps24
              go_wp2
              go_ret
              exact ⟨by first | rfl | (simp; done) | (simp [*]; done), A0⟩
            · rw [show md m false = 29 by unfold md; simp [h3]]
              go_enter Tryd.func24, Tryd.ntmps24
              go_wp2
              go_ret
              exact ⟨by first | rfl | (simp; done) | (simp [*]; done), A0⟩
          · by_cases h6 : m = 6
            · subst h6
              have hl := Lib.hid (fun w => refLeap_any y w)
              cases hq : leapB y
              · rw [mdV_out (fun h => by have := (h.2.2.2.2 rfl).2; rw [hq] at this; cases this)]
                rw [hq] at hl
                clear hq
                go_enter Tryd.func24, Tryd.ntmps24
                go_wp2_with fail
                refine (hl.out _).mono ?_
                rintro e w' ⟨rfl, rfl⟩
                go_wp2
                go_ret
                exact ⟨by first | rfl | (simp; done) | (simp [*]; done), A0⟩
              · rw [mdV_in ⟨by omega, by omega, by omega, fun _ => ⟨rfl, hq⟩⟩]
                rw [show md 6 true = 30 from rfl]
                rw [hq] at hl
                clear hq
                go_enter Tryd.func24, Tryd.ntmps24
                go_wp2_with fail
                refine (hl.out _).mono ?_
                rintro e w' ⟨rfl, rfl⟩
                go_wp2
                go_ret
                exact ⟨by first | rfl | (simp; done) | (simp [*]; done), A0⟩
            · have h6b : (m == 6) = false := by simp [h6]
              have h6c : (m != 6) = true := by simp [h6]
              rw [mdV_out (fun h => h6 (h.2.2.2.2 rfl).1)]
              go_enter Tryd.func24, Tryd.ntmps24
              go_wp2
              go_ret
              exact ⟨by first | rfl | (simp; done) | (simp [*]; done), A0⟩
  · have hcn : (c != 2) = true := by simp [hc]
    have hcn2 : (c == 2) = false := by simp [hc]
    rw [mdV_out (fun h => hc h.1)]
    go_enter Tryd.func24, Tryd.ntmps24
    go_wp2
    go_ret
    exact ⟨by first | rfl | (simp; done) | (simp [*]; done), A0⟩
end Go.Proofs.YtdeojpmimhagjabDoor
