/-
  Equal lists of numbers (slices.Equal, same, Same); cmp.Compare at int. Conditions: the slices hold the lists.
-/
import Derived.Test.YteknfigpjhngfaaMeasBase
namespace Go.Proofs.Yteknfigpjhngfaa
open Go.RowKit
open MeasPlain

theorem take_all {xs ys : List Int} {n : Nat} (h1 : xs.length = n) (h2 : ys.length = n) (h : xs.take n = ys.take n) : xs = ys := by
  rwa [List.take_of_length_le (by omega), List.take_of_length_le (by omega)] at h
theorem take_ne {xs ys : List Int} {k : Nat} {x y : Int} (hx : xs[k]? = some x) (hy : ys[k]? = some y) (h : x ≠ y) : xs ≠ ys := by
  rintro rfl
  rw [hx] at hy
  exact h (Option.some.inj hy)
theorem take_more {xs ys : List Int} {k : Nat} {x : Int} (hx : xs[k]? = some x) (hy : ys[k]? = some x) (h : xs.take k = ys.take k) : xs.take (k + 1) = ys.take (k + 1) := by
  rw [take_next hx, take_next hy, h]

set_option maxRecDepth 100000 in
set_option maxHeartbeats 800000 in
theorem equal_any (A : Option Addr) (n c : Nat) (xs : List Int) (B : Option Addr) (m d : Nat) (ys : List Int) (w : World) (ha : Rw vI w A n c xs) (hb : Rw vI w B m d ys) :
    Calls Try.prog 34 #[.slice A n c, .slice B m d] w (BoolPost w (decide (xs = ys))) := by
  have hnc := ha.le
  have hcm := ha.cmax
  have hmd := hb.le
  have hdm := hb.cmax
  have HA := Lib.hid ha.len
  have HB := Lib.hid hb.len
  by_cases hnm : n = m
  · subst hnm
    go_enter Try.func34, Try.ntmps34
    go_wp2
    go_loopw [13] (fun i wr => ∃ k : Nat, k ≤ n ∧ i = .int .i64 (k : Nat) ∧ xs.take k = ys.take k ∧ Aft w wr) (fun i _ => n - (intOf i).toNat)
    case atStart => exact ⟨0, Nat.zero_le _, rfl, rfl, Aft.refl _⟩
    case round =>
      obtain ⟨k, hk, rfl, heq, haf⟩ := hrel
      have HQ := Lib.hid heq
      clear heq
      by_cases hlt : k < n
      · obtain ⟨b, off, x, rfl, hx, h1⟩ := ha.at_ hlt
        obtain ⟨b2, off2, y, rfl, hy, h2⟩ := hb.at_ hlt
        have c1 := haf.cell h1
        have c2 := haf.cell h2
        dsimp only [vI] at c1 c2
        have hki : (k : Int) < (n : Int) := by omega
        have hwk : IntKind.i64.wrap (k : Int) = (k : Int) := wrap_small _ (by omega) (by omega)
        by_cases hxy : x = y
        · subst hxy
          have HT := Lib.hid (take_more hx hy HQ.out)
          clear hx hy h1 h2
          go_wp2
          go_quiet (fail)
          go_wp2
          go_roundw
          case rel => exact ⟨k + 1, by omega, by go_num, HT.out, haf.drewN _⟩
          case measure => simp [intOf]; omega
        · have HT := Lib.hid (decide_eq_false (take_ne hx hy hxy))
          have hbn : (x != y) = true := by simp [hxy]
          clear hx hy h1 h2
          go_wp2
          go_quiet (fail)
          go_wp2
          go_ret
          exact ⟨by rw [HT.out]; rfl, haf.drewN _⟩
      · obtain rfl : k = n := by omega
        have HT := Lib.hid (decide_eq_true (take_all HA.out HB.out HQ.out))
        go_wp2
        go_ret
        exact ⟨by rw [HT.out]; rfl, haf⟩
  · have HT := Lib.hid (decide_eq_false (show ¬ xs = ys by intro e; subst e; exact hnm (HA.out.symm.trans HB.out)))
    have hni : ¬ (n : Int) = (m : Int) := by omega
    clear ha hb
    go_enter Try.func34, Try.ntmps34
    go_wp2
    go_ret
    exact ⟨by rw [HT.out]; rfl, Aft.refl _⟩

set_option maxRecDepth 100000 in
set_option maxHeartbeats 800000 in
theorem same_any (A : Option Addr) (n c : Nat) (xs : List Int) (B : Option Addr) (m d : Nat) (ys : List Int) (w : World) (ha : Rw vI w A n c xs) (hb : Rw vI w B m d ys) :
    Calls Try.prog 18 #[.slice A n c, .slice B m d] w (BoolPost w (decide (xs = ys))) := by
  have hnc := ha.le
  have hcm := ha.cmax
  have hmd := hb.le
  have hdm := hb.cmax
  have HA := Lib.hid ha.len
  have HB := Lib.hid hb.len
  by_cases hnm : n = m
  · subst hnm
    go_enter Try.func18, Try.ntmps18
    go_wp2
    go_loopw [5] (fun i wr => ∃ k : Nat, k ≤ n ∧ i = .int .i64 (k : Nat) ∧ xs.take k = ys.take k ∧ Aft w wr) (fun i _ => n - (intOf i).toNat)
    case atStart => exact ⟨0, Nat.zero_le _, rfl, rfl, Aft.refl _⟩
    case round =>
      obtain ⟨k, hk, rfl, heq, haf⟩ := hrel
      have HQ := Lib.hid heq
      clear heq
      by_cases hlt : k < n
      · obtain ⟨b, off, x, rfl, hx, h1⟩ := ha.at_ hlt
        obtain ⟨b2, off2, y, rfl, hy, h2⟩ := hb.at_ hlt
        have c1 := haf.cell h1
        have c2 := haf.cell h2
        dsimp only [vI] at c1 c2
        have hki : (k : Int) < (n : Int) := by omega
        have hwk : IntKind.i64.wrap (k : Int) = (k : Int) := wrap_small _ (by omega) (by omega)
        by_cases hxy : x = y
        · subst hxy
          have HT := Lib.hid (take_more hx hy HQ.out)
          clear hx hy h1 h2
          go_wp2
          go_quiet (fail)
          go_wp2
          go_roundw
          case rel => exact ⟨k + 1, by omega, by go_num, HT.out, haf.drewN _⟩
          case measure => simp [intOf]; omega
        · have HT := Lib.hid (decide_eq_false (take_ne hx hy hxy))
          have hbn : (x != y) = true := by simp [hxy]
          clear hx hy h1 h2
          go_wp2
          go_quiet (fail)
          go_wp2
          go_ret
          exact ⟨by rw [HT.out]; rfl, haf.drewN _⟩
      · obtain rfl : k = n := by omega
        have HT := Lib.hid (decide_eq_true (take_all HA.out HB.out HQ.out))
        go_wp2
        go_ret
        exact ⟨by rw [HT.out]; rfl, haf⟩
  · have HT := Lib.hid (decide_eq_false (show ¬ xs = ys by intro e; subst e; exact hnm (HA.out.symm.trans HB.out)))
    have hni : ¬ (n : Int) = (m : Int) := by omega
    clear ha hb
    go_enter Try.func18, Try.ntmps18
    go_wp2
    go_ret
    exact ⟨by rw [HT.out]; rfl, Aft.refl _⟩

set_option maxRecDepth 100000 in
set_option maxHeartbeats 800000 in
theorem rsame_any (A : Option Addr) (n c : Nat) (xs : List Int) (B : Option Addr) (m d : Nat) (ys : List Int) (w : World) (ha : Rw vI w A n c xs) (hb : Rw vI w B m d ys) :
    Calls Try.prog 35 #[.slice A n c, .slice B m d] w (BoolPost w (decide (xs = ys))) := by
  have hnc := ha.le
  have hcm := ha.cmax
  have hmd := hb.le
  have hdm := hb.cmax
  have HA := Lib.hid ha.len
  have HB := Lib.hid hb.len
  by_cases hnm : n = m
  · subst hnm
    go_enter Try.func35, Try.ntmps35
    go_wp2
    go_loopw [13] (fun i wr => ∃ k : Nat, k ≤ n ∧ i = .int .i64 (k : Nat) ∧ xs.take k = ys.take k ∧ Aft w wr) (fun i _ => n - (intOf i).toNat)
    case atStart => exact ⟨0, Nat.zero_le _, rfl, rfl, Aft.refl _⟩
    case round =>
      obtain ⟨k, hk, rfl, heq, haf⟩ := hrel
      have HQ := Lib.hid heq
      clear heq
      by_cases hlt : k < n
      · obtain ⟨b, off, x, rfl, hx, h1⟩ := ha.at_ hlt
        obtain ⟨b2, off2, y, rfl, hy, h2⟩ := hb.at_ hlt
        have c1 := haf.cell h1
        have c2 := haf.cell h2
        dsimp only [vI] at c1 c2
        have hki : (k : Int) < (n : Int) := by omega
        have hwk : IntKind.i64.wrap (k : Int) = (k : Int) := wrap_small _ (by omega) (by omega)
        by_cases hxy : x = y
        · subst hxy
          have HT := Lib.hid (take_more hx hy HQ.out)
          clear hx hy h1 h2
          go_wp2
          go_quiet (fail)
          go_wp2
          go_roundw
          case rel => exact ⟨k + 1, by omega, by go_num, HT.out, haf.drewN _⟩
          case measure => simp [intOf]; omega
        · have HT := Lib.hid (decide_eq_false (take_ne hx hy hxy))
          have hbn : (x != y) = true := by simp [hxy]
          clear hx hy h1 h2
          go_wp2
          go_quiet (fail)
          go_wp2
          go_ret
          exact ⟨by rw [HT.out]; rfl, haf.drewN _⟩
      · obtain rfl : k = n := by omega
        have HT := Lib.hid (decide_eq_true (take_all HA.out HB.out HQ.out))
        go_wp2
        go_ret
        exact ⟨by rw [HT.out]; rfl, haf⟩
  · have HT := Lib.hid (decide_eq_false (show ¬ xs = ys by intro e; subst e; exact hnm (HA.out.symm.trans HB.out)))
    have hni : ¬ (n : Int) = (m : Int) := by omega
    clear ha hb
    go_enter Try.func35, Try.ntmps35
    go_wp2
    go_ret
    exact ⟨by rw [HT.out]; rfl, Aft.refl _⟩

theorem nan_any (a : Int) (w : World) : Calls Try.prog 45 #[.int .i64 a] w (fun e w' => e = .returned (.bool false) ∧ w = w') := by
  go_enter Try.func45, Try.ntmps45
  go_wp2
  go_ret
  exact ⟨by first | rfl | simp, rfl⟩
set_option maxHeartbeats 800000 in
theorem cmp_any (a b : Int) (w : World) : Calls Try.prog 37 #[.int .i64 a, .int .i64 b] w (fun e w' => e = .returned (.int .i64 (cmpI a b)) ∧ w = w') := by
  have HN := Lib.hid nan_any
  by_cases h1 : a < b
  · have HV := Lib.hid (show cmpI a b = -1 by unfold cmpI; rw [if_pos h1])
    go_enter Try.func37, Try.ntmps37
    go_wp2_with fail
    refine (HN.out a _).mono ?_
    rintro e w1 ⟨rfl, rfl⟩
    go_wp2_with fail
    refine (HN.out b _).mono ?_
    rintro e w1 ⟨rfl, rfl⟩
    go_wp2
    go_ret
    exact ⟨by rw [HV.out]; rfl, rfl⟩
  · by_cases h2 : b < a
    · have HV := Lib.hid (show cmpI a b = 1 by unfold cmpI; rw [if_neg h1, if_pos h2])
      go_enter Try.func37, Try.ntmps37
      go_wp2_with fail
      refine (HN.out a _).mono ?_
      rintro e w1 ⟨rfl, rfl⟩
      go_wp2_with fail
      refine (HN.out b _).mono ?_
      rintro e w1 ⟨rfl, rfl⟩
      go_wp2
      go_ret
      exact ⟨by rw [HV.out]; rfl, rfl⟩
    · have HV := Lib.hid (show cmpI a b = 0 by unfold cmpI; rw [if_neg h1, if_neg h2])
      go_enter Try.func37, Try.ntmps37
      go_wp2_with fail
      refine (HN.out a _).mono ?_
      rintro e w1 ⟨rfl, rfl⟩
      go_wp2_with fail
      refine (HN.out b _).mono ?_
      rintro e w1 ⟨rfl, rfl⟩
      go_wp2
      go_ret
      exact ⟨by rw [HV.out]; rfl, rfl⟩
end Go.Proofs.Yteknfigpjhngfaa
