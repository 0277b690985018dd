/-
  The reference's Valid returns whether a list is a valid record. Condition: the slice holds the features, and no string is longer than any string can be.
-/
import Derived.Test.YtgdmpkccibfbpaaDoorFeatValid
namespace Go.Proofs.YtgdmpkccibfbpaaDoor
open Go.RowKit
open FeatPlain

theorem valid_names {xs : List Ft} (h : (xs.take xs.length).all named = true) : validB xs = (decide (xs.length ≤ 8) && ascB xs) := by
  rw [List.take_length] at h
  simp [validB, h]

set_option maxRecDepth 100000 in
set_option maxHeartbeats 1600000 in
theorem refValid_any (A : Option Addr) (n c : Nat) (xs : List Ft) (w : World) (ha : Sl w A n c xs) (hz : Sized xs) :
    Calls Tryd.prog 5 #[.slice A n c] w (QuietPost w (validB xs)) := by
  have hn := ha.max
  have hnc := ha.le
  have hlen := Lib.hid ha.len
  go_enter Tryd.func5, Tryd.ntmps5
  go_wp2
  go_loop [3] (fun i => ∃ k : Nat, k ≤ n ∧ i = .int .i64 k ∧ (xs.take k).all named = true) (fun i => n - (intOf i).toNat)
  case atStart => exact ⟨0, Nat.zero_le _, rfl, by simp⟩
  case round =>
    obtain ⟨k, hk, rfl, hall⟩ := hrel
    have HA := Lib.hid hall
    clear hall
    by_cases hlt : k < n
    · obtain ⟨b, off, f, rfl, hf, h1, h2⟩ := ha.at_ hlt
      have hz1 := hz.get hf
      have HF := Lib.hid hf
      clear hf
      by_cases n1 : isName f.1 = true
      · by_cases n2 : isName f.2 = true
        · have hnm : named f = true := by simp [named, n1, n2]
          go_wp2_with fail
          refine (name_any _ _ hz1.1).mono ?_
          rintro e w1 ⟨rfl, rfl⟩
          go_wp2_with fail
          refine (name_any _ _ hz1.2).mono ?_
          rintro e w1 ⟨rfl, rfl⟩
          go_wp2
          go_round
          case rel => exact ⟨k + 1, by omega, by go_num, by rw [List.take_add_one, List.all_append, HA.out, HF.out]; simp [hnm]⟩
          case measure => simp [intOf]; omega
        · have hnm : named f = false := by simp [named, n2]
          have n2' : isName f.2 = false := by simpa using n2
          clear n2
          go_wp2_with fail
          refine (name_any _ _ hz1.1).mono ?_
          rintro e w1 ⟨rfl, rfl⟩
          go_wp2_with fail
          refine (name_any _ _ hz1.2).mono ?_
          rintro e w1 ⟨rfl, rfl⟩
          go_wp2
          go_ret
          exact ⟨by rw [valid_bad HF.out hnm]; rfl, 0, rfl⟩
      · have hnm : named f = false := by simp [named, n1]
        have n1' : isName f.1 = false := by simpa using n1
        clear n1
        go_wp2_with fail
        refine (name_any _ _ hz1.1).mono ?_
        rintro e w1 ⟨rfl, rfl⟩
        go_wp2
        go_ret
        exact ⟨by rw [valid_bad HF.out hnm]; rfl, 0, rfl⟩
    · obtain rfl : k = n := by omega
      by_cases h8 : k ≤ 8
      · have h8' : (k : Int) ≤ 8 := by omega
        go_wp2_with fail
        refine (record_any A k c xs w ha).mono ?_
        rintro e w1 ⟨rfl, q1, rfl⟩
        go_wp2
        go_ret
        refine ⟨?_, q1, rfl⟩
        rw [valid_names (by rw [hlen.out]; exact HA.out), hlen.out, decide_eq_true h8]
        rfl
      · have h8' : ¬ (k : Int) ≤ 8 := by omega
        go_wp2
        go_ret
        exact ⟨by rw [valid_long (by rw [hlen.out]; exact h8)]; rfl, 0, rfl⟩

end Go.Proofs.YtgdmpkccibfbpaaDoor
