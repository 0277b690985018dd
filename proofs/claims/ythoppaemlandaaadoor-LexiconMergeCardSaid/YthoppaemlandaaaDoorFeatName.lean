/-
  isName and Name return whether a string is a nonempty string of a to z, 0 to 9 and hyphens. Condition: none beyond the size that every string has.
-/
import Derived.Test.YthoppaemlandaaaDoorFeatSame
namespace Go.Proofs.YthoppaemlandaaaDoor
open Go.RowKit
open FeatPlain

def nameByte (c : UInt8) : Bool := (97 ≤ c && c ≤ 122) || (48 ≤ c && c ≤ 57) || c == 45
/-- A name: nonempty, all bytes fit. -/
def isName (s : ByteArray) : Bool := s.data.toList.all nameByte && decide (0 < s.size)

theorem nameByte_iff (c : UInt8) : nameByte c = true ↔ ((97 : Int) ≤ (c.toNat : Int) ∧ (c.toNat : Int) ≤ 122) ∨ ((48 : Int) ≤ (c.toNat : Int) ∧ (c.toNat : Int) ≤ 57) ∨ (c.toNat : Int) = 45 := by
  have e : c = 45 ↔ (c.toNat : Int) = 45 := by
    constructor
    · rintro rfl; rfl
    · intro h; exact UInt8.toNat_inj.1 (by simpa using (by omega : c.toNat = 45))
  unfold nameByte
  simp only [Bool.or_eq_true, Bool.and_eq_true, decide_eq_true_eq, UInt8.le_iff_toNat_le, beq_iff_eq, e]
  simp
  omega

theorem take_snoc (s : ByteArray) (k : Nat) (h : k < s.size) : s.data.toList.take (k + 1) = s.data.toList.take k ++ [s[k]] := by
  rw [List.take_succ_eq_append_getElem (by simpa using h)]; rfl

theorem all_good {s : ByteArray} {k : Nat} (h : k < s.size) (ha : (s.data.toList.take k).all nameByte = true)
    (hc : ((97 : Int) ≤ (s[k].toNat : Int) ∧ (s[k].toNat : Int) ≤ 122) ∨ ((48 : Int) ≤ (s[k].toNat : Int) ∧ (s[k].toNat : Int) ≤ 57) ∨ (s[k].toNat : Int) = 45) : (s.data.toList.take (k + 1)).all nameByte = true := by
  rw [take_snoc s k h, List.all_append, ha]
  simp [(nameByte_iff _).2 hc]

theorem all_bad {s : ByteArray} {k : Nat} (h : k < s.size)
    (hc : ¬ (((97 : Int) ≤ (s[k].toNat : Int) ∧ (s[k].toNat : Int) ≤ 122) ∨ ((48 : Int) ≤ (s[k].toNat : Int) ∧ (s[k].toNat : Int) ≤ 57) ∨ (s[k].toNat : Int) = 45)) : isName s = false := by
  have hn : nameByte s[k] = false := by
    cases e : nameByte s[k]
    · rfl
    · exact absurd ((nameByte_iff _).1 e) hc
  have hm : s[k] ∈ s.data.toList := by
    show s.data.toList[k]'(by simpa using h) ∈ _
    exact List.getElem_mem _
  unfold isName
  have : s.data.toList.all nameByte = false := by
    rw [List.all_eq_false]
    exact ⟨_, hm, by simp [hn]⟩
  rw [this]; rfl

theorem all_end {s : ByteArray} (ha : (s.data.toList.take s.size).all nameByte = true) : isName s = decide (0 < s.size) := by
  rw [List.take_of_length_le (by simp)] at ha
  unfold isName
  rw [ha]; rfl

theorem neq_empty (s : ByteArray) : (!s.toList.isEmpty) = decide (0 < s.size) := by
  rw [ByteArray.toList_eq]
  obtain ⟨⟨l⟩⟩ := s
  cases l <;> simp [ByteArray.size]

def SamePost (w : World) (r : Bool) (e : Ending) (w' : World) : Prop := e = .returned (.bool r) ∧ w = w'

set_option maxHeartbeats 800000 in
theorem isName_any (s : ByteArray) (w : World) (hs : s.size ≤ maxLen) : Calls Tryd.prog 78 #[.string s] w (SamePost w (isName s)) := by
  unfold maxLen at hs
  go_enter Tryd.func78, Tryd.ntmps78
  go_wp2
  go_loop [7] (fun i => ∃ k : Nat, k ≤ s.size ∧ i = .int .i64 k ∧ (s.data.toList.take k).all nameByte = true) (fun i => s.size - (intOf i).toNat)
  case atStart => exact ⟨0, Nat.zero_le _, rfl, by simp⟩
  case round =>
    obtain ⟨k, hk, rfl, ha⟩ := hrel
    have HA := Lib.hid ha
    clear ha
    by_cases hlt : k < s.size
    · have h7 : ((97 : Int) ≤ (s[k].toNat : Int) ∧ (s[k].toNat : Int) ≤ 122) ∨ ((48 : Int) ≤ (s[k].toNat : Int) ∧ (s[k].toNat : Int) ≤ 57) ∨ ((45 : Int) ≤ (s[k].toNat : Int) ∧ (s[k].toNat : Int) ≤ 45) ∨
          (s[k].toNat : Int) < 45 ∨ ((45 : Int) < (s[k].toNat : Int) ∧ (s[k].toNat : Int) < 48) ∨ ((57 : Int) < (s[k].toNat : Int) ∧ (s[k].toNat : Int) < 97) ∨ (122 : Int) < (s[k].toNat : Int) := by omega
      rcases h7 with ⟨a1, a2⟩ | ⟨a1, a2⟩ | ⟨a1, a2⟩ | a1 | ⟨a1, a2⟩ | ⟨a1, a2⟩ | a1
      · go_wp2
        go_round
        case rel => exact ⟨k + 1, by omega, by go_num, all_good hlt HA.out (by omega)⟩
        case measure => simp [intOf]; omega
      · go_wp2
        go_round
        case rel => exact ⟨k + 1, by omega, by go_num, all_good hlt HA.out (by omega)⟩
        case measure => simp [intOf]; omega
      · have e45 : (s[k].toNat : Int) = 45 := by omega
        have b45 : ((s[k].toNat : Int) != 45) = false := by rw [e45]; rfl
        have b46 : ((s[k].toNat : Int) == 45) = true := by rw [e45]; rfl
        have E45 := Lib.hid e45
        clear e45
        go_wp2
        go_round
        case rel => exact ⟨k + 1, by omega, by go_num, all_good hlt HA.out (.inr (.inr E45.out))⟩
        case measure => simp [intOf]; omega
      all_goals
        have b45 : ((s[k].toNat : Int) != 45) = true := by rw [bne_iff_ne]; omega
        go_wp2
        go_ret
        exact ⟨by rw [all_bad hlt (by omega)]; rfl, rfl⟩
    · obtain rfl : k = s.size := by omega
      go_wp2
      go_ret
      refine ⟨?_, rfl⟩
      rw [all_end HA.out, ← neq_empty]
      rfl

set_option maxHeartbeats 800000 in
theorem name_any (s : ByteArray) (w : World) (hs : s.size ≤ maxLen) : Calls Tryd.prog 87 #[.string s] w (SamePost w (isName s)) := by
  unfold maxLen at hs
  go_enter Tryd.func87, Tryd.ntmps87
  go_wp2
  go_loop [3] (fun i => ∃ k : Nat, k ≤ s.size ∧ i = .int .i64 k ∧ (s.data.toList.take k).all nameByte = true) (fun i => s.size - (intOf i).toNat)
  case atStart => exact ⟨0, Nat.zero_le _, rfl, by simp⟩
  case round =>
    obtain ⟨k, hk, rfl, ha⟩ := hrel
    have HA := Lib.hid ha
    clear ha
    by_cases hlt : k < s.size
    · have h7 : ((97 : Int) ≤ (s[k].toNat : Int) ∧ (s[k].toNat : Int) ≤ 122) ∨ ((48 : Int) ≤ (s[k].toNat : Int) ∧ (s[k].toNat : Int) ≤ 57) ∨ ((45 : Int) ≤ (s[k].toNat : Int) ∧ (s[k].toNat : Int) ≤ 45) ∨
          (s[k].toNat : Int) < 45 ∨ ((45 : Int) < (s[k].toNat : Int) ∧ (s[k].toNat : Int) < 48) ∨ ((57 : Int) < (s[k].toNat : Int) ∧ (s[k].toNat : Int) < 97) ∨ (122 : Int) < (s[k].toNat : Int) := by omega
      rcases h7 with ⟨a1, a2⟩ | ⟨a1, a2⟩ | ⟨a1, a2⟩ | a1 | ⟨a1, a2⟩ | ⟨a1, a2⟩ | a1
      · go_wp2
        go_round
        case rel => exact ⟨k + 1, by omega, by go_num, all_good hlt HA.out (by omega)⟩
        case measure => simp [intOf]; omega
      · go_wp2
        go_round
        case rel => exact ⟨k + 1, by omega, by go_num, all_good hlt HA.out (by omega)⟩
        case measure => simp [intOf]; omega
      · have e45 : (s[k].toNat : Int) = 45 := by omega
        have b45 : ((s[k].toNat : Int) != 45) = false := by rw [e45]; rfl
        have b46 : ((s[k].toNat : Int) == 45) = true := by rw [e45]; rfl
        have E45 := Lib.hid e45
        clear e45
        go_wp2
        go_round
        case rel => exact ⟨k + 1, by omega, by go_num, all_good hlt HA.out (.inr (.inr E45.out))⟩
        case measure => simp [intOf]; omega
      all_goals
        have b45 : ((s[k].toNat : Int) != 45) = true := by rw [bne_iff_ne]; omega
        go_wp2
        go_ret
        exact ⟨by rw [all_bad hlt (by omega)]; rfl, rfl⟩
    · obtain rfl : k = s.size := by omega
      go_wp2
      go_ret
      refine ⟨?_, rfl⟩
      rw [all_end HA.out, ← neq_empty]
      rfl
end Go.Proofs.YthoppaemlandaaaDoor
