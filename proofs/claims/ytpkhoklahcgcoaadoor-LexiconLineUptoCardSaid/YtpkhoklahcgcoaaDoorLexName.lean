/-
  isName of package lexicon and Name of its reference return whether a string is a nonempty string of a to z, 0 to 9, hyphens and underscores. Condition: none beyond the size that every string has.
-/
import Derived.Test.YtpkhoklahcgcoaaDoorFtAll
namespace Go.Proofs.YtpkhoklahcgcoaaDoor
open Go.RowKit
open FeatPlain

def nameByteL (c : UInt8) : Bool := (97 ≤ c && c ≤ 122) || (48 ≤ c && c ≤ 57) || c == 45 || c == 95
/-- A name of a lexeme: nonempty, all bytes fit. -/
def nameL (s : ByteArray) : Bool := s.data.toList.all nameByteL && decide (0 < s.size)
theorem byte_eq (c : UInt8) (n : Nat) (hn : n < 256) : c = UInt8.ofNat n ↔ (c.toNat : Int) = (n : Int) := by
  constructor
  · rintro rfl; simp [Nat.mod_eq_of_lt hn]
  · intro h; exact UInt8.toNat_inj.1 (by simp [Nat.mod_eq_of_lt hn]; omega)
theorem nameByteL_iff (c : UInt8) : nameByteL c = true ↔ ((97 : Int) ≤ (c.toNat : Int) ∧ (c.toNat : Int) ≤ 122) ∨ ((48 : Int) ≤ (c.toNat : Int) ∧ (c.toNat : Int) ≤ 57) ∨ (c.toNat : Int) = 45 ∨ (c.toNat : Int) = 95 := by
  have e : c = 45 ↔ (c.toNat : Int) = 45 := byte_eq c 45 (by omega)
  have e' : c = 95 ↔ (c.toNat : Int) = 95 := byte_eq c 95 (by omega)
  unfold nameByteL
  simp only [Bool.or_eq_true, Bool.and_eq_true, decide_eq_true_eq, UInt8.le_iff_toNat_le, beq_iff_eq, e, e']
  simp
  omega
theorem allL_good {s : ByteArray} {k : Nat} (h : k < s.size) (ha : (s.data.toList.take k).all nameByteL = true) (hc : ((97 : Int) ≤ (s[k].toNat : Int) ∧ (s[k].toNat : Int) ≤ 122) ∨ ((48 : Int) ≤ (s[k].toNat : Int) ∧ (s[k].toNat : Int) ≤ 57) ∨ (s[k].toNat : Int) = 45 ∨ (s[k].toNat : Int) = 95) : (s.data.toList.take (k + 1)).all nameByteL = true := by
  rw [take_snoc s k h, List.all_append, ha]
  simp [(nameByteL_iff _).2 hc]
theorem allL_bad {s : ByteArray} {k : Nat} (h : k < s.size) (hc : ¬ (((97 : Int) ≤ (s[k].toNat : Int) ∧ (s[k].toNat : Int) ≤ 122) ∨ ((48 : Int) ≤ (s[k].toNat : Int) ∧ (s[k].toNat : Int) ≤ 57) ∨ (s[k].toNat : Int) = 45 ∨ (s[k].toNat : Int) = 95)) : nameL s = false := by
  have hn : nameByteL s[k] = false := by
    cases e : nameByteL s[k]
    · rfl
    · exact absurd ((nameByteL_iff _).1 e) hc
  have hm : s[k] ∈ s.data.toList := by
    show s.data.toList[k]'(by simpa using h) ∈ _
    exact List.getElem_mem _
  unfold nameL
  have : s.data.toList.all nameByteL = false := by
    rw [List.all_eq_false]
    exact ⟨_, hm, by simp [hn]⟩
  rw [this]; rfl
theorem allL_end {s : ByteArray} (ha : (s.data.toList.take s.size).all nameByteL = true) : nameL s = decide (0 < s.size) := by
  rw [List.take_of_length_le (by simp)] at ha
  unfold nameL
  rw [ha]; rfl

set_option maxHeartbeats 1600000 in
theorem isNameL_any (s : ByteArray) (w : World) (hs : s.size ≤ maxLen) : Calls Tryd.prog 55 #[.string s] w (SamePost w (nameL s)) := by
  unfold maxLen at hs
  go_enter Tryd.func55, Tryd.ntmps55
  go_wp2
  go_loop [7] (fun i => ∃ k : Nat, k ≤ s.size ∧ i = .int .i64 k ∧ (s.data.toList.take k).all nameByteL = true) (fun i => s.size - (intOf i).toNat)
  case atStart => exact ⟨0, Nat.zero_le _, rfl, by simp⟩
  case round =>
    obtain ⟨k, hk, rfl, ha⟩ := hrel
    have HA := Lib.hid ha
    clear ha
    by_cases hlt : k < s.size
    · have h7 : ((97 : Int) ≤ (s[k].toNat : Int) ∧ (s[k].toNat : Int) ≤ 122) ∨ ((48 : Int) ≤ (s[k].toNat : Int) ∧ (s[k].toNat : Int) ≤ 57) ∨ ((45 : Int) ≤ (s[k].toNat : Int) ∧ (s[k].toNat : Int) ≤ 45) ∨ ((95 : Int) ≤ (s[k].toNat : Int) ∧ (s[k].toNat : Int) ≤ 95) ∨
          (s[k].toNat : Int) < 45 ∨ ((45 : Int) < (s[k].toNat : Int) ∧ (s[k].toNat : Int) < 48) ∨ ((57 : Int) < (s[k].toNat : Int) ∧ (s[k].toNat : Int) < 95) ∨ ((95 : Int) < (s[k].toNat : Int) ∧ (s[k].toNat : Int) < 97) ∨ (122 : Int) < (s[k].toNat : Int) := by omega
      rcases h7 with ⟨a1, a2⟩ | ⟨a1, a2⟩ | ⟨a1, a2⟩ | ⟨a1, a2⟩ | a1 | ⟨a1, a2⟩ | ⟨a1, a2⟩ | ⟨a1, a2⟩ | a1
      · go_wp2
        go_round
        case rel => exact ⟨k + 1, by omega, by go_num, allL_good hlt HA.out (by omega)⟩
        case measure => simp [intOf]; omega
      · go_wp2
        go_round
        case rel => exact ⟨k + 1, by omega, by go_num, allL_good hlt HA.out (by omega)⟩
        case measure => simp [intOf]; omega
      · have e45 : (s[k].toNat : Int) = 45 := by omega
        have b45 : ((s[k].toNat : Int) != 45) = false := by rw [e45]; rfl
        have b46 : ((s[k].toNat : Int) == 45) = true := by rw [e45]; rfl
        have E45 := Lib.hid e45
        clear e45
        go_wp2
        go_round
        case rel => exact ⟨k + 1, by omega, by go_num, allL_good hlt HA.out (.inr (.inr (.inl E45.out)))⟩
        case measure => simp [intOf]; omega
      · have e95 : (s[k].toNat : Int) = 95 := by omega
        have b45 : ((s[k].toNat : Int) != 45) = true := by rw [bne_iff_ne]; omega
        have b95 : ((s[k].toNat : Int) != 95) = false := by rw [e95]; rfl
        have b96 : ((s[k].toNat : Int) == 95) = true := by rw [e95]; rfl
        have E95 := Lib.hid e95
        clear e95
        go_wp2
        go_round
        case rel => exact ⟨k + 1, by omega, by go_num, allL_good hlt HA.out (.inr (.inr (.inr E95.out)))⟩
        case measure => simp [intOf]; omega
      all_goals
        have b45 : ((s[k].toNat : Int) != 45) = true := by rw [bne_iff_ne]; omega
        have b95 : ((s[k].toNat : Int) != 95) = true := by rw [bne_iff_ne]; omega
        go_wp2
        go_ret
        exact ⟨by rw [allL_bad hlt (by omega)]; rfl, rfl⟩
    · obtain rfl : k = s.size := by omega
      go_wp2
      go_ret
      refine ⟨?_, rfl⟩
      rw [allL_end HA.out, ← neq_empty]
      rfl

set_option maxHeartbeats 1600000 in
theorem refName_any (s : ByteArray) (w : World) (hs : s.size ≤ maxLen) : Calls Tryd.prog 21 #[.string s] w (SamePost w (nameL s)) := by
  unfold maxLen at hs
  go_enter Tryd.func21, Tryd.ntmps21
  go_wp2
  go_loop [3] (fun i => ∃ k : Nat, k ≤ s.size ∧ i = .int .i64 k ∧ (s.data.toList.take k).all nameByteL = true) (fun i => s.size - (intOf i).toNat)
  case atStart => exact ⟨0, Nat.zero_le _, rfl, by simp⟩
  case round =>
    obtain ⟨k, hk, rfl, ha⟩ := hrel
    have HA := Lib.hid ha
    clear ha
    by_cases hlt : k < s.size
    · have h7 : ((97 : Int) ≤ (s[k].toNat : Int) ∧ (s[k].toNat : Int) ≤ 122) ∨ ((48 : Int) ≤ (s[k].toNat : Int) ∧ (s[k].toNat : Int) ≤ 57) ∨ ((45 : Int) ≤ (s[k].toNat : Int) ∧ (s[k].toNat : Int) ≤ 45) ∨ ((95 : Int) ≤ (s[k].toNat : Int) ∧ (s[k].toNat : Int) ≤ 95) ∨
          (s[k].toNat : Int) < 45 ∨ ((45 : Int) < (s[k].toNat : Int) ∧ (s[k].toNat : Int) < 48) ∨ ((57 : Int) < (s[k].toNat : Int) ∧ (s[k].toNat : Int) < 95) ∨ ((95 : Int) < (s[k].toNat : Int) ∧ (s[k].toNat : Int) < 97) ∨ (122 : Int) < (s[k].toNat : Int) := by omega
      rcases h7 with ⟨a1, a2⟩ | ⟨a1, a2⟩ | ⟨a1, a2⟩ | ⟨a1, a2⟩ | a1 | ⟨a1, a2⟩ | ⟨a1, a2⟩ | ⟨a1, a2⟩ | a1
      · go_wp2
        go_round
        case rel => exact ⟨k + 1, by omega, by go_num, allL_good hlt HA.out (by omega)⟩
        case measure => simp [intOf]; omega
      · go_wp2
        go_round
        case rel => exact ⟨k + 1, by omega, by go_num, allL_good hlt HA.out (by omega)⟩
        case measure => simp [intOf]; omega
      · have e45 : (s[k].toNat : Int) = 45 := by omega
        have b45 : ((s[k].toNat : Int) != 45) = false := by rw [e45]; rfl
        have b46 : ((s[k].toNat : Int) == 45) = true := by rw [e45]; rfl
        have E45 := Lib.hid e45
        clear e45
        go_wp2
        go_round
        case rel => exact ⟨k + 1, by omega, by go_num, allL_good hlt HA.out (.inr (.inr (.inl E45.out)))⟩
        case measure => simp [intOf]; omega
      · have e95 : (s[k].toNat : Int) = 95 := by omega
        have b45 : ((s[k].toNat : Int) != 45) = true := by rw [bne_iff_ne]; omega
        have b95 : ((s[k].toNat : Int) != 95) = false := by rw [e95]; rfl
        have b96 : ((s[k].toNat : Int) == 95) = true := by rw [e95]; rfl
        have E95 := Lib.hid e95
        clear e95
        go_wp2
        go_round
        case rel => exact ⟨k + 1, by omega, by go_num, allL_good hlt HA.out (.inr (.inr (.inr E95.out)))⟩
        case measure => simp [intOf]; omega
      all_goals
        have b45 : ((s[k].toNat : Int) != 45) = true := by rw [bne_iff_ne]; omega
        have b95 : ((s[k].toNat : Int) != 95) = true := by rw [bne_iff_ne]; omega
        go_wp2
        go_ret
        exact ⟨by rw [allL_bad hlt (by omega)]; rfl, rfl⟩
    · obtain rfl : k = s.size := by omega
      have HE := Lib.hid (allL_end HA.out)
      go_wp2
      go_ret
      refine ⟨?_, rfl⟩
      rw [HE.out]
      first | rfl | (congr 2; exact decide_eq_decide.2 (by omega)) | simp
end Go.Proofs.YtpkhoklahcgcoaaDoor
