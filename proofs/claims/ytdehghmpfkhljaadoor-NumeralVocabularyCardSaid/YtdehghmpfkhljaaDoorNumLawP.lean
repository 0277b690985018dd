/-
  power, and appends to a row of strings in the laws. Conditions: as each theorem says.
-/
import Derived.Test.YtdehghmpfkhljaaDoorNumLawC
import Derived.Test.YtdehghmpfkhljaaDoorNumJoin
namespace Go.Proofs.YtdehghmpfkhljaaDoor
open Go.RowKit
open NumPlain

theorem words_short0 (x : Nm) (n : Nat) : (wordsB x n).length ≤ 10 := W_len x 3 n
set_option maxRecDepth 100000 in
set_option maxHeartbeats 1600000 in
theorem power_any (b n i P : Nat) (w : World) (hb : b = 10 ∨ b = 20) (hi : i ≤ 2) (hP : b ^ (i + 1) = P) (h1 : P ≤ n) (h2 : i = 2 ∨ n < b ^ (i + 1 + 1)) :
    Calls Tryd.prog 27 #[.int .i64 (b : Int), .int .i64 (n : Int)] w (fun e w' => e = .returned (.int .i64 (P : Int)) ∧ w = w') := by
  have HB := Lib.hid hb
  have HNX := Lib.hid (show ∀ j PP : Nat, j ≤ i → PP = b ^ (j + 1) → ∃ P2 : Nat, P2 = b ^ (j + 1 + 1) ∧ (PP : Int) * (b : Int) = (P2 : Int) ∧ PP ≤ 8000 ∧ P2 ≤ 160000 ∧ (j < i → (P2 : Int) ≤ (n : Int)) ∧ (j = i → j = 2 ∨ ¬ (P2 : Int) ≤ (n : Int)) by
    intro j PP hj hPP
    have hb8 := (pow_bounds hb (show j + 1 ≤ 3 by omega)).2
    have hm : PP * b = b ^ (j + 1 + 1) := by rw [hPP, ← Nat.pow_succ]
    refine ⟨b ^ (j + 1 + 1), rfl, by rw [← hm]; simp, by omega, ?_, fun hlt => ?_, fun e => ?_⟩
    · rw [← hm]; have := Nat.mul_le_mul (show PP ≤ 8000 by omega) (show b ≤ 20 by omega); omega
    · have := pow_le hb (show j + 1 + 1 ≤ i + 1 by omega); omega
    · subst e; omega)
  have HPI := Lib.hid hP
  have hb20 : b ≤ 20 := by omega
  clear hb hP h2
  go_enter Tryd.func27, Tryd.ntmps27
  go_wp2
  go_loopw [5, 6] (fun p k wr => ∃ j PP : Nat, j ≤ i ∧ k = .int .i64 (j : Nat) ∧ p = .int .i64 (PP : Nat) ∧ PP = b ^ (j + 1) ∧ w = wr) (fun _ k _ => i - (intOf k).toNat)
  case atStart => exact ⟨0, b, Nat.zero_le _, rfl, rfl, by simp, rfl⟩
  case round =>
    obtain ⟨j, PP, hj, rfl, rfl, hPP, rfl⟩ := hrel
    obtain ⟨P2, hP2, hmul, hl8, hl16, hlt1, hlt2⟩ := HNX.out j PP hj hPP
    have H2 := Lib.hid hP2
    have HPP := Lib.hid hPP
    have HLT1 := Lib.hid hlt1
    have HLT2 := Lib.hid hlt2
    clear hP2 hPP hlt1 hlt2
    by_cases hji : j < i
    · have hle := HLT1.out hji
      have hj2 : (j : Int) < 2 := by omega
      go_wp2
      go_roundw
      case rel => exact ⟨j + 1, P2, by omega, by go_num, by first | rfl | go_num, H2.out, trivial⟩
      case measure => simp [intOf]; omega
    · obtain rfl : j = i := by omega
      have HPE := Lib.hid (show PP = P by rw [HPP.out]; exact HPI.out)
      by_cases hj2 : (j : Int) < 2
      · have hle : ¬ (P2 : Int) ≤ (n : Int) := by have h := HLT2.out rfl; omega
        go_wp2
        go_ret
        exact ⟨by rw [← HPE.out]; rfl, rfl⟩
      · go_wp2
        go_ret
        exact ⟨by rw [← HPE.out]; rfl, rfl⟩
end Go.Proofs.YtdehghmpfkhljaaDoor
