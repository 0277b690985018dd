/-
  Plain mathematics of the reference's Token: for valid UTF-8 some rune is at most 32 exactly if some byte is. No conditions.
-/
import Derived.Test.YtdehghmpfkhljaaDoorNumPlain
import Derived.Lib.ValidLaws
namespace Go.Proofs.YtdehghmpfkhljaaDoor.NumPlain
open Go Go.Lib

/-- Is some byte at most 32? -/
def lowB (l : List UInt8) : Bool := l.any (fun b => decide (b.toNat ≤ 32))
/-- A token, as the specification says. -/
def tokR (s : BA) : Bool := !lowB s.data.toList && neB s && validD s.data.toList

theorem decodeN_low (n b0 b1 b2 b3 : Nat) (h : ¬ ((decodeN n b0 b1 b2 b3).1 = 65533 ∧ (decodeN n b0 b1 b2 b3).2 = 1)) (h0 : 128 ≤ b0) :
    32 < (decodeN n b0 b1 b2 b3).1 ∧ (decodeN n b0 b1 b2 b3).2 ≤ n ∧ 1 ≤ (decodeN n b0 b1 b2 b3).2 ∧ (decodeN n b0 b1 b2 b3).2 ≤ 4 ∧ (1 < (decodeN n b0 b1 b2 b3).2 → 32 < b1) ∧ (2 < (decodeN n b0 b1 b2 b3).2 → 32 < b2) ∧ (3 < (decodeN n b0 b1 b2 b3).2 → 32 < b3) := by
  unfold decodeN at *
  repeat' split at h
  all_goals simp_all
  all_goals first | omega | (simp only [if_neg (show ¬ b0 < 128 by omega)]; omega)
theorem decodeL_low (l : List UInt8) (hne : l ≠ []) (h : ¬ ((decodeL l).1 = 65533 ∧ (decodeL l).2 = 1)) :
    decide ((decodeL l).1 ≤ 32) = lowB (l.take (decodeL l).2) ∧ 1 ≤ (decodeL l).2 := by
  cases l with
  | nil => exact absurd rfl hne
  | cons b t =>
    by_cases hb : b.toNat < 128
    · rw [decodeL_ascii b t hb]
      exact ⟨by simp [lowB], Nat.le_refl _⟩
    · rw [decodeL_N] at h ⊢
      obtain ⟨h1, h2, h3, h4, h5, h6, h7⟩ := decodeN_low _ _ _ _ _ h (by simpa using Nat.not_lt.1 hb)
      refine ⟨?_, h3⟩
      rw [decide_eq_false (by omega)]
      generalize (decodeN (b :: t).length ((b :: t).getD 0 0).toNat ((b :: t).getD 1 0).toNat ((b :: t).getD 2 0).toNat ((b :: t).getD 3 0).toNat).2 = k at *
      symm
      unfold lowB
      rw [List.any_eq_false]
      intro c hc
      rw [decide_eq_true_eq]
      obtain ⟨i, hi, rfl⟩ := List.getElem_of_mem hc
      rw [List.getElem_take]
      rw [List.length_take] at hi
      have e : ∀ j (hj : j < (b :: t).length), (b :: t)[j] = (b :: t).getD j 0 := fun j hj => by rw [List.getD_eq_getElem?_getD, List.getElem?_eq_getElem hj]; rfl
      rw [e]
      have : i = 0 ∨ i = 1 ∨ i = 2 ∨ i = 3 := by omega
      rcases this with rfl | rfl | rfl | rfl
      · simp; omega
      · have := h5 (by omega); omega
      · have := h6 (by omega); omega
      · have := h7 (by omega); omega
theorem lowB_split (l : List UInt8) (k : Nat) : lowB l = (lowB (l.take k) || lowB (l.drop k)) := by
  unfold lowB
  rw [← List.any_append, List.take_append_drop]
theorem idx_low (s : ByteArray) : ∀ (f pos : Nat), s.size ≤ pos + f → validD (s.data.toList.drop pos) = true →
    decide (0 ≤ idxFuncFrom (fun r => decide (r ≤ 32)) true s f pos) = lowB (s.data.toList.drop pos)
  | 0, pos, hf, _ => by
    have : s.data.toList.drop pos = [] := List.drop_eq_nil_of_le (by rw [← size_eq]; omega)
    rw [this]; rfl
  | f + 1, pos, hf, hv => by
    unfold idxFuncFrom
    by_cases hp : pos < s.size
    · rw [if_pos hp]
      have hne : s.data.toList.drop pos ≠ [] := by
        intro h0
        have := congrArg List.length h0
        rw [List.length_drop, ← size_eq] at this
        simp at this
        omega
      rw [validD_step _ hne] at hv
      have hbad : ¬ ((decodeL (s.data.toList.drop pos)).1 = 65533 ∧ (decodeL (s.data.toList.drop pos)).2 = 1) := by
        intro h; rw [if_pos h] at hv; cases hv
      rw [if_neg hbad] at hv
      obtain ⟨h1, h2⟩ := decodeL_low _ hne hbad
      rw [List.drop_drop] at hv
      rw [lowB_split _ (decodeL (s.data.toList.drop pos)).2, List.drop_drop, ← h1]
      rw [decodeL_drop] at hv h2 ⊢
      by_cases hr : (Utf8.decode s pos).1 ≤ 32
      · rw [if_pos (by simpa using hr)]
        simp [hr]
      · rw [if_neg (by simpa using hr), decide_eq_false hr, Bool.false_or]
        exact idx_low s f _ (by omega) hv
    · rw [if_neg hp]
      have : s.data.toList.drop pos = [] := List.drop_eq_nil_of_le (by rw [← size_eq]; omega)
      rw [this]; rfl
theorem tokR_eq (s : BA) : tokR s = tokB s := by
  unfold tokR tokB
  cases hv : validD s.data.toList
  · simp
  · have h := idx_low s s.size 0 (by omega) (by rw [List.drop_zero]; exact hv)
    rw [List.drop_zero] at h
    unfold idxFunc
    rw [h]
    cases lowB s.data.toList <;> cases neB s <;> rfl
end Go.Proofs.YtdehghmpfkhljaaDoor.NumPlain
