/-
  Plain mathematics of valid UTF-8: the runes of a list of bytes, of a concatenation, of an encoded rune; ValidString's word and the reference's UTF8 agree. Conditions: as each theorem says.
-/
import Derived.Test.YtfjfgjncmliadaaDoorAlphOrder
import Derived.Test.YtfjfgjncmliadaaDoorAlphWord
import Derived.Lib.ValidLaws
namespace Go.Proofs.YtfjfgjncmliadaaDoor
open Go.RowKit
open AlphPlain
open Go.Lib (decodeL decodeN validD)

theorem decN_more (n n' b0 b1 b2 b3 c1 c2 c3 : Nat) (hn : n ≤ n') (h1 : 1 < n → c1 = b1) (h2 : 2 < n → c2 = b2) (h3 : 3 < n → c3 = b3)
    (hv : ¬ ((decodeN n b0 b1 b2 b3).1 = 65533 ∧ (decodeN n b0 b1 b2 b3).2 = 1)) : decodeN n' b0 c1 c2 c3 = decodeN n b0 b1 b2 b3 := by
  by_cases a : b0 < 128
  · simp [decodeN, a]
  by_cases k1 : 1 < n
  · obtain rfl := h1 k1
    have k1' : 1 < n' := by omega
    by_cases k2 : 2 < n
    · obtain rfl := h2 k2
      have k2' : 2 < n' := by omega
      by_cases k3 : 3 < n
      · obtain rfl := h3 k3
        have k3' : 3 < n' := by omega
        simp only [decodeN, k1, k1', k2, k2', k3, k3']
      · simp only [decodeN, a, k1, k1', k2, k2', k3, if_false, true_and, false_and, and_false] at hv ⊢
        by_cases p : b0 / 32 = 6 ∧ c1 / 64 = 2
        · simp only [p, and_self, if_true]
        · simp only [p, if_false] at hv ⊢
          by_cases q : b0 / 16 = 14 ∧ c1 / 64 = 2 ∧ c2 / 64 = 2
          · simp only [q, and_self, if_true]
          · simp [q] at hv
    · simp only [decodeN, a, k1, k1', k2, if_false, true_and, false_and, and_false] at hv ⊢
      by_cases p : b0 / 32 = 6 ∧ c1 / 64 = 2
      · simp only [p, and_self, if_true]
      · simp [p] at hv
  · simp [decodeN, a, k1] at hv

theorem dec_append (l m : List UInt8) (hv : ¬ ((decodeL l).1 = 65533 ∧ (decodeL l).2 = 1)) (hne : l ≠ []) : decodeL (l ++ m) = decodeL l := by
  rw [Lib.decodeL_N] at hv
  rw [Lib.decodeL_N, Lib.decodeL_N]
  have h0 : (l ++ m).getD 0 0 = l.getD 0 0 := by
    cases l with
    | nil => exact absurd rfl hne
    | cons a l => rfl
  rw [h0]
  refine decN_more _ _ _ _ _ _ _ _ _ (by simp) ?_ ?_ ?_ hv
  all_goals
    intro h
    rw [List.getD_eq_getElem?_getD, List.getElem?_append_left (by omega), ← List.getD_eq_getElem?_getD]

theorem validD_append : ∀ (n : Nat) (l m : List UInt8), l.length ≤ n → validD l = true → validD (l ++ m) = validD m
  | 0, l, m, h, _ => by rw [List.length_eq_zero_iff.1 (by omega : l.length = 0)]; rfl
  | n + 1, l, m, h, hv => by
    by_cases hne : l = []
    · subst hne; rfl
    · rw [Lib.validD_step l hne] at hv
      by_cases hb : (decodeL l).1 = 65533 ∧ (decodeL l).2 = 1
      · rw [if_pos hb] at hv; cases hv
      · rw [if_neg hb] at hv
        have hw := Lib.decodeL_width l
        have hl := Lib.decodeL_le l hne
        have hp : 0 < l.length := List.length_pos_iff.2 hne
        rw [Lib.validD_step (l ++ m) (by simp [hne]), dec_append l m hb hne, if_neg hb, List.drop_append_of_le_length hl]
        exact validD_append n _ m (by rw [List.length_drop]; omega) hv

/-- The runes of a list of bytes. -/
def rd : Nat → List UInt8 → List Int
  | 0, _ => []
  | n + 1, l => if l = [] then [] else ((decodeL l).1 : Int) :: rd n (l.drop (decodeL l).2)
def rdL (l : List UInt8) : List Int := rd l.length l

theorem rd_fuel : ∀ (n m : Nat) (l : List UInt8), l.length ≤ n → l.length ≤ m → rd n l = rd m l
  | 0, 0, l, _, _ => rfl
  | 0, m + 1, l, h, _ => by rw [List.length_eq_zero_iff.1 (by omega : l.length = 0)]; rfl
  | n + 1, 0, l, _, h => by rw [List.length_eq_zero_iff.1 (by omega : l.length = 0)]; rfl
  | n + 1, m + 1, l, hn, hm => by
    rw [rd, rd]
    by_cases hne : l = []
    · rw [if_pos hne, if_pos hne]
    · have hw := Lib.decodeL_width l
      have hp : 0 < l.length := List.length_pos_iff.2 hne
      rw [if_neg hne, if_neg hne, rd_fuel n m _ (by rw [List.length_drop]; omega) (by rw [List.length_drop]; omega)]
theorem rdL_nil : rdL [] = [] := rfl
theorem rdL_step (l : List UInt8) (hne : l ≠ []) : rdL l = ((decodeL l).1 : Int) :: rdL (l.drop (decodeL l).2) := by
  have hp : 0 < l.length := List.length_pos_iff.2 hne
  have hw := Lib.decodeL_width l
  obtain ⟨n, hn⟩ : ∃ n, l.length = n + 1 := ⟨l.length - 1, by omega⟩
  unfold rdL
  rw [hn, rd, if_neg hne, rd_fuel n (l.drop (decodeL l).2).length _ (by rw [List.length_drop]; omega) (Nat.le_refl _)]

theorem rdL_append : ∀ (n : Nat) (l m : List UInt8), l.length ≤ n → validD l = true → rdL (l ++ m) = rdL l ++ rdL m
  | 0, l, m, h, _ => by rw [List.length_eq_zero_iff.1 (by omega : l.length = 0)]; rfl
  | n + 1, l, m, h, hv => by
    by_cases hne : l = []
    · subst hne; rfl
    · rw [Lib.validD_step l hne] at hv
      by_cases hb : (decodeL l).1 = 65533 ∧ (decodeL l).2 = 1
      · rw [if_pos hb] at hv; cases hv
      · rw [if_neg hb] at hv
        have hw := Lib.decodeL_width l
        have hl := Lib.decodeL_le l hne
        have hp : 0 < l.length := List.length_pos_iff.2 hne
        rw [rdL_step (l ++ m) (by simp [hne]), rdL_step l hne, dec_append l m hb hne, List.drop_append_of_le_length hl,
          rdL_append n _ m (by rw [List.length_drop]; omega) hv, List.cons_append]

theorem drop_ne {s : ByteArray} {p : Nat} (h : p < s.size) : s.data.toList.drop p ≠ [] := by
  intro e
  have := congrArg List.length e
  simp [List.length_drop] at this
  have : s.data.size = s.size := rfl
  omega
theorem len_drop (s : ByteArray) (p : Nat) : (s.data.toList.drop p).length = s.size - p := by
  rw [List.length_drop, Array.length_toList]; rfl

theorem runesL_rd (s : ByteArray) : ∀ b p, s.size ≤ p + b → runesL s b p = rdL (s.data.toList.drop p)
  | 0, p, h => by rw [drop_end (by omega)]; rfl
  | b + 1, p, h => by
    rw [runesL]
    by_cases hp : p < s.size
    · have hw := width_pos s p hp
      rw [if_pos hp, rdL_step _ (drop_ne hp), Lib.decodeL_drop, runesL_rd s b _ (by omega), List.drop_drop]
    · rw [if_neg hp, drop_end hp]; rfl
theorem runesOf_rd (s : ByteArray) : runesOf s = rdL s.data.toList := by
  unfold runesOf
  rw [runesL_rd s _ 0 (by omega), List.drop_zero]

theorem count_rd (s : ByteArray) : ∀ b p, s.size ≤ p + b → Lib.runeCountFrom s b p = (rdL (s.data.toList.drop p)).length
  | 0, p, h => by rw [drop_end (by omega)]; rfl
  | b + 1, p, h => by
    rw [Lib.runeCountFrom]
    by_cases hp : p < s.size
    · have hw := width_pos s p hp
      rw [if_pos hp, rdL_step _ (drop_ne hp), Lib.decodeL_drop, count_rd s b _ (by omega), List.drop_drop, List.length_cons, Nat.add_comm]
    · rw [if_neg hp, drop_end hp]; rfl
theorem runeCount_rd (s : ByteArray) : Lib.runeCount s = (rdL s.data.toList).length := by
  unfold Lib.runeCount
  rw [count_rd s _ 0 (by omega), List.drop_zero]

theorem allAt_rd (ls : List Lt) (s : ByteArray) : ∀ b p, s.size ≤ p + b → allAt ls s b p = (rdL (s.data.toList.drop p)).all (AlphPlain.has ls)
  | 0, p, h => by rw [drop_end (by omega)]; rfl
  | b + 1, p, h => by
    rw [allAt]
    by_cases hp : p < s.size
    · have hw := width_pos s p hp
      rw [if_pos hp, rdL_step _ (drop_ne hp), Lib.decodeL_drop, allAt_rd ls s b _ (by omega), List.drop_drop, List.all_cons]
    · rw [if_neg hp, drop_end hp]; rfl

theorem okAt_bad {s : ByteArray} {p : Nat} (hp : p < s.size) : okAt s p = !decide ((Utf8.decode s p).1 = 65533 ∧ (Utf8.decode s p).2 = 1) := by
  by_cases e1 : (Utf8.decode s p).1 = 65533
  · by_cases e2 : (Utf8.decode s p).2 = 1
    · rw [decide_eq_true ⟨e1, e2⟩]
      cases h : okAt s p with
      | false => rfl
      | true =>
        have h3 := okAt_enc hp h
        rw [e1, e2] at h3
        have h4 := congrArg List.length h3
        rw [List.length_take] at h4
        have h5 : (Lib.encodeRune ((65533 : Nat) : Int)).length = 3 := by decide
        omega
    · rw [decide_eq_false (fun h => e2 h.2)]
      have h := Lib.encode_decode (s.data.toList.drop p) (drop_ne hp) (by rw [Lib.decodeL_drop]; exact fun h => e2 h.2)
      rw [Lib.decodeL_drop, e1] at h
      have h5 : Lib.encodeRune ((65533 : Nat) : Int) = [239, 191, 189] := by decide
      rw [h5] at h
      have hlen := congrArg List.length h
      rw [len_take hp] at hlen
      have hw : (Utf8.decode s p).2 = 3 := by simpa using hlen.symm
      have hf := decode_fits s p hp
      rw [hw] at h
      unfold okAt
      rw [if_pos e1, decide_eq_true (by omega : p + 3 ≤ s.size)]
      have hx : s.extract p (p + 3) = ⟨#[239, 191, 189]⟩ := by
        refine WideShapes.bytes_inj ?_
        simp only [ByteArray.data_extract, Array.toList_extract, List.extract_eq_take_drop]
        rw [show p + 3 - p = 3 by omega, ← h]
      rw [decide_eq_true hx]; rfl
  · rw [decide_eq_false (fun h => e1 h.1)]
    unfold okAt
    rw [if_neg e1]; rfl

theorem utf_valid (s : ByteArray) : ∀ b p, s.size ≤ p + b → utfAt s b p = validD (s.data.toList.drop p)
  | 0, p, h => by rw [drop_end (by omega)]; rfl
  | b + 1, p, h => by
    rw [utfAt]
    by_cases hp : p < s.size
    · have hw := width_pos s p hp
      rw [if_pos hp, Lib.validD_step _ (drop_ne hp), Lib.decodeL_drop, okAt_bad hp, utf_valid s b _ (by omega), List.drop_drop]
      by_cases hb : (Utf8.decode s p).1 = 65533 ∧ (Utf8.decode s p).2 = 1
      · rw [if_pos hb, decide_eq_true hb]; rfl
      · rw [if_neg hb, decide_eq_false hb]; rfl
    · rw [if_neg hp, drop_end hp]; rfl
theorem utfB_valid (s : ByteArray) : utfB s = validD s.data.toList := by
  unfold utfB
  rw [utf_valid s _ 0 (by omega), List.drop_zero]

/-- Is s a word over ls? -/
def wordB (ls : List Lt) (s : ByteArray) : Bool := validD s.data.toList && decide ((rdL s.data.toList).length ≤ 40) && (rdL s.data.toList).all (AlphPlain.has ls)
theorem wordB_eq (ls : List Lt) (s : ByteArray) : isWordB ls s (validD s.data.toList) = wordB ls s := by
  unfold isWordB wordB
  rw [runeCount_rd, allAt_rd ls s _ 0 (by omega), List.drop_zero]

theorem toList_app (s t : ByteArray) : (s ++ t).data.toList = s.data.toList ++ t.data.toList := by
  rw [ByteArray.data_append, Array.toList_append]

/-- Two strings of valid UTF-8 together are a word exactly if both are, and they have at most 40 runes. -/
theorem wordB_joins (ls : List Lt) (s t : ByteArray) (hs : validD s.data.toList = true) (ht : validD t.data.toList = true) :
    wordB ls (s ++ t) = (wordB ls s && wordB ls t && decide ((runesOf s).length + (runesOf t).length ≤ 40)) := by
  unfold wordB
  rw [toList_app, validD_append _ _ _ (Nat.le_refl _) hs, rdL_append _ _ _ (Nat.le_refl _) hs, runesOf_rd, runesOf_rd, hs, ht, List.length_append, List.all_append]
  generalize (rdL s.data.toList).all (AlphPlain.has ls) = a
  generalize (rdL t.data.toList).all (AlphPlain.has ls) = b
  generalize (rdL s.data.toList).length = n
  generalize (rdL t.data.toList).length = m
  by_cases h : n + m ≤ 40
  · have h1 : n ≤ 40 := by omega
    have h2 : m ≤ 40 := by omega
    simp [h, h1, h2]
  · simp [h]
end Go.Proofs.YtfjfgjncmliadaaDoor
