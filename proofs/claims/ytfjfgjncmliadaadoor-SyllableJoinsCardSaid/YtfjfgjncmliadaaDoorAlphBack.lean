/-
  Plain mathematics: the runes of an encoded rune. Conditions: as each theorem says.
-/
import Derived.Test.YtfjfgjncmliadaaDoorAlphIsWord
namespace Go.Proofs.YtfjfgjncmliadaaDoor
open Go.RowKit
open AlphPlain
open Go.Lib (decodeL decodeN validD)

theorem u8_nat (n : Nat) (h : n < 256) : (UInt8.ofNat n).toNat = n := by
  rw [UInt8.toNat_ofNat']; omega

theorem dec_enc (c : Nat) (hc : c < 55296 ∨ (57344 ≤ c ∧ c ≤ 1114111)) : decodeL (Utf8.encode (c : Int)).data.toList = (c, (Utf8.encode (c : Int)).data.toList.length) := by
  have hv : Utf8.valid (c : Int) = true := by
    unfold Utf8.valid
    rcases hc with h | ⟨h, k⟩
    · rw [decide_eq_true (by omega : (0 : Int) ≤ c), decide_eq_true (by omega : (c : Int) < 55296)]; rfl
    · rw [decide_eq_true (by omega : (57344 : Int) ≤ c), decide_eq_true (by omega : (c : Int) ≤ 1114111)]; simp
  unfold Utf8.encode
  simp only [hv, if_true, Int.toNat_natCast]
  by_cases h1 : c < 128
  · rw [if_pos h1]
    show decodeL [UInt8.ofNat c] = (c, 1)
    rw [Lib.decodeL_N]
    show decodeN 1 (UInt8.ofNat c).toNat (0 : UInt8).toNat (0 : UInt8).toNat (0 : UInt8).toNat = _
    rw [u8_nat c (by omega)]
    unfold decodeN
    rw [if_pos h1]
  rw [if_neg h1]
  by_cases h2 : c < 2048
  · rw [if_pos h2]
    show decodeL [UInt8.ofNat (192 + c / 64), UInt8.ofNat (128 + c % 64)] = (c, 2)
    rw [Lib.decodeL_N]
    show decodeN 2 (UInt8.ofNat (192 + c / 64)).toNat (UInt8.ofNat (128 + c % 64)).toNat (0 : UInt8).toNat (0 : UInt8).toNat = _
    rw [u8_nat _ (by omega), u8_nat _ (by omega)]
    unfold decodeN
    rw [if_neg (by omega), if_pos (by omega), if_pos (by omega)]
    simp only [Prod.mk.injEq, and_true]
    omega
  rw [if_neg h2]
  by_cases h3 : c < 65536
  · rw [if_pos h3]
    show decodeL [UInt8.ofNat (224 + c / 4096), UInt8.ofNat (128 + c / 64 % 64), UInt8.ofNat (128 + c % 64)] = (c, 3)
    rw [Lib.decodeL_N]
    show decodeN 3 (UInt8.ofNat (224 + c / 4096)).toNat (UInt8.ofNat (128 + c / 64 % 64)).toNat (UInt8.ofNat (128 + c % 64)).toNat (0 : UInt8).toNat = _
    rw [u8_nat _ (by omega), u8_nat _ (by omega), u8_nat _ (by omega)]
    unfold decodeN
    rw [if_neg (by omega), if_neg (by omega), if_pos (by omega), if_pos (by omega)]
    simp only [Prod.mk.injEq, and_true]
    omega
  · rw [if_neg h3]
    show decodeL [UInt8.ofNat (240 + c / 262144), UInt8.ofNat (128 + c / 4096 % 64), UInt8.ofNat (128 + c / 64 % 64), UInt8.ofNat (128 + c % 64)] = (c, 4)
    rw [Lib.decodeL_N]
    show decodeN 4 (UInt8.ofNat (240 + c / 262144)).toNat (UInt8.ofNat (128 + c / 4096 % 64)).toNat (UInt8.ofNat (128 + c / 64 % 64)).toNat (UInt8.ofNat (128 + c % 64)).toNat = _
    rw [u8_nat _ (by omega), u8_nat _ (by omega), u8_nat _ (by omega), u8_nat _ (by omega)]
    unfold decodeN
    rw [if_neg (by omega), if_neg (by omega), if_neg (by omega), if_pos (by omega), if_pos (by omega)]
    simp only [Prod.mk.injEq, and_true]
    omega

theorem enc_ne (r : Int) : (Utf8.encode r).data.toList ≠ [] := by
  unfold Utf8.encode
  dsimp only
  generalize (if Utf8.valid r = true then r.toNat else Utf8.runeError) = c
  by_cases h1 : c < 128
  · rw [if_pos h1]; simp
  · rw [if_neg h1]
    by_cases h2 : c < 2048
    · rw [if_pos h2]; simp
    · rw [if_neg h2]
      by_cases h3 : c < 65536
      · rw [if_pos h3]; simp
      · rw [if_neg h3]; simp

theorem good_nat {r : Int} (h : goodB r = true) : ∃ c : Nat, r = c ∧ (c < 55296 ∨ (57344 ≤ c ∧ c ≤ 1114111)) := by
  unfold goodB okRune at h
  simp only [Bool.and_eq_true, Bool.or_eq_true, decide_eq_true_eq] at h
  exact ⟨r.toNat, by omega, by omega⟩

theorem enc_rd {r : Int} (h : goodB r = true) : validD (Utf8.encode r).data.toList = true ∧ rdL (Utf8.encode r).data.toList = [r] := by
  obtain ⟨c, rfl, hc⟩ := good_nat h
  have hd := dec_enc c hc
  have hne := enc_ne (c : Int)
  have hlen : ¬ (c = 65533 ∧ (Utf8.encode (c : Int)).data.toList.length = 1) := by
    rintro ⟨rfl, h⟩
    exact absurd h (by decide)
  generalize (Utf8.encode (c : Int)).data.toList = l at *
  constructor
  · rw [Lib.validD_step l hne, hd, if_neg hlen, List.drop_length]; rfl
  · rw [rdL_step l hne, hd, List.drop_length]; rfl

theorem rd_snoc {s : ByteArray} {r : Int} (hs : validD s.data.toList = true) (h : goodB r = true) :
    validD (s ++ Utf8.encode r).data.toList = true ∧ rdL (s ++ Utf8.encode r).data.toList = rdL s.data.toList ++ [r] := by
  rw [toList_app, validD_append _ _ _ (Nat.le_refl _) hs, rdL_append _ _ _ (Nat.le_refl _) hs, (enc_rd h).2]
  exact ⟨(enc_rd h).1, rfl⟩

end Go.Proofs.YtfjfgjncmliadaaDoor
