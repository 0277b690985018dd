/-
  Plain mathematics: the hyphenated word without hyphens is the word without hyphens. Conditions: as each theorem says.
-/
import Derived.Test.YtfjfgjncmliadaaDoorSylRejoin
import Derived.Test.YtfjfgjncmliadaaDoorSylRefH
namespace Go.Proofs.YtfjfgjncmliadaaDoor
open Go.RowKit
open AlphPlain

theorem noHy_hypL (s : ByteArray) (zs : List Int) : ∀ (b p i : Nat), s.size ≤ p + b → utfAt s b p = true → noHy (hypL zs (runesL s b p) i) = noHy (s.data.toList.drop p)
  | 0, p, i, hb, _ => by
    rw [drop_end (by omega)]
    rfl
  | b + 1, p, i, hb, hu => by
    by_cases hp : p < s.size
    · rw [utfAt, if_pos hp, Bool.and_eq_true] at hu
      have w1 := width_pos s p hp
      have ih := noHy_hypL s zs b (p + (Utf8.decode s p).2) (i + 1) (by omega) hu.2
      have h0 : noHy (if decide (0 < i) && inI zs (i : Int) then [45] else []) = [] := by split <;> rfl
      rw [runesL, if_pos hp, hypL, noHy_app, noHy_app, h0, List.nil_append, okAt_enc hp hu.1, ih, ← noHy_app, ← List.drop_drop, List.take_append_drop]
    · rw [runesL_end hp, drop_end hp]
      rfl
theorem noHy_hyph (s : ByteArray) (zs : List Int) : noHyB (hyphB s zs) = noHyB s := by
  unfold hyphB
  split
  · rename_i h
    have hu : utfB s = true := by rw [utfB_valid]; exact h
    have := noHy_hypL s zs s.size 0 0 (by omega) hu
    unfold noHyB
    show (⟨(noHy (hypL zs (runesL s s.size 0) 0)).toArray⟩ : ByteArray) = _
    rw [this, List.drop_zero]
  · rfl
theorem hyphB_size (s : ByteArray) (zs : List Int) (hs : s.size ≤ 200) : (hyphB s zs).size ≤ 2000 := by
  unfold hyphB
  split
  · have h1 := hypL_len zs (runesOf s) 0
    have h2 : (runesOf s).length ≤ 200 := by have := size_runesFrom s s.size 0 #[]; rw [runes_size] at this; simp at this; omega
    show ((hypL zs (runesOf s) 0).toArray).size ≤ 2000
    rw [List.size_toArray]
    omega
  · omega
end Go.Proofs.YtfjfgjncmliadaaDoor
