/-
  slices.Sort and slices.Compact of a slice of strings in a block of its own. Condition: fewer than 2^40 strings.
-/
import Derived.Test.YtdehghmpfkhljaaDoorShelfL
import Derived.Test.YtdehghmpfkhljaaDoorNumVocP
import Derived.Test.YtdehghmpfkhljaaDoorNumSort
import Derived.Sort.OwnSorted
namespace Go.Proofs.YtdehghmpfkhljaaDoor.Voc
open Go.RowKit Go.Sort
open NumPlain

theorem strings_bytes (l : List ByteArray) : stringsL (bytesL l) = l := by
  unfold stringsL bytesL
  rw [List.map_map]
  conv => rhs; rw [← List.map_id l]
  exact List.map_congr_left fun x _ => rfl
theorem bytes_enc (l : List ByteArray) : (bytesL l).map encStr = l.map Value.string := by
  unfold bytesL
  rw [List.map_map]
  exact List.map_congr_left fun x _ => rfl
theorem enc_strings (l : List (List UInt8)) : l.map encStr = (stringsL l).map Value.string := by
  unfold stringsL
  rw [List.map_map]
  exact List.map_congr_left fun x _ => rfl
theorem sortS_any (v : Value) (out : List ByteArray) (base : Nat) (w : World) (h : w.ownsRow base 9 1 v out.length (out.map Value.string)) (hsz : out.length ≤ 1099511627776) :
    Calls Tryd.prog 43 #[v] w (fun e w' => e = .returned (.tuple #[]) ∧ w'.ownsRow base 9 1 v out.length ((sortedS out).map Value.string) ∧ w.grownBy w' v.ownBlock) := by
  by_cases h0 : out.length = 0
  · have he : out = [] := List.length_eq_zero_iff.1 h0
    subst he
    rcases h.2 with ⟨rfl, _⟩ | ⟨g, cap, cur, rfl, _⟩
    · exact (Tryd.slices_Sort_string_none none 0 w).mono fun e w' ⟨h1, h2⟩ => ⟨h1, by rw [h2, sortedS_nil]; exact h, by rw [h2]; exact World.grownBy.refl _ _⟩
    · exact (Tryd.slices_Sort_string_none _ cap w).mono fun e w' ⟨h1, h2⟩ => ⟨h1, by rw [h2, sortedS_nil]; exact h, by rw [h2]; exact World.grownBy.refl _ _⟩
  · rcases h.2 with ⟨_, hn⟩ | ⟨g, cap, cur, rfl, hb, hg, h1, h2, h3, h4⟩
    · exact absurd hn h0
    · have hH : Holds encStr w g 0 (bytesL out).toArray := holds_of_block hg (by rw [bytes_enc]; simpa [bytesL] using h4)
      have hl : (bytesL out).length = out.length := by simp [bytesL]
      have hs := Tryd.slices_Sort_string g 0 cap (bytesL out) w hH (Array.getElem?_eq_some_iff.1 hg).1 (by rw [hl]; omega)
      rw [hl] at hs
      refine hs.mono fun e w' ⟨e1, n, os, e2⟩ => ⟨e1, ?_, ?_⟩
      · rw [e2]
        have := ownsRow_sorted (n := n) (os := os) (ss := bytesL out) (ts := (bytesL out).mergeSort fun x y => decide (x ≤ y)) (List.length_mergeSort _) hb hg (by rw [hl]; exact h1) h2 h3
        rw [hl, enc_strings] at this
        exact this
      · rw [e2]
        exact grownBy_sorted _

theorem compactS_any (v : Value) (out : List ByteArray) (base : Nat) (w : World) (h : w.ownsRow base 9 1 v out.length (out.map Value.string)) (hsz : out.length ≤ 1099511627776) :
    Calls Tryd.prog 44 #[v] w (fun e w' => (∃ A k c, e = .returned (.slice A k c) ∧ Rw sV w' A k c (compactS out)) ∧ w.grownBy w' v.ownBlock) := by
  by_cases h0 : out.length = 0
  · have he : out = [] := List.length_eq_zero_iff.1 h0
    subst he
    rcases h.2 with ⟨rfl, _⟩ | ⟨g, cap, cur, rfl, _, _, _, h2, _⟩
    · exact (Tryd.slices_Compact_string_empty none 0 w).mono fun e w' ⟨h1, h2⟩ => ⟨⟨_, _, _, h1, ⟨rfl, Nat.le_refl _, by omega, fun _ => rfl, fun i u h => by simp [compactS, stringsL, bytesL, Lib.compact, Lib.compactUpTo] at h⟩⟩, by rw [h2]; exact World.grownBy.refl _ _⟩
    · exact (Tryd.slices_Compact_string_empty _ cap w).mono fun e w' ⟨h1, h2'⟩ => ⟨⟨_, _, _, h1, ⟨rfl, Nat.zero_le _, by unfold maxLen at h2; omega, fun e => (by cases e), fun i u h => by simp [compactS, stringsL, bytesL, Lib.compact, Lib.compactUpTo] at h⟩⟩, by rw [h2']; exact World.grownBy.refl _ _⟩
  · rcases h.2 with ⟨_, hn⟩ | ⟨g, cap, cur, rfl, hb, hg, h1, h2, h3, h4⟩
    · exact absurd hn h0
    · have hH : Holds encStr w g 0 (bytesL out).toArray := holds_of_block hg (by rw [bytes_enc]; simpa [bytesL] using h4)
      have hl : (bytesL out).length = out.length := by simp [bytesL]
      have hs := Tryd.slices_Compact_string g 0 cap (bytesL out) w hH (by rw [hl]; omega) (by rw [hl]; exact h1)
      rw [hl] at hs
      have hcl : (Lib.compact (bytesL out)).length ≤ out.length := by
        rw [← hl]
        unfold Lib.compact Lib.compactUpTo
        rw [List.length_map]
        exact Nat.le_trans (List.length_filter_le _ _) (by simp)
      refine hs.mono fun e w' ⟨e1, q, e2⟩ => ⟨⟨_, _, _, e1, ?_⟩, ?_⟩
      · have hr := ownsRow_sorted (n := q) (os := #[]) (ss := bytesL out) (ts := Lib.compact (bytesL out) ++ List.replicate (out.length - (Lib.compact (bytesL out)).length) []) (by rw [List.length_append, List.length_replicate, hl]; omega) hb hg (by rw [hl]; exact h1) h2 h3
        rw [grow_none, hl] at hr
        rw [← e2] at hr
        refine ⟨by simp [compactS, stringsL], by omega, by unfold maxLen at h2; omega, fun e => (by cases e), fun i s hi => ⟨g, 0, rfl, ?_⟩⟩
        have hi' : i < (Lib.compact (bytesL out)).length := by
          have := (List.getElem?_eq_some_iff.1 hi).1
          simpa [compactS, stringsL] using this
        rw [Nat.zero_add, hr.cellAt _ (by omega), List.map_append, List.getElem?_append_left (by simpa using hi'), enc_strings, List.getElem?_map]
        show Option.map Value.string (compactS out)[i]? = _
        rw [hi]; rfl
      · rw [e2, ← grow_none (putRow _ _ _ _ _)]
        exact grownBy_sorted _
end Go.Proofs.YtdehghmpfkhljaaDoor.Voc
