/-
  slices.Sort and slices.Compact of a row of numbers of the call's own. Condition: fewer than 2^40 numbers.
-/
import Derived.Test.YtdehghmpfkhljaaDoorShelf
import Derived.Test.YtdehghmpfkhljaaDoorNumKeep
import Derived.Sort.OwnSortedInts
import Derived.Lib.SlicesCompact
namespace Go.Proofs.YtdehghmpfkhljaaDoor
open Go.RowKit Go.Sort
open NumPlain

theorem grow_none (w : World) : grow w #[] = w := by cases w; simp [grow]
/-- The numbers in ascending order. -/
def sortedI (l : List Int) : List Int := l.mergeSort fun x y => decide (x ≤ y)
theorem sortedI_nil : sortedI [] = [] := by simp [sortedI]
theorem sortedI_len (l : List Int) : (sortedI l).length = l.length := List.length_mergeSort _

theorem sortI_any (v : Value) (out : List Int) (base : Nat) (w : World) (h : w.ownsRow base 3 1 v out.length (out.map vI)) (hsz : out.length ≤ 1099511627776) :
    Calls Tryd.prog 61 #[v] w (fun e w' => e = .returned (.tuple #[]) ∧ w'.ownsRow base 3 1 v out.length ((sortedI out).map vI) ∧ w.grownBy w' v.ownBlock) := by
  by_cases h0 : out.length = 0
  · have he : out = [] := List.length_eq_zero_iff.1 h0
    subst he
    rcases h.2 with ⟨rfl, _⟩ | ⟨g, cap, cur, rfl, _⟩
    · exact (Tryd.slices_Sort_int_none none 0 w).mono fun e w' ⟨h1, h2⟩ => ⟨h1, by rw [h2, sortedI_nil]; exact h, by rw [h2]; exact World.grownBy.refl _ _⟩
    · exact (Tryd.slices_Sort_int_none _ cap w).mono fun e w' ⟨h1, h2⟩ => ⟨h1, by rw [h2, sortedI_nil]; exact h, by rw [h2]; exact World.grownBy.refl _ _⟩
  · rcases h.2 with ⟨_, hn⟩ | ⟨g, cap, cur, rfl, hb, hg, h1, h2, h3, h4⟩
    · exact absurd hn h0
    · have hH : Holds (Value.int .i64) w g 0 out.toArray := holds_of_blockI hg (by simpa using h4)
      have hs := Tryd.slices_Sort_int g 0 cap out w hH (Array.getElem?_eq_some_iff.1 hg).1 (by omega)
      refine hs.mono fun e w' ⟨e1, n, os, e2⟩ => ⟨e1, ?_, ?_⟩
      · rw [e2]
        exact ownsRow_sortedI (n := n) (os := os) (ss := out) (ts := sortedI out) (sortedI_len _) hb hg h1 h2 h3
      · rw [e2]
        exact grownBy_sortedI _

theorem compactI_any (v : Value) (out : List Int) (base : Nat) (w : World) (h : w.ownsRow base 3 1 v out.length (out.map vI)) (hsz : out.length ≤ 1099511627776) :
    Calls Tryd.prog 62 #[v] w (fun e w' => (∃ A k c, e = .returned (.slice A k c) ∧ Rw vI w' A k c (Lib.compact out) ∧ ∀ b o m, A = some ⟨b, o, m⟩ → base ≤ b) ∧ w.grownBy w' v.ownBlock) := by
  by_cases h0 : out.length = 0
  · have he : out = [] := List.length_eq_zero_iff.1 h0
    subst he
    rcases h.2 with ⟨rfl, _⟩ | ⟨g, cap, cur, rfl, hb, _, _, h2, _⟩
    · exact (Tryd.slices_Compact_int_empty none 0 w).mono fun e w' ⟨h1, h2⟩ => ⟨⟨_, _, _, h1, ⟨rfl, Nat.le_refl _, by omega, fun _ => rfl, fun i u h => by simp [Lib.compact, Lib.compactUpTo] at h⟩, fun b o m e => (by cases e)⟩, by rw [h2]; exact World.grownBy.refl _ _⟩
    · exact (Tryd.slices_Compact_int_empty _ cap w).mono fun e w' ⟨h1, h2'⟩ => ⟨⟨_, _, _, h1, ⟨rfl, Nat.zero_le _, by unfold maxLen at h2; omega, fun e => (by cases e), fun i u h => by simp [Lib.compact, Lib.compactUpTo] at h⟩, fun b o m e => (by cases e; exact hb)⟩, by rw [h2']; exact World.grownBy.refl _ _⟩
  · rcases h.2 with ⟨_, hn⟩ | ⟨g, cap, cur, rfl, hb, hg, h1, h2, h3, h4⟩
    · exact absurd hn h0
    · have hH : Holds (Value.int .i64) w g 0 out.toArray := holds_of_blockI hg (by simpa using h4)
      have hs := Tryd.slices_Compact_int g 0 cap out w hH (by omega) h1
      have hcl : (Lib.compact out).length ≤ out.length := by
        unfold Lib.compact Lib.compactUpTo
        rw [List.length_map]
        exact Nat.le_trans (List.length_filter_le _ _) (by simp)
      refine hs.mono fun e w' ⟨e1, q, e2⟩ => ⟨⟨_, _, _, e1, ?_, fun b o m e => (by cases e; exact hb)⟩, ?_⟩
      · have hr := ownsRow_sortedI (n := q) (os := #[]) (ss := out) (ts := Lib.compact out ++ List.replicate (out.length - (Lib.compact out).length) 0) (by rw [List.length_append, List.length_replicate]; omega) hb hg h1 h2 h3
        rw [grow_none] at hr
        rw [← e2] at hr
        refine ⟨rfl, by omega, by unfold maxLen at h2; omega, fun e => (by cases e), fun i s hi => ⟨g, 0, rfl, ?_⟩⟩
        have hi' : i < (Lib.compact out).length := (List.getElem?_eq_some_iff.1 hi).1
        rw [Nat.zero_add, hr.cellAt _ (by omega), List.map_append, List.getElem?_append_left (by simpa using hi'), List.getElem?_map, hi]
        rfl
      · rw [e2, ← grow_none (putRow _ _ _ _ _)]
        exact grownBy_sortedI _
end Go.Proofs.YtdehghmpfkhljaaDoor
