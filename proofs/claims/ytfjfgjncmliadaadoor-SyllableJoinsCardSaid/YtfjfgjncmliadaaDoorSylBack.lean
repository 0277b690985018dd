/-
  Plain mathematics: the runes of a string that is made of good runes are these runes. Conditions: as each theorem says.
-/
import Derived.Test.YtfjfgjncmliadaaDoorAlphBack
import Derived.Test.YtfjfgjncmliadaaDoorSylRef4
namespace Go.Proofs.YtfjfgjncmliadaaDoor
open Go.RowKit
open AlphPlain
open Go.Lib (validD)

theorem runesBytes_snoc (rs : List Int) (r : Int) : runesBytes (rs ++ [r]) = runesBytes rs ++ Utf8.encode r := by simp [runesBytes]
theorem runes_back : ∀ (n : Nat) (rs : List Int), rs.length = n → (∀ r ∈ rs, goodB r = true) → validD (runesBytes rs).data.toList = true ∧ rdL (runesBytes rs).data.toList = rs
  | 0, rs, h, _ => by rw [List.length_eq_zero_iff.1 h]; exact ⟨rfl, rfl⟩
  | n + 1, rs, h, hg => by
    have hne : rs ≠ [] := fun e => by rw [e] at h; cases h
    have ha := List.dropLast_concat_getLast hne
    generalize rs.getLast hne = r at ha
    have hl : rs.dropLast.length = n := by rw [List.length_dropLast]; omega
    generalize rs.dropLast = b at ha hl
    subst ha
    have ih := runes_back n b hl (fun x hx => hg x (by simp [hx]))
    rw [runesBytes_snoc]
    have h2 := rd_snoc ih.1 (hg r (by simp))
    rw [ih.2] at h2
    exact h2
theorem runesOf_back {rs : List Int} (h : ∀ r ∈ rs, goodB r = true) : runesOf (runesBytes rs) = rs := by
  rw [runesOf_rd, (runes_back _ rs rfl h).2]
theorem ok_good {ls : List Lt} {m : List (List Int)} {L R : Int} {s : ByteArray} (h : okD ls m L R s = true) : ∀ r ∈ runesOf s, goodB r = true := by
  unfold okD at h
  simp only [Bool.and_eq_true] at h
  obtain ⟨⟨hv, _⟩, hw⟩ := h
  unfold wordB at hw
  simp only [Bool.and_eq_true, List.all_eq_true] at hw
  intro r hr
  rw [runesOf_rd] at hr
  have hh := hw.2 r hr
  obtain ⟨l, hl, e⟩ := pos_get hh
  unfold validB at hv
  simp only [Bool.and_eq_true, List.all_eq_true] at hv
  rw [← e]
  exact hv.1.2 l (List.mem_of_getElem? hl)
theorem ok_marg {ls : List Lt} {m : List (List Int)} {L R : Int} {s : ByteArray} (h : okD ls m L R s = true) : 1 ≤ L := by
  unfold okD validP marB at h
  simp only [Bool.and_eq_true, decide_eq_true_eq] at h
  exact h.1.2.1.2.1
theorem piece_back {ls : List Lt} {m : List (List Int)} {L R : Int} {s : ByteArray} (h : okD ls m L R s = true) (a b : Nat) : runesOf (runesBytes (sub (runesOf s) a b)) = sub (runesOf s) a b :=
  runesOf_back (fun r hr => ok_good h r (sub_mem hr))
theorem stP_zero {ls : List Lt} {m : List (List Int)} {rs : List Int} {x : Nat} (h : (stP ls m rs)[0]? = some x) : x = 0 := by
  unfold stP at h
  split at h
  · simp at h
  · simp at h; exact h.symm
end Go.Proofs.YtfjfgjncmliadaaDoor
