/-
  small, Limit, power, and plain facts that the laws of layer 15 share. Conditions: as each theorem says.
-/
import Derived.Test.YtdehghmpfkhljaaDoorNumAwake
import Derived.Test.YtdehghmpfkhljaaDoorNumLaw
namespace Go.Proofs.YtdehghmpfkhljaaDoor
open Go.RowKit
open NumPlain

def smallB (x : Nm) : Bool := decide (x.dn ≤ 40) && decide (x.pn ≤ 10)
theorem small_any (x : Nm) (w : World) : Calls Tryd.prog 13 #[nV x] w (BoolPost w (smallB x)) := by
  obtain ⟨c0, c1, c2, c3, c4, c5, c6, c7⟩ := Bx.new w x 24
  have AL : Aft w (w.alloc (.cells (nC x) 24)) := (Aft.refl w).alloc _
  by_cases h1 : x.dn ≤ 40
  · have h1i : (x.dn : Int) ≤ 40 := by omega
    by_cases h2 : x.pn ≤ 10
    · have h2i : (x.pn : Int) ≤ 10 := by omega
      have HV := Lib.hid (show smallB x = true by unfold smallB; rw [decide_eq_true h1, decide_eq_true h2]; rfl)
      clear h1 h2
      go_enter Tryd.func13, Tryd.ntmps13
      go_wp2
      go_ret
      exact ⟨by rw [HV.out]; first | rfl | simp [h1i, h2i], AL⟩
    · have h2i : ¬ (x.pn : Int) ≤ 10 := by omega
      have HV := Lib.hid (show smallB x = false by unfold smallB; rw [decide_eq_true h1, decide_eq_false h2]; rfl)
      clear h1 h2
      go_enter Tryd.func13, Tryd.ntmps13
      go_wp2
      go_ret
      exact ⟨by rw [HV.out]; first | rfl | simp [h1i, h2i], AL⟩
  · have h1i : ¬ (x.dn : Int) ≤ 40 := by omega
    have HV := Lib.hid (show smallB x = false by unfold smallB; rw [decide_eq_false h1]; rfl)
    clear h1
    go_enter Tryd.func13, Tryd.ntmps13
    go_wp2
    go_ret
    exact ⟨by rw [HV.out]; first | rfl | simp [h1i], AL⟩
theorem small_yes {x : Nm} (h : x.dn ≤ 40 ∧ x.pn ≤ 10) : smallB x = true := by unfold smallB; rw [decide_eq_true h.1, decide_eq_true h.2]; rfl
theorem small_no {x : Nm} (h : ¬ (x.dn ≤ 40 ∧ x.pn ≤ 10)) : smallB x = false := by
  unfold smallB
  by_cases h1 : x.dn ≤ 40
  · rw [decide_eq_true h1, decide_eq_false (fun h2 => h ⟨h1, h2⟩)]; rfl
  · rw [decide_eq_false h1]; rfl
/-- What a limit counts as. -/
def limV (limit : Int) : Int := if limit ≤ 9999 then limit else 9999
theorem limit_any (limit : Int) (w : World) : Calls Tryd.prog 30 #[.int .i64 limit] w (fun e w' => e = .returned (.int .i64 (limV limit)) ∧ w = w') := by
  by_cases h : limit ≤ 9999
  · have HV := Lib.hid (show limV limit = limit from if_pos h)
    have h' : ¬ 9999 < limit := by omega
    clear h
    go_enter Tryd.func30, Tryd.ntmps30
    go_wp2
    go_ret
    exact ⟨by rw [HV.out]; rfl, rfl⟩
  · have HV := Lib.hid (show limV limit = 9999 from if_neg h)
    have h' : 9999 < limit := by omega
    clear h
    go_enter Tryd.func30, Tryd.ntmps30
    go_wp2
    go_ret
    exact ⟨by rw [HV.out]; rfl, rfl⟩
theorem words_ok {x : Nm} (hv : validB x = true) {n : Nat} (hn : n ≤ 9999) : wordsV x (n : Int) = (wordsB x n, 0) := by
  unfold wordsV
  rw [hv, decide_eq_true (by omega)]
  show (if (n : Int) ≤ 9999 then (wordsB x (n : Int).toNat, (0 : Int)) else ([], 2)) = _
  rw [if_pos (by omega)]; rfl
theorem words_bad {x : Nm} (hv : validB x = false) (n : Int) : wordsV x n = ([], 1) := by
  unfold wordsV
  rw [hv]; rfl
theorem long_bad {x : Nm} (hv : validB x = false) (n : Int) : longV x n = (0, 0) := by
  unfold longV
  rw [hv]; rfl
theorem wf_range16 {z : Int} (h : (Lit.int .u16 z).wf = true) : 0 ≤ z ∧ z ≤ 65535 := by
  simp [Lit.wf, IntKind.min, IntKind.max, IntKind.bits, IntKind.signed] at h
  omega
theorem wf_range8 {z : Int} (h : (Lit.int .u8 z).wf = true) : 0 ≤ z ∧ z ≤ 255 := by
  simp [Lit.wf, IntKind.min, IntKind.max, IntKind.bits, IntKind.signed] at h
  omega
/-- The first number up to a limit with the most words. -/
theorem lg_up (x : Nm) : ∀ n a b, lg x n = (a, b) → (∀ j, j < n → (wordsB x j).length < b ∨ (wordsB x j).length = b ∧ a ≤ j) ∧ (n = 0 ∧ a = 0 ∧ b = 0 ∨ (wordsB x a).length = b ∧ a < n ∨ b = 0 ∧ a = 0)
  | 0, a, b, h => by
    cases h
    exact ⟨fun j hj => by omega, .inl ⟨rfl, rfl, rfl⟩⟩
  | n + 1, a, b, h => by
    obtain ⟨a', b', e⟩ : ∃ a' b', lg x n = (a', b') := ⟨_, _, rfl⟩
    obtain ⟨h1, h2⟩ := lg_up x n a' b' e
    rw [lg, e] at h
    simp only at h
    split at h
    · next hlt =>
      cases h
      refine ⟨fun j hj => ?_, .inr (.inl ⟨rfl, by omega⟩)⟩
      by_cases hjn : j = n
      · subst hjn; exact .inr ⟨rfl, Nat.le_refl _⟩
      · rcases h1 j (by omega) with h | h <;> left <;> omega
    · next hge =>
      cases h
      refine ⟨fun j hj => ?_, ?_⟩
      · by_cases hjn : j = n
        · subst hjn
          rcases Nat.lt_or_ge (wordsB x j).length b with h | h
          · exact .inl h
          · right
            refine ⟨by omega, ?_⟩
            rcases h2 with h2 | h2 | h2 <;> omega
        · exact h1 j (by omega)
      · rcases h2 with h2 | h2 | h2
        · exact .inr (.inr ⟨h2.2.2, h2.2.1⟩)
        · exact .inr (.inl ⟨h2.1, by omega⟩)
        · exact .inr (.inr h2)
theorem lg_most (x : Nm) (M best many : Nat) (h : lg x (M + 1) = (best, many)) : best ≤ M ∧ (wordsB x best).length = many ∧ ∀ j, j ≤ M → (wordsB x j).length ≤ many ∧ ((wordsB x j).length < many ∨ best ≤ j) := by
  obtain ⟨h1, h2⟩ := lg_up x (M + 1) best many h
  have h3 : best ≤ M ∧ (wordsB x best).length = many := by
    rcases h2 with h2 | h2 | h2
    · omega
    · exact ⟨by omega, h2.1⟩
    · obtain ⟨rfl, rfl⟩ := h2
      rcases h1 0 (by omega) with h | h
      · omega
      · exact ⟨by omega, h.1⟩
  refine ⟨h3.1, h3.2, fun j hj => ?_⟩
  rcases h1 j (by omega) with h | h <;> omega
theorem long_neg {x : Nm} {limit : Int} (h : limit < 0) : longV x limit = (0, 0) := by
  unfold longV
  have e : (cnt limit).toNat = 0 := by unfold cnt; rw [if_pos (by omega)]; omega
  rw [e]
  split <;> rfl
theorem cnt_nat {limit : Int} (h : ¬ limit < 0) : ∃ M : Nat, cnt limit = (M : Int) + 1 ∧ limV limit = (M : Int) ∧ M ≤ 9999 := by
  unfold cnt limV
  by_cases h9 : limit ≤ 9999
  · rw [if_pos h9]; exact ⟨limit.toNat, by omega, by omega, by omega⟩
  · rw [if_neg h9]; exact ⟨9999, rfl, rfl, by omega⟩
theorem long_at {x : Nm} (hv : validB x = true) {limit : Int} {M : Nat} (h : cnt limit = (M : Int) + 1) : longV x limit = lg x (M + 1) := by
  unfold longV
  rw [if_pos hv, h]
  rfl
/-- Is the number among the first k? -/
def fndB (j : Int) (l : List Int) (k : Nat) : Bool := (l.take k).any (fun z => z == j)
theorem fnd_next {j : Int} {l : List Int} {k : Nat} {z : Int} (h : l[k]? = some z) : fndB j l (k + 1) = (fndB j l k || (z == j)) := by
  unfold fndB
  rw [take_next h, List.any_append]
  simp
theorem fnd_all {j : Int} {l : List Int} {n : Nat} (h : l.length = n) (hj : j ∈ l) : fndB j l n = true := by
  unfold fndB
  rw [List.take_of_length_le (by omega), List.any_eq_true]
  exact ⟨j, hj, by simp⟩
theorem asc_at {l : List Int} (h : l.Pairwise (· < ·)) {k : Nat} {y z : Int} (hy : l[k]? = some y) (hz : l[k + 1]? = some z) : y < z := by
  obtain ⟨h1, e1⟩ := List.getElem?_eq_some_iff.1 hy
  obtain ⟨h2, e2⟩ := List.getElem?_eq_some_iff.1 hz
  have := (List.pairwise_iff_getElem.1 h) k (k + 1) h1 h2 (by omega)
  rwa [e1, e2] at this
end Go.Proofs.YtdehghmpfkhljaaDoor
