/-
  Plain mathematics of alphabets (no Go in sight): letters as pairs of a rune and classes, the index of a rune's first letter, the number of distinct runes.
-/
import GoSem.Op.String
namespace Go.Proofs.YtfjfgjncmliadaaDoor.AlphPlain

/-- A letter: rune and classes. -/
abbrev Lt := Int × Int

/-- The index of the first letter with a rune. -/
def idx : List Lt → Int → Option Nat
  | [], _ => none
  | l :: a, r => if l.1 = r then some 0 else (idx a r).map (· + 1)

def has (a : List Lt) (r : Int) : Bool := (idx a r).isSome
/-- The index, 0 if there is none. -/
def pos (a : List Lt) (r : Int) : Nat := (idx a r).getD 0

theorem idx_append : ∀ (a b : List Lt) (r : Int), idx (a ++ b) r = match idx a r with | some i => some i | none => (idx b r).map (· + a.length)
  | [], b, r => by simp [idx]
  | l :: a, b, r => by
    rw [List.cons_append, idx, idx]
    by_cases h : l.1 = r
    · simp [h]
    · rw [if_neg h, if_neg h, idx_append a b r]
      cases idx a r
      · cases idx b r <;> simp; omega
      · rfl

theorem idx_snoc (a : List Lt) (l : Lt) (r : Int) : idx (a ++ [l]) r = match idx a r with | some i => some i | none => if l.1 = r then some a.length else none := by
  rw [idx_append]
  cases idx a r
  · simp [idx]
  · rfl

theorem idx_lt : ∀ {a : List Lt} {r : Int} {i : Nat}, idx a r = some i → ∃ l, a[i]? = some l ∧ l.1 = r
  | l :: a, r, i, h => by
    rw [idx] at h
    split at h
    · cases h; exact ⟨l, rfl, by assumption⟩
    · obtain ⟨j, hj, rfl⟩ := Option.map_eq_some_iff.1 h
      obtain ⟨m, hm, e⟩ := idx_lt hj
      exact ⟨m, by simpa using hm, e⟩

theorem idx_le : ∀ {a : List Lt} {l : Lt} {i : Nat}, a[i]? = some l → ∃ j, idx a l.1 = some j ∧ j ≤ i
  | [], _, _, h => by simp at h
  | x :: a, l, 0, h => by simp at h; subst h; exact ⟨0, by simp [idx], Nat.le_refl _⟩
  | x :: a, l, i + 1, h => by
    rw [idx]
    by_cases e : x.1 = l.1
    · exact ⟨0, by simp [e], Nat.zero_le _⟩
    · obtain ⟨j, hj, hle⟩ := idx_le (a := a) (i := i) (l := l) (by simpa using h)
      exact ⟨j + 1, by simp [e, hj], by omega⟩

theorem has_snoc (a : List Lt) (l : Lt) (r : Int) : has (a ++ [l]) r = (has a r || decide (l.1 = r)) := by
  unfold has
  rw [idx_snoc]
  cases idx a r
  · by_cases h : l.1 = r <;> simp [h]
  · rfl

/-- How many distinct runes are there? -/
def cntR : List Lt → Nat
  | [] => 0
  | l :: r => if has r.reverse l.1 then cntR r else cntR r + 1
def cnt (a : List Lt) : Nat := cntR a.reverse

theorem cnt_nil : cnt [] = 0 := rfl
theorem cnt_snoc (a : List Lt) (l : Lt) : cnt (a ++ [l]) = if has a l.1 then cnt a else cnt a + 1 := by
  unfold cnt
  rw [List.reverse_append, List.reverse_singleton, List.singleton_append, cntR, List.reverse_reverse]

theorem cnt_le : ∀ (n : Nat) (a : List Lt), a.length = n → cnt a ≤ n
  | 0, a, h => by rw [List.length_eq_zero_iff.1 h]; exact Nat.le_refl _
  | n + 1, a, h => by
    have hne : a ≠ [] := fun e => by rw [e] at h; cases h
    have ha := List.dropLast_concat_getLast hne
    have hl : a.dropLast.length = n := by rw [List.length_dropLast]; omega
    have ih := cnt_le n _ hl
    rw [← ha, cnt_snoc]
    split <;> omega

/-- All runes are distinct. -/
def Dist (a : List Lt) : Prop := ∀ i l, a[i]? = some l → idx a l.1 = some i

theorem cnt_dist : ∀ (n : Nat) (a : List Lt), a.length = n → (cnt a = n ↔ Dist a)
  | 0, a, h => by rw [List.length_eq_zero_iff.1 h]; exact ⟨fun _ i l hi => by simp at hi, fun _ => rfl⟩
  | n + 1, a, h => by
    have hne : a ≠ [] := fun e => by rw [e] at h; cases h
    have ha := List.dropLast_concat_getLast hne
    generalize a.getLast hne = l at ha
    have hl : a.dropLast.length = n := by rw [List.length_dropLast]; omega
    generalize a.dropLast = b at ha hl
    subst ha
    have ih := cnt_dist n b hl
    have hb := cnt_le n b hl
    rw [cnt_snoc]
    constructor
    · intro hc
      have hh : has b l.1 = false := by
        cases k : has b l.1
        · rfl
        · rw [k] at hc; simp at hc; omega
      rw [hh] at hc
      simp at hc
      have hd := ih.1 hc
      intro i m hi
      rw [idx_snoc]
      rcases Nat.lt_or_ge i n with hlt | hge
      · rw [List.getElem?_append_left (by omega)] at hi
        rw [hd i m hi]
      · obtain rfl : i = n := by have := (List.getElem?_eq_some_iff.1 hi).1; simp at this; omega
        rw [List.getElem?_append_right (by omega), hl] at hi
        simp at hi
        subst hi
        have : idx b l.1 = none := by unfold has at hh; cases k : idx b l.1 <;> simp_all
        rw [this]
        simp [hl]
    · intro hd
      have hh : has b l.1 = false := by
        have h1 := hd n l (by rw [List.getElem?_append_right (by omega), hl]; simp)
        rw [idx_snoc] at h1
        unfold has
        cases k : idx b l.1 with
        | none => rfl
        | some j =>
          rw [k] at h1
          simp at h1
          subst h1
          obtain ⟨m, hm, _⟩ := idx_lt k
          have := (List.getElem?_eq_some_iff.1 hm).1
          omega
      have hdb : Dist b := by
        intro i m hi
        have hlt := (List.getElem?_eq_some_iff.1 hi).1
        have h1 := hd i m (by rw [List.getElem?_append_left hlt]; exact hi)
        rw [idx_snoc] at h1
        cases k : idx b m.1 with
        | none =>
          rw [k] at h1
          simp at h1
          omega
        | some j => rw [k] at h1; exact h1
      rw [hh, ih.2 hdb]
      simp
end Go.Proofs.YtfjfgjncmliadaaDoor.AlphPlain
