/-
  Plain mathematics of sorted strings: what sorting and compacting leaves, and that two strictly ascending lists with the same members are equal. Conditions: as each theorem says.
-/
import Derived.Test.YtpkhoklahcgcoaaDoorFtAll
import Derived.Lib.SlicesCompact
import Derived.Sort.Walk0
namespace Go.Proofs.YtpkhoklahcgcoaaDoor
open FeatPlain

theorem le_iff_less (x y : List UInt8) : x ≤ y ↔ Op.bytesLess y x = false := by
  rw [Go.Proofs.bytesLess_eq]
  simp
theorem compactUpTo_spec (d : Array (List UInt8)) (hs : ∀ i j, i < j → j < d.size → Op.bytesLess d[j]! d[i]! = false) : ∀ m, m ≤ d.size →
    (Lib.compactUpTo d m).Pairwise (fun x y => Op.bytesLess x y = true) ∧ ∀ x, x ∈ Lib.compactUpTo d m ↔ ∃ j, j < m ∧ d[j]! = x
  | 0, _ => by
    refine ⟨by simp [Lib.compactUpTo], fun x => ?_⟩
    simp [Lib.compactUpTo]
  | m + 1, hm => by
    obtain ⟨h1, h2⟩ := compactUpTo_spec d hs m (by omega)
    rw [Lib.compactUpTo_succ]
    by_cases hk : Lib.keeps d m = true
    · rw [if_pos hk]
      refine ⟨List.pairwise_append.2 ⟨h1, List.pairwise_singleton _ _, fun x hx y hy => ?_⟩, fun x => ?_⟩
      · rw [List.mem_singleton] at hy
        subst hy
        obtain ⟨j, hj, rfl⟩ := (h2 x).1 hx
        have hne : d[m]! ≠ d[m - 1]! := by
          simp [Lib.keeps] at hk
          rcases hk with hk | hk
          · omega
          · exact hk
        have a1 : Op.bytesLess d[m]! d[m - 1]! = false := hs (m - 1) m (by omega) (by omega)
        have a2 : Op.bytesLess d[m - 1]! d[m]! = true := by
          cases q : Op.bytesLess d[m - 1]! d[m]!
          · exact absurd (less_total a1 q) hne
          · rfl
        by_cases e : j = m - 1
        · rw [e]; exact a2
        · have a3 : Op.bytesLess d[m - 1]! d[j]! = false := hs j (m - 1) (by omega) (by omega)
          cases q : Op.bytesLess d[j]! d[m - 1]!
          · rw [less_total q a3]; exact a2
          · exact less_trans q a2
      · rw [List.mem_append, h2, List.mem_singleton]
        constructor
        · rintro (⟨j, hj, e⟩ | e)
          · exact ⟨j, by omega, e⟩
          · exact ⟨m, by omega, e.symm⟩
        · rintro ⟨j, hj, e⟩
          by_cases q : j = m
          · subst q; exact .inr e.symm
          · exact .inl ⟨j, by omega, e⟩
    · rw [if_neg hk, List.append_nil]
      refine ⟨h1, fun x => ?_⟩
      rw [h2]
      have hm0 : 0 < m ∧ d[m]! = d[m - 1]! := by
        simp [Lib.keeps] at hk
        exact ⟨by omega, hk.2⟩
      constructor
      · rintro ⟨j, hj, e⟩; exact ⟨j, by omega, e⟩
      · rintro ⟨j, hj, e⟩
        by_cases q : j = m
        · subst q; exact ⟨j - 1, by omega, by rw [← hm0.2]; exact e⟩
        · exact ⟨j, by omega, e⟩
theorem compact_sorted (zs : List (List UInt8)) :
    (Lib.compact (zs.mergeSort fun x y => decide (x ≤ y))).Pairwise (fun x y => Op.bytesLess x y = true) ∧ ∀ x, x ∈ Lib.compact (zs.mergeSort fun x y => decide (x ≤ y)) ↔ x ∈ zs := by
  have hp : (zs.mergeSort fun x y => decide (x ≤ y)).Pairwise (fun x y => decide (x ≤ y) = true) := by
    refine List.pairwise_mergeSort (fun a b c h1 h2 => ?_) (fun a b => ?_) zs
    · simp only [decide_eq_true_eq] at *
      exact List.le_trans h1 h2
    · rcases List.le_total a b with h | h <;> simp [h]
  have hm : ∀ x, x ∈ (zs.mergeSort fun x y => decide (x ≤ y)) ↔ x ∈ zs := fun x => (List.mergeSort_perm zs _).mem_iff
  generalize (zs.mergeSort fun x y => decide (x ≤ y)) = s at hp hm
  have hs : ∀ i j, i < j → j < s.toArray.size → Op.bytesLess s.toArray[j]! s.toArray[i]! = false := by
    intro i j hij hj
    have hj' : j < s.length := by simpa using hj
    have := (List.pairwise_iff_getElem.1 hp) i j (by omega) hj' hij
    rw [decide_eq_true_eq, le_iff_less] at this
    simpa [getElem!_pos, hj', show i < s.length by omega] using this
  obtain ⟨h1, h2⟩ := compactUpTo_spec s.toArray hs s.length (by simp)
  refine ⟨h1, fun x => ?_⟩
  rw [← hm, show Lib.compact s = Lib.compactUpTo s.toArray s.length from rfl, h2]
  constructor
  · rintro ⟨j, hj, e⟩
    have : s[j]? = some x := by rw [List.getElem?_eq_getElem hj, ← e]; simp [getElem!_pos, hj]
    exact List.mem_of_getElem? this
  · intro hx
    obtain ⟨j, hj, e⟩ := List.getElem_of_mem hx
    exact ⟨j, hj, by rw [← e]; simp [getElem!_pos, hj]⟩

/-- Strictly ascending strings. -/
def AscS (l : List ByteArray) : Prop := l.Pairwise fun a b => lt a b = true
theorem ascS_ext : ∀ {a b : List ByteArray}, AscS a → AscS b → (∀ f, f ∈ a ↔ f ∈ b) → a = b
  | [], [], _, _, _ => rfl
  | [], g :: b, _, _, h => absurd ((h g).2 (by simp)) (by simp)
  | f :: a, [], _, _, h => absurd ((h f).1 (by simp)) (by simp)
  | f :: a, g :: b, ha, hb, h => by
    have ha' := List.pairwise_cons.1 ha
    have hb' := List.pairwise_cons.1 hb
    have e : f = g := by
      rcases List.mem_cons.1 ((h f).1 (by simp)) with e | h1
      · exact e
      · rcases List.mem_cons.1 ((h g).2 (by simp)) with e | h2
        · exact e.symm
        · have x1 := hb'.1 f h1
          have x2 := ha'.1 g h2
          rw [lt_asymm x1] at x2
          cases x2
    subst e
    rw [ascS_ext ha'.2 hb'.2 (fun x => ?_)]
    constructor
    · intro hx
      rcases List.mem_cons.1 ((h x).1 (List.mem_cons_of_mem _ hx)) with e | k
      · subst e
        have := ha'.1 x hx
        rw [lt_irrefl] at this
        cases this
      · exact k
    · intro hx
      rcases List.mem_cons.1 ((h x).2 (List.mem_cons_of_mem _ hx)) with e | k
      · subst e
        have := hb'.1 x hx
        rw [lt_irrefl] at this
        cases this
      · exact k
end Go.Proofs.YtpkhoklahcgcoaaDoor
