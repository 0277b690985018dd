/-
  Plain mathematics of the vocabulary: sorted and compacted strings; insertion into an ascending list. Conditions: as each theorem says.
-/
import Derived.Test.YtdehghmpfkhljaaDoorNumLaw
import Derived.Lib.Bytealg
import Derived.WideShapes
import Derived.Lib.SlicesCompact
import Derived.Sort.Walk0
namespace Go.Proofs.YtdehghmpfkhljaaDoor.Voc
open Go.RowKit Go.Sort NumPlain

/-- Go's '<' on strings. -/
def lt (a b : ByteArray) : Bool := Op.bytesLess a.toList b.toList

theorem toList_inj {a b : ByteArray} (h : a.toList = b.toList) : a = b := by
  rw [ByteArray.toList_eq, ByteArray.toList_eq] at h
  exact WideShapes.bytes_inj h

theorem less_irrefl : ∀ l : List UInt8, Op.bytesLess l l = false
  | [] => rfl
  | a :: l => by simp [Op.bytesLess, less_irrefl l, UInt8.lt_irrefl]

theorem less_trans : ∀ {x y z : List UInt8}, Op.bytesLess x y = true → Op.bytesLess y z = true → Op.bytesLess x z = true
  | _, _, [], _, h => by simp [Op.bytesLess] at h
  | _, [], _ :: _, h, _ => by simp [Op.bytesLess] at h
  | [], _ :: _, _ :: _, _, _ => rfl
  | a :: x, b :: y, c :: z, h, k => by
    simp only [Op.bytesLess, Bool.or_eq_true, Bool.and_eq_true, decide_eq_true_eq, beq_iff_eq] at h k ⊢
    rcases h with h | ⟨rfl, h⟩
    · rcases k with k | ⟨rfl, k⟩
      · exact .inl (UInt8.lt_trans h k)
      · exact .inl h
    · rcases k with k | ⟨rfl, k⟩
      · exact .inl k
      · exact .inr ⟨rfl, less_trans h k⟩

theorem less_total : ∀ {x y : List UInt8}, Op.bytesLess x y = false → Op.bytesLess y x = false → x = y
  | [], [], _, _ => rfl
  | [], _ :: _, h, _ => by simp [Op.bytesLess] at h
  | _ :: _, [], _, h => by simp [Op.bytesLess] at h
  | a :: x, b :: y, h, k => by
    simp only [Op.bytesLess, Bool.or_eq_false_iff, decide_eq_false_iff_not, Bool.and_eq_false_iff] at h k
    have hab : a = b := UInt8.le_antisymm (UInt8.not_lt.1 k.1) (UInt8.not_lt.1 h.1)
    subst hab
    have h2 : Op.bytesLess x y = false := by simpa using h.2
    have k2 : Op.bytesLess y x = false := by simpa using k.2
    rw [less_total h2 k2]

theorem lt_irrefl (a : ByteArray) : lt a a = false := less_irrefl _
theorem lt_trans {a b c : ByteArray} (h : lt a b = true) (k : lt b c = true) : lt a c = true := less_trans h k
theorem lt_total {a b : ByteArray} (h : lt a b = false) (k : lt b a = false) : a = b := toList_inj (less_total h k)
theorem lt_asymm {a b : ByteArray} (h : lt a b = true) : lt b a = false := by
  cases k : lt b a
  · rfl
  · have := lt_trans h k; rw [lt_irrefl] at this; cases this
theorem le_iff_less (x y : List UInt8) : x ≤ y ↔ Op.bytesLess y x = false := by
  rw [Go.Proofs.bytesLess_eq]
  simp
theorem compactUpTo_spec (d : Array (List UInt8)) (hs : ∀ i j, i < j → j < d.size → Op.bytesLess d[j]! d[i]! = false) : ∀ m, m ≤ d.size →
    (Lib.compactUpTo d m).Pairwise (fun x y => Op.bytesLess x y = true) ∧ ∀ x, x ∈ Lib.compactUpTo d m ↔ ∃ j, j < m ∧ d[j]! = x
  | 0, _ => by
    refine ⟨by simp [Lib.compactUpTo], fun x => ?_⟩
    simp [Lib.compactUpTo]
  | m + 1, hm => by
    obtain ⟨h1, h2⟩ := compactUpTo_spec d hs m (by omega)
    rw [Lib.compactUpTo_succ]
    by_cases hk : Lib.keeps d m = true
    · rw [if_pos hk]
      refine ⟨List.pairwise_append.2 ⟨h1, List.pairwise_singleton _ _, fun x hx y hy => ?_⟩, fun x => ?_⟩
      · rw [List.mem_singleton] at hy
        subst hy
        obtain ⟨j, hj, rfl⟩ := (h2 x).1 hx
        have hne : d[m]! ≠ d[m - 1]! := by
          simp [Lib.keeps] at hk
          rcases hk with hk | hk
          · omega
          · exact hk
        have a1 : Op.bytesLess d[m]! d[m - 1]! = false := hs (m - 1) m (by omega) (by omega)
        have a2 : Op.bytesLess d[m - 1]! d[m]! = true := by
          cases q : Op.bytesLess d[m - 1]! d[m]!
          · exact absurd (less_total a1 q) hne
          · rfl
        by_cases e : j = m - 1
        · rw [e]; exact a2
        · have a3 : Op.bytesLess d[m - 1]! d[j]! = false := hs j (m - 1) (by omega) (by omega)
          cases q : Op.bytesLess d[j]! d[m - 1]!
          · rw [less_total q a3]; exact a2
          · exact less_trans q a2
      · rw [List.mem_append, h2, List.mem_singleton]
        constructor
        · rintro (⟨j, hj, e⟩ | e)
          · exact ⟨j, by omega, e⟩
          · exact ⟨m, by omega, e.symm⟩
        · rintro ⟨j, hj, e⟩
          by_cases q : j = m
          · subst q; exact .inr e.symm
          · exact .inl ⟨j, by omega, e⟩
    · rw [if_neg hk, List.append_nil]
      refine ⟨h1, fun x => ?_⟩
      rw [h2]
      have hm0 : 0 < m ∧ d[m]! = d[m - 1]! := by
        simp [Lib.keeps] at hk
        exact ⟨by omega, hk.2⟩
      constructor
      · rintro ⟨j, hj, e⟩; exact ⟨j, by omega, e⟩
      · rintro ⟨j, hj, e⟩
        by_cases q : j = m
        · subst q; exact ⟨j - 1, by omega, by rw [← hm0.2]; exact e⟩
        · exact ⟨j, by omega, e⟩
theorem compact_sorted (zs : List (List UInt8)) :
    (Lib.compact (zs.mergeSort fun x y => decide (x ≤ y))).Pairwise (fun x y => Op.bytesLess x y = true) ∧ ∀ x, x ∈ Lib.compact (zs.mergeSort fun x y => decide (x ≤ y)) ↔ x ∈ zs := by
  have hp : (zs.mergeSort fun x y => decide (x ≤ y)).Pairwise (fun x y => decide (x ≤ y) = true) := by
    refine List.pairwise_mergeSort (fun a b c h1 h2 => ?_) (fun a b => ?_) zs
    · simp only [decide_eq_true_eq] at *
      exact List.le_trans h1 h2
    · rcases List.le_total a b with h | h <;> simp [h]
  have hm : ∀ x, x ∈ (zs.mergeSort fun x y => decide (x ≤ y)) ↔ x ∈ zs := fun x => (List.mergeSort_perm zs _).mem_iff
  generalize (zs.mergeSort fun x y => decide (x ≤ y)) = s at hp hm
  have hs : ∀ i j, i < j → j < s.toArray.size → Op.bytesLess s.toArray[j]! s.toArray[i]! = false := by
    intro i j hij hj
    have hj' : j < s.length := by simpa using hj
    have := (List.pairwise_iff_getElem.1 hp) i j (by omega) hj' hij
    rw [decide_eq_true_eq, le_iff_less] at this
    simpa [getElem!_pos, hj', show i < s.length by omega] using this
  obtain ⟨h1, h2⟩ := compactUpTo_spec s.toArray hs s.length (by simp)
  refine ⟨h1, fun x => ?_⟩
  rw [← hm, show Lib.compact s = Lib.compactUpTo s.toArray s.length from rfl, h2]
  constructor
  · rintro ⟨j, hj, e⟩
    have : s[j]? = some x := by rw [List.getElem?_eq_getElem hj, ← e]; simp [getElem!_pos, hj]
    exact List.mem_of_getElem? this
  · intro hx
    obtain ⟨j, hj, e⟩ := List.getElem_of_mem hx
    exact ⟨j, hj, by rw [← e]; simp [getElem!_pos, hj]⟩

/-- Strictly ascending strings. -/
def AscS (l : List ByteArray) : Prop := l.Pairwise fun a b => lt a b = true
theorem ascS_ext : ∀ {a b : List ByteArray}, AscS a → AscS b → (∀ f, f ∈ a ↔ f ∈ b) → a = b
  | [], [], _, _, _ => rfl
  | [], g :: b, _, _, h => absurd ((h g).2 (by simp)) (by simp)
  | f :: a, [], _, _, h => absurd ((h f).1 (by simp)) (by simp)
  | f :: a, g :: b, ha, hb, h => by
    have ha' := List.pairwise_cons.1 ha
    have hb' := List.pairwise_cons.1 hb
    have e : f = g := by
      rcases List.mem_cons.1 ((h f).1 (by simp)) with e | h1
      · exact e
      · rcases List.mem_cons.1 ((h g).2 (by simp)) with e | h2
        · exact e.symm
        · have x1 := hb'.1 f h1
          have x2 := ha'.1 g h2
          rw [lt_asymm x1] at x2
          cases x2
    subst e
    rw [ascS_ext ha'.2 hb'.2 (fun x => ?_)]
    constructor
    · intro hx
      rcases List.mem_cons.1 ((h x).1 (List.mem_cons_of_mem _ hx)) with e | k
      · subst e
        have := ha'.1 x hx
        rw [lt_irrefl] at this
        cases this
      · exact k
    · intro hx
      rcases List.mem_cons.1 ((h x).2 (List.mem_cons_of_mem _ hx)) with e | k
      · subst e
        have := hb'.1 x hx
        rw [lt_irrefl] at this
        cases this
      · exact k

/-- Put in between: still ascending. -/
theorem ins_asc {l : List ByteArray} {k : Nat} {s : ByteArray} (ha : AscS l) (h1 : ∀ i t, i < k → l[i]? = some t → lt t s = true) (h2 : ∀ t, l[k]? = some t → lt s t = true) : AscS (l.take k ++ [s] ++ l.drop k) := by
  have hlo : ∀ t ∈ l.take k, lt t s = true := by
    intro t ht
    obtain ⟨i, hi⟩ := List.getElem?_of_mem ht
    have hik : i < k := by have := (List.getElem?_eq_some_iff.1 hi).1; simp at this; omega
    rw [List.getElem?_take_of_lt hik] at hi
    exact h1 i t hik hi
  have hhi : ∀ t ∈ l.drop k, lt s t = true := by
    intro t ht
    obtain ⟨i, hi⟩ := List.getElem?_of_mem ht
    rw [List.getElem?_drop] at hi
    cases i with
    | zero => exact h2 t (by simpa using hi)
    | succ i =>
      have hlen := (List.getElem?_eq_some_iff.1 hi).1
      obtain ⟨_, rfl⟩ := List.getElem?_eq_some_iff.1 hi
      have h3 := h2 l[k] (List.getElem?_eq_getElem (by omega))
      exact lt_trans h3 ((List.pairwise_iff_getElem.1 ha) k (k + (i + 1)) (by omega) hlen (by omega))
  unfold AscS
  rw [List.append_assoc, List.pairwise_append]
  refine ⟨List.Pairwise.sublist (List.take_sublist _ _) ha, ?_, ?_⟩
  · rw [List.singleton_append, List.pairwise_cons]
    exact ⟨hhi, List.Pairwise.sublist (List.drop_sublist _ _) ha⟩
  · intro t ht u hu
    rw [List.singleton_append, List.mem_cons] at hu
    rcases hu with rfl | hu
    · exact hlo t ht
    · exact lt_trans (hlo t ht) (hhi u hu)
theorem ins_mem {l : List ByteArray} {k : Nat} {s t : ByteArray} : t ∈ l.take k ++ [s] ++ l.drop k ↔ t ∈ l ∨ t = s := by
  conv => rhs; rw [← List.take_append_drop k l]
  simp only [List.mem_append, List.mem_singleton]
  constructor
  · rintro ((h | h) | h)
    · exact .inl (.inl h)
    · exact .inr h
    · exact .inl (.inr h)
  · rintro ((h | h) | h)
    · exact .inl (.inl h)
    · exact .inr h
    · exact .inl (.inr h)

def bytesL (l : List ByteArray) : List (List UInt8) := l.map (·.data.toList)
def stringsL (l : List (List UInt8)) : List ByteArray := l.map fun x => ⟨x.toArray⟩
/-- The strings in ascending order. -/
def sortedS (l : List ByteArray) : List ByteArray := stringsL ((bytesL l).mergeSort fun x y => decide (x ≤ y))
/-- The strings without those that equal the one before. -/
def compactS (l : List ByteArray) : List ByteArray := stringsL (Lib.compact (bytesL l))
theorem sortedS_nil : sortedS [] = [] := by simp [sortedS, bytesL, stringsL]
theorem sortedS_len (out : List ByteArray) : (sortedS out).length = out.length := by simp [sortedS, stringsL, bytesL]
theorem compact_sortedS (out : List ByteArray) : AscS (compactS (sortedS out)) ∧ ∀ s, s ∈ compactS (sortedS out) ↔ s ∈ out := by
  have e : bytesL (sortedS out) = (bytesL out).mergeSort fun x y => decide (x ≤ y) := by
    unfold sortedS bytesL stringsL
    rw [List.map_map]
    conv => rhs; rw [← List.map_id ((out.map (·.data.toList)).mergeSort fun x y => decide (x ≤ y))]
    exact List.map_congr_left fun x _ => by simp
  obtain ⟨h1, h2⟩ := compact_sorted (bytesL out)
  unfold compactS
  rw [e]
  constructor
  · unfold AscS stringsL
    rw [List.pairwise_map]
    refine h1.imp fun {a b} h => ?_
    unfold lt
    rw [ByteArray.toList_eq, ByteArray.toList_eq]
    simpa using h
  · intro s
    unfold stringsL
    rw [List.mem_map]
    constructor
    · rintro ⟨x, hx, rfl⟩
      obtain ⟨y, hy, rfl⟩ := List.mem_map.1 ((h2 x).1 hx)
      exact hy
    · intro hs
      exact ⟨s.data.toList, (h2 _).2 (List.mem_map.2 ⟨s, hs, rfl⟩), rfl⟩

/-- The words of a system, ascending, each once. -/
def vocS (x : Nm) : List ByteArray := compactS (sortedS (vocL x))
theorem vocS_asc (x : Nm) : AscS (vocS x) := (compact_sortedS _).1
theorem vocS_mem (x : Nm) (s : ByteArray) : s ∈ vocS x ↔ s ∈ vocL x := (compact_sortedS _).2 s
end Go.Proofs.YtdehghmpfkhljaaDoor.Voc
