/-
  Plain mathematics of amounts in mixed units (no Go in sight): valid units, normal parts, sums, conversions. Conditions: as each theorem says.
-/
import GoSem.Op.String
namespace Go.Proofs.Yteknfigpjhngfaa.MeasPlain

/-- A unit: its name and its size. -/
abbrev Un := ByteArray × Int
def maxC : Int := 1099511627776

def nameIn (us : List Un) (s : ByteArray) : Bool := us.any (fun v => decide (v.1 = s))
/-- Can next be the size behind size? -/
def stepB (size next : Int) : Bool := decide (size < next) && decide (next ≤ 1000000) && decide (next % size = 0)
/-- Is the unit with the index i not wrong? -/
def goodAt (us : List Un) (i : Nat) : Bool :=
  match us[i]? with
  | none => true
  | some u => !decide (u.1.size = 0) && !nameIn (us.take i) u.1 && (decide (i = 0) || stepB ((us.map (·.2)).getD (i - 1) 0) u.2)
def chk (us : List Un) : Bool := decide (1 ≤ us.length) && decide (us.length ≤ 8) && decide ((us.map (·.2)).getD 0 0 = 1) && (List.range us.length).all (goodAt us)

theorem chk_false {us : List Un} {k : Nat} (hk : k < us.length) (h : goodAt us k = false) : chk us = false := by
  unfold chk
  have : (List.range us.length).all (goodAt us) = false := by
    rw [List.all_eq_false]
    exact ⟨k, by simpa using hk, by simp [h]⟩
  rw [this, Bool.and_false]
theorem chk_true {us : List Un} (h1 : 1 ≤ us.length) (h8 : us.length ≤ 8) (h0 : (us.map (·.2)).getD 0 0 = 1) (h : ∀ j, j < us.length → goodAt us j = true) : chk us = true := by
  unfold chk
  have : (List.range us.length).all (goodAt us) = true := by
    rw [List.all_eq_true]
    exact fun x hx => h x (by simpa using hx)
  rw [this]
  have h0' : decide ((us.map (·.2)).getD 0 0 = 1) = true := decide_eq_true h0
  rw [h0']
  simp [h1, h8]

/-- The sizes of valid units. -/
structure Sizes (ss : List Int) : Prop where
  ne : 1 ≤ ss.length
  le : ss.length ≤ 8
  one : ss.getD 0 0 = 1
  step : ∀ i, i + 1 < ss.length → stepB (ss.getD i 0) (ss.getD (i + 1) 0) = true

theorem chk_sizes {us : List Un} (h : chk us = true) : Sizes (us.map (·.2)) := by
  unfold chk at h
  simp only [Bool.and_eq_true, decide_eq_true_eq, List.all_eq_true] at h
  obtain ⟨⟨⟨h1, h8⟩, h0⟩, h⟩ := h
  refine ⟨by simpa using h1, by simpa using h8, h0, fun i hi => ?_⟩
  have hi' : i + 1 < us.length := by simpa using hi
  have hg := h (i + 1) (by simpa using hi')
  unfold goodAt at hg
  rw [List.getElem?_eq_getElem hi'] at hg
  simp only [Bool.and_eq_true, Bool.or_eq_true, decide_eq_true_eq] at hg
  have := hg.2.resolve_left (by omega)
  rw [Nat.add_sub_cancel] at this
  simpa [List.getD, List.getElem?_eq_getElem hi'] using this

theorem stepB_facts {a b : Int} (h : stepB a b = true) : a < b ∧ b ≤ 1000000 ∧ b % a = 0 := by
  unfold stepB at h
  simp only [Bool.and_eq_true, decide_eq_true_eq] at h
  exact ⟨h.1.1, h.1.2, h.2⟩

theorem Sizes.bound {ss : List Int} (h : Sizes ss) : ∀ i, i < ss.length → 1 ≤ ss.getD i 0 ∧ ss.getD i 0 ≤ 1000000
  | 0, _ => by rw [h.one]; omega
  | i + 1, hi => by
    have h1 := Sizes.bound h i (by omega)
    have h2 := stepB_facts (h.step i hi)
    omega
theorem getD_of {α : Type} {l : List α} {i : Nat} {x d : α} (h : l[i]? = some x) : l.getD i d = x := by simp [List.getD, h]
theorem Sizes.mem {ss : List Int} (h : Sizes ss) {s : Int} (hs : s ∈ ss) : 1 ≤ s ∧ s ≤ 1000000 := by
  obtain ⟨i, hi, rfl⟩ := List.mem_iff_getElem.1 hs
  have := h.bound i hi
  rwa [getD_of (List.getElem?_eq_getElem hi)] at this

/-- The parts of n, and what is left below the first unit. -/
def divs : List Int → Int → List Int × Int
  | [], n => ([], n)
  | s :: ss, n => ((divs ss n).2 / s :: (divs ss n).1, (divs ss n).2 % s)
def parts (ss : List Int) (n : Int) : List Int := (divs ss n).1
/-- The sum of the products. -/
def amt : List Int → List Int → Int
  | s :: ss, p :: ps => p * s + amt ss ps
  | _, _ => 0

theorem parts_len : ∀ (ss : List Int) (n : Int), (parts ss n).length = ss.length
  | [], n => rfl
  | s :: ss, n => by show (parts ss n).length + 1 = _; rw [parts_len ss n]; rfl
theorem emod_le' {s : Int} (a : Int) (h : 0 ≤ a) : a % s ≤ a := by
  by_cases hs : 0 < s
  · have h1 := Int.ediv_nonneg h (Int.le_of_lt hs)
    have h2 := Int.mul_ediv_add_emod a s
    have h3 : 0 ≤ s * (a / s) := Int.mul_nonneg (Int.le_of_lt hs) h1
    omega
  · by_cases h0 : s = 0
    · subst h0; simp
    · have h1 := Int.emod_lt_of_pos a (show 0 < -s by omega)
      rw [Int.emod_neg] at h1
      have h2 := Int.ediv_nonneg h (show 0 ≤ -s by omega)
      have h3 := Int.mul_ediv_add_emod a (-s)
      rw [Int.emod_neg] at h3
      have h4 : 0 ≤ -s * (a / -s) := Int.mul_nonneg (by omega) h2
      omega
theorem divs_rem {n : Int} (hn : 0 ≤ n) : ∀ {ss : List Int}, (∀ s ∈ ss, 1 ≤ s) → 0 ≤ (divs ss n).2 ∧ (divs ss n).2 ≤ n
  | [], _ => ⟨hn, Int.le_refl _⟩
  | s :: ss, h => by
    have h1 := divs_rem hn (ss := ss) (fun x hx => h x (by simp [hx]))
    have hs := h s (by simp)
    have e1 := Int.emod_nonneg (divs ss n).2 (show s ≠ 0 by omega)
    have e2 : (divs ss n).2 % s ≤ (divs ss n).2 := emod_le' _ h1.1
    show 0 ≤ (divs ss n).2 % s ∧ (divs ss n).2 % s ≤ n
    omega
theorem divs_sum : ∀ (ss : List Int) (n : Int), amt ss (parts ss n) + (divs ss n).2 = n
  | [], n => by simp [amt, divs]
  | s :: ss, n => by
    have h := divs_sum ss n
    show (divs ss n).2 / s * s + amt ss (parts ss n) + (divs ss n).2 % s = n
    have h2 := Int.mul_ediv_add_emod (divs ss n).2 s
    rw [Int.mul_comm] at h2
    omega
theorem parts_nonneg {n : Int} (hn : 0 ≤ n) : ∀ {ss : List Int}, (∀ s ∈ ss, 1 ≤ s) → ∀ p ∈ parts ss n, 0 ≤ p
  | [], _, p, hp => by cases hp
  | s :: ss, h, p, hp => by
    have hr := divs_rem hn (ss := ss) (fun x hx => h x (by simp [hx]))
    have hs := h s (by simp)
    rcases List.mem_cons.1 hp with rfl | hp
    · exact Int.ediv_nonneg hr.1 (by omega)
    · exact parts_nonneg hn (fun x hx => h x (by simp [hx])) p hp
theorem amt_parts {ss : List Int} (h : Sizes ss) {n : Int} : amt ss (parts ss n) = n := by
  have h1 := divs_sum ss n
  match ss, h with
  | s :: ss, h =>
    have h0 : s = 1 := h.one
    subst h0
    have : (divs (1 :: ss) n).2 = 0 := by show (divs ss n).2 % 1 = 0; omega
    omega
  | [], h => have := h.ne; simp at this

theorem amt_nonneg : ∀ {ss ps : List Int}, (∀ s ∈ ss, 1 ≤ s) → (∀ p ∈ ps, 0 ≤ p) → 0 ≤ amt ss ps
  | [], _, _, _ => by simp [amt]
  | _ :: _, [], _, _ => by simp [amt]
  | s :: ss, p :: ps, hs, hp => by
    have h1 := amt_nonneg (ss := ss) (ps := ps) (fun x hx => hs x (by simp [hx])) (fun x hx => hp x (by simp [hx]))
    have h2 : 0 ≤ p * s := Int.mul_nonneg (hp p (by simp)) (by have := hs s (by simp); omega)
    show 0 ≤ p * s + amt ss ps
    omega
theorem amt_take : ∀ {ss ps : List Int} {k : Nat} {s p : Int}, ss[k]? = some s → ps[k]? = some p → amt (ss.take (k + 1)) (ps.take (k + 1)) = amt (ss.take k) (ps.take k) + p * s
  | [], _, k, s, p, h, _ => by simp at h
  | _ :: _, [], k, s, p, _, h => by simp at h
  | a :: ss, b :: ps, 0, s, p, h, h' => by
    simp at h h'
    subst h h'
    simp [amt]
  | a :: ss, b :: ps, k + 1, s, p, h, h' => by
    simp at h h'
    have := amt_take h h'
    show b * a + amt (ss.take (k + 1)) (ps.take (k + 1)) = b * a + amt (ss.take k) (ps.take k) + p * s
    omega
theorem amt_take_le {ss ps : List Int} (hs : ∀ s ∈ ss, 1 ≤ s) (hp : ∀ p ∈ ps, 0 ≤ p) : ∀ k, amt (ss.take k) (ps.take k) ≤ amt ss ps := by
  intro k
  induction ss generalizing ps k with
  | nil => simp [amt]
  | cons s ss ih =>
    cases ps with
    | nil =>
      cases k <;> simp [amt]
    | cons p ps =>
      cases k with
      | zero => simpa [amt] using amt_nonneg hs hp
      | succ k =>
        have := ih (ps := ps) (fun x hx => hs x (by simp [hx])) (fun x hx => hp x (by simp [hx])) k
        show p * s + amt (ss.take k) (ps.take k) ≤ p * s + amt ss ps
        omega
theorem amt_full {ss ps : List Int} {n : Nat} (h1 : ss.length ≤ n) (h2 : ps.length ≤ n) : amt (ss.take n) (ps.take n) = amt ss ps := by
  rw [List.take_of_length_le h1, List.take_of_length_le h2]

/-- Are the units valid, and the parts for them? -/
def arg (us : List Un) (ps : List Int) : Bool := chk us && decide (ps.length = us.length) && !(ps.any (fun p => decide (p < 0)))
theorem arg_facts {us : List Un} {ps : List Int} (h : arg us ps = true) : chk us = true ∧ ps.length = us.length ∧ ∀ p ∈ ps, 0 ≤ p := by
  unfold arg at h
  simp only [Bool.and_eq_true, decide_eq_true_eq, Bool.not_eq_true', List.any_eq_false] at h
  exact ⟨h.1.1, h.1.2, fun p hp => by have := h.2 p hp; omega⟩
theorem arg_of {us : List Un} {ps : List Int} (h : chk us = true) (hl : ps.length = us.length) (hp : ∀ p ∈ ps, 0 ≤ p) : arg us ps = true := by
  unfold arg
  simp only [Bool.and_eq_true, decide_eq_true_eq, Bool.not_eq_true', List.any_eq_false]
  exact ⟨⟨h, hl⟩, fun p hx => by have := hp p hx; omega⟩
def szs (us : List Un) : List Int := us.map (·.2)

/-- Join: the number and the error. -/
def joinV (us : List Un) (ps : List Int) : Int × Int := if arg us ps then if amt (szs us) ps ≤ maxC then (amt (szs us) ps, 0) else (0, 2) else (0, 1)
/-- Split: the parts and the error. -/
def splitV (us : List Un) (n : Int) : List Int × Int := if chk us && decide (0 ≤ n) then if n ≤ maxC then (parts (szs us) n, 0) else ([], 2) else ([], 1)
/-- Convert. -/
def convV (us vs : List Un) (ps : List Int) : List Int × Int := if chk vs then if (joinV us ps).2 = 0 then splitV vs (joinV us ps).1 else ([], (joinV us ps).2) else ([], 1)
def normB (us : List Un) (ps : List Int) : Bool := decide ((convV us us ps).2 = 0) && decide (ps = (convV us us ps).1)
/-- Both amounts and the error. -/
def bothV (us : List Un) (p q : List Int) : Int × Int × Int :=
  if (joinV us p).2 = 1 ∨ (joinV us q).2 = 1 then (0, 0, 1) else if (joinV us p).2 = 0 ∧ (joinV us q).2 = 0 then ((joinV us p).1, (joinV us q).1, 0) else (0, 0, 2)
def cmpI (a b : Int) : Int := if a < b then -1 else if b < a then 1 else 0
def addV (us : List Un) (p q : List Int) : List Int × Int := if (bothV us p q).2.2 = 0 then splitV us ((bothV us p q).1 + (bothV us p q).2.1) else ([], (bothV us p q).2.2)

theorem joinV_cases (us : List Un) (ps : List Int) : (arg us ps = false ∧ joinV us ps = (0, 1)) ∨ (arg us ps = true ∧ maxC < amt (szs us) ps ∧ joinV us ps = (0, 2)) ∨ (arg us ps = true ∧ 0 ≤ amt (szs us) ps ∧ amt (szs us) ps ≤ maxC ∧ joinV us ps = (amt (szs us) ps, 0)) := by
  unfold joinV
  cases h : arg us ps
  · exact .inl ⟨rfl, rfl⟩
  · by_cases h1 : amt (szs us) ps ≤ maxC
    · have hf := arg_facts h
      exact .inr (.inr ⟨rfl, amt_nonneg (fun s hs => ((chk_sizes hf.1).mem hs).1) hf.2.2, h1, by simp [h1]⟩)
    · exact .inr (.inl ⟨rfl, by omega, by simp [h1]⟩)
theorem joinV_range (us : List Un) (ps : List Int) : 0 ≤ (joinV us ps).1 ∧ (joinV us ps).1 ≤ maxC := by
  rcases joinV_cases us ps with ⟨_, h⟩ | ⟨_, _, h⟩ | ⟨_, h0, h1, h⟩ <;> rw [h] <;> simp_all [maxC]
theorem joinV_chk {us : List Un} {ps : List Int} (h : (joinV us ps).2 = 0) : chk us = true ∧ arg us ps = true ∧ joinV us ps = (amt (szs us) ps, 0) := by
  rcases joinV_cases us ps with ⟨_, e⟩ | ⟨_, _, e⟩ | ⟨ha, h0, h1, e⟩
  · rw [e] at h; simp at h
  · rw [e] at h; simp at h
  · exact ⟨(arg_facts ha).1, ha, e⟩
theorem splitV_ok {us : List Un} {n : Int} (h : chk us = true) (h0 : 0 ≤ n) (h1 : n ≤ maxC) : splitV us n = (parts (szs us) n, 0) := by
  unfold splitV
  rw [h, decide_eq_true h0]
  simp [h1]
theorem splitV_inv {us : List Un} {n : Int} (h : (splitV us n).2 = 0) : chk us = true ∧ 0 ≤ n ∧ n ≤ maxC := by
  unfold splitV at h
  split at h
  · rename_i hc
    simp only [Bool.and_eq_true, decide_eq_true_eq] at hc
    split at h
    · exact ⟨hc.1, hc.2, by assumption⟩
    · simp at h
  · simp at h
/-- JOIN INVERTS SPLIT. -/
theorem join_split {us : List Un} {n : Int} (h : chk us = true) (h0 : 0 ≤ n) (h1 : n ≤ maxC) : joinV us (parts (szs us) n) = (n, 0) := by
  have hs := chk_sizes h
  have ha : arg us (parts (szs us) n) = true := arg_of h (by rw [parts_len]; simp [szs]) (parts_nonneg h0 (fun s hx => (hs.mem hx).1))
  unfold joinV
  rw [ha, show amt (szs us) (parts (szs us) n) = n from amt_parts hs]
  simp [h1]
theorem norm_iff {us : List Un} {ps : List Int} : normB us ps = true ↔ (joinV us ps).2 = 0 ∧ ps = parts (szs us) (joinV us ps).1 := by
  unfold normB convV
  simp only [Bool.and_eq_true, decide_eq_true_eq]
  constructor
  · intro h
    cases hc : chk us
    · rw [hc] at h; simp at h
    · rw [hc] at h
      by_cases hj : (joinV us ps).2 = 0
      · have hr := joinV_range us ps
        rw [if_pos rfl, if_pos hj, splitV_ok hc hr.1 hr.2] at h
        exact ⟨hj, h.2⟩
      · rw [if_pos rfl, if_neg hj] at h
        exact absurd h.1 hj
  · intro ⟨hj, hp⟩
    have hr := joinV_range us ps
    rw [(joinV_chk hj).1, if_pos rfl, if_pos hj, splitV_ok (joinV_chk hj).1 hr.1 hr.2]
    exact ⟨rfl, hp⟩
theorem norm_split {us : List Un} {n : Int} (h : chk us = true) (h0 : 0 ≤ n) (h1 : n ≤ maxC) : normB us (parts (szs us) n) = true := by
  rw [norm_iff, join_split h h0 h1]
  exact ⟨rfl, rfl⟩

/-- What the units below one hold is what is left behind it. -/
theorem prefix_rem : ∀ (ss : List Int) (n : Int) (k : Nat), k ≤ ss.length → amt (ss.take k) ((parts ss n).take k) = (divs (ss.drop k) n).2 - (divs ss n).2
  | ss, n, 0, _ => by simp [amt]
  | [], n, k + 1, h => by simp at h
  | s :: ss, n, k + 1, h => by
    have h1 := prefix_rem ss n k (by simpa using h)
    show (divs ss n).2 / s * s + amt (ss.take k) ((parts ss n).take k) = (divs (ss.drop k) n).2 - (divs ss n).2 % s
    have h2 := Int.mul_ediv_add_emod (divs ss n).2 s
    rw [Int.mul_comm] at h2
    omega
/-- OF NORMAL PARTS, WHAT THE UNITS BELOW ONE HOLD IS LESS THAN THIS UNIT. -/
theorem below_unit {ss : List Int} (h : Sizes ss) {n : Int} {k : Nat} {s : Int} (hk : ss[k]? = some s) : amt (ss.take k) ((parts ss n).take k) < s := by
  have hlt : k < ss.length := (List.getElem?_eq_some_iff.1 hk).1
  have hb := (h.mem (List.mem_of_getElem? hk)).1
  have h0 : (divs ss n).2 = 0 := by
    match ss, h with
    | a :: ss, h =>
      have h0 : a = 1 := h.one
      subst h0
      show (divs ss n).2 % 1 = 0
      omega
    | [], h => have := h.ne; simp at this
  rw [prefix_rem ss n k (by omega), h0]
  rw [List.drop_eq_getElem_cons hlt, show ss[k] = s from (List.getElem?_eq_some_iff.1 hk).2]
  show (divs (ss.drop (k + 1)) n).2 % s - 0 < s
  have := Int.emod_lt_of_pos (divs (ss.drop (k + 1)) n).2 (show 0 < s by omega)
  omega

/-- The sum from an index on. -/
theorem amt_split : ∀ (ss ps : List Int) (k : Nat), amt ss ps = amt (ss.take k) (ps.take k) + amt (ss.drop k) (ps.drop k)
  | ss, ps, 0 => by simp [amt]
  | [], ps, k + 1 => by simp [amt]
  | s :: ss, [], k + 1 => by
    simp only [List.take_nil, List.drop_nil]
    cases (s :: ss).take (k + 1) <;> cases (s :: ss).drop (k + 1) <;> simp [amt]
  | s :: ss, p :: ps, k + 1 => by
    show p * s + amt ss ps = p * s + amt (ss.take k) (ps.take k) + amt (ss.drop k) (ps.drop k)
    rw [amt_split ss ps k]
    omega
/-- Equal parts above an index, a smaller one there: the amount is smaller. -/
theorem amt_lt {ss ps qs : List Int} {k : Nat} {s p q : Int} (hs : ∀ s ∈ ss, 1 ≤ s) (hq : ∀ q ∈ qs, 0 ≤ q) (h : ss[k]? = some s) (hpk : ps[k]? = some p) (hqk : qs[k]? = some q) (hb : amt (ss.take k) (ps.take k) < s) (hab : ps.drop (k + 1) = qs.drop (k + 1)) (hlt : p < q) : amt ss ps < amt ss qs := by
  rw [amt_split ss ps (k + 1), amt_split ss qs (k + 1), hab, amt_take h hpk, amt_take h hqk]
  have h0 : 0 ≤ amt (ss.take k) (qs.take k) := amt_nonneg (fun x hx => hs x (List.mem_of_mem_take hx)) (fun x hx => hq x (List.mem_of_mem_take hx))
  have hs1 := hs s (List.mem_of_getElem? h)
  have h1 : (p + 1) * s ≤ q * s := Int.mul_le_mul_of_nonneg_right (by omega) (by omega)
  rw [Int.add_mul] at h1
  omega
theorem cmpI_neg (a b : Int) : cmpI a b = -cmpI b a := by
  unfold cmpI
  by_cases h1 : a < b
  · rw [if_pos h1, if_neg (by omega : ¬ b < a), if_pos h1]
  · by_cases h2 : b < a
    · rw [if_neg h1, if_pos h2, if_pos h2]; rfl
    · rw [if_neg h1, if_neg h2, if_neg h2, if_neg h1]; rfl
theorem both_swap (us : List Un) (p q : List Int) : bothV us q p = ((bothV us p q).2.1, (bothV us p q).1, (bothV us p q).2.2) := by
  unfold bothV
  by_cases h1 : (joinV us p).2 = 1 ∨ (joinV us q).2 = 1
  · rw [if_pos h1, if_pos h1.symm]
  · rw [if_neg h1, if_neg (fun h => h1 h.symm)]
    by_cases h2 : (joinV us p).2 = 0 ∧ (joinV us q).2 = 0
    · rw [if_pos h2, if_pos h2.symm]
    · rw [if_neg h2, if_neg (fun h => h2 h.symm)]
theorem both_range (us : List Un) (p q : List Int) : 0 ≤ (bothV us p q).1 ∧ (bothV us p q).1 ≤ maxC ∧ 0 ≤ (bothV us p q).2.1 ∧ (bothV us p q).2.1 ≤ maxC := by
  have h1 := joinV_range us p
  have h2 := joinV_range us q
  unfold bothV
  split
  · simp [maxC]
  · split
    · exact ⟨h1.1, h1.2, h2.1, h2.2⟩
    · simp [maxC]
end Go.Proofs.Yteknfigpjhngfaa.MeasPlain
