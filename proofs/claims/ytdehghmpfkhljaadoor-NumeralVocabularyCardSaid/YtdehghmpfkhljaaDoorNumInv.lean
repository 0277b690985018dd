/-
  Plain mathematics: what Parse computes finds every number with the words. 'raw': what the closures append; a number is in it exactly if it has the words and needs no more than the first k powers. Conditions: the system is valid ('Ok').
-/
import Derived.Test.YtdehghmpfkhljaaDoorNumKeep8
import Derived.Lib.SlicesCompact
namespace Go.Proofs.YtdehghmpfkhljaaDoor
open Go.RowKit
open NumPlain

/-- What eachHead appends for a head of s tokens. -/
def hdC (x : Nm) (toks : List BA) (ix : Nat) (p : Int) (N : List BA → List Int) (f : Int → List Int) (s : Nat) : List Int :=
  if s ≤ toks.length ∧ (headD x toks s).getD (s - 1) ByteArray.empty = x.ps.getD ix ByteArray.empty then
    (if s = 1 then (remP x N (restD x toks s)).flatMap (fun r => f (1 * p + r))
    else (digC x ((headD x toks s).getD 0 ByteArray.empty)).flatMap (fun q => (remP x N (restD x toks s)).flatMap (fun r => f (q * p + r))))
  else []
/-- What eachHead appends. -/
def headC (x : Nm) (toks : List BA) (ix : Nat) (p : Int) (N : List BA → List Int) (f : Int → List Int) : List Int := hdC x toks ix p N f 1 ++ hdC x toks ix p N f 2
def pw (x : Nm) (ix : Nat) : Int := ((bs x ^ (ix + 1) : Nat) : Int)
/-- What the rounds over the powers from i on append. -/
def roundsC (x : Nm) (toks : List BA) (N : Nat → List BA → List Int) (f : Int → List Int) : Nat → List Int
  | 0 => []
  | i + 1 => roundsC x toks N f i ++ (subC x toks i (pw x i) f ++ headC x toks i (pw x i) (N i) f)
/-- What numbers appends, where N i are the numbers with the first i powers. -/
def rawC (x : Nm) (N : Nat → List BA → List Int) (k : Nat) (toks : List BA) : List Int :=
  (if toks.length = 1 then (digC x (toks.getD 0 ByteArray.empty)).flatMap (keepP x toks) else []) ++ roundsC x toks N (keepP x toks) k
/-- The numbers with the words that need no more than the first k powers, ascending. -/
def numL (x : Nm) (k : Nat) (toks : List BA) : List Int := ((List.range 10000).filter (fun n => decide (n < bs x ^ (k + 1) ∧ wordsB x n = toks))).map Int.ofNat
theorem numL_mem {x : Nm} {k : Nat} {toks : List BA} {z : Int} : z ∈ numL x k toks ↔ ∃ n : Nat, z = (n : Int) ∧ n < 10000 ∧ n < bs x ^ (k + 1) ∧ wordsB x n = toks := by
  unfold numL
  simp only [List.mem_map, List.mem_filter, List.mem_range, decide_eq_true_eq]
  constructor
  · rintro ⟨n, ⟨h1, h2, h3⟩, rfl⟩; exact ⟨n, rfl, h1, h2, h3⟩
  · rintro ⟨n, rfl, h1, h2, h3⟩; exact ⟨n, ⟨h1, h2, h3⟩, rfl⟩
theorem digs_mem (x : Nm) (s : BA) : ∀ (k : Nat) (z : Int), z ∈ digs x s k ↔ ∃ j : Nat, j < k ∧ z = (j : Int) ∧ x.ds.getD j ByteArray.empty = s
  | 0, z => by simp [digs]
  | k + 1, z => by
    rw [digs, List.mem_append, digs_mem x s k z]
    constructor
    · rintro (⟨j, h1, h2, h3⟩ | h)
      · exact ⟨j, by omega, h2, h3⟩
      · by_cases e : x.ds.getD k ByteArray.empty = s
        · rw [if_pos e] at h
          exact ⟨k, by omega, by simpa using h, e⟩
        · rw [if_neg e] at h; cases h
    · rintro ⟨j, h1, h2, h3⟩
      by_cases e : j = k
      · subst e; right; rw [if_pos h3]; simp [h2]
      · left; exact ⟨j, by omega, h2, h3⟩
theorem digC_mem {x : Nm} {s : BA} {z : Int} : z ∈ digC x s ↔ ∃ j : Nat, j < x.ds.length ∧ z = (j : Int) ∧ x.ds.getD j ByteArray.empty = s := digs_mem x s _ z
theorem keepP_mem {x : Nm} {toks : List BA} {z y : Int} : y ∈ keepP x toks z ↔ y = z ∧ 0 ≤ z ∧ z ≤ 9999 ∧ wordsB x z.toNat = toks := by
  unfold keepP
  by_cases h : 0 ≤ z ∧ z ≤ 9999 ∧ wordsB x z.toNat = toks
  · rw [if_pos h]; simp [h]
  · rw [if_neg h]
    constructor
    · intro k; cases k
    · rintro ⟨_, k⟩; exact absurd k h

/-- What is known of the lists of a system. -/
structure Len (x : Nm) : Prop where
  ok : Ok x
  ds : x.ds.length = bs x
  ps : x.ps.length = 3
theorem Len.b {x : Nm} (h : Len x) : bs x = 10 ∨ bs x = 20 := h.ok.bs
theorem Len.pow {x : Nm} (h : Len x) (i : Nat) : 10 ≤ bs x ^ (i + 1) := by
  have := h.b
  have h1 : 1 ≤ bs x ^ i := Nat.one_le_pow _ _ (by omega)
  rw [Nat.pow_succ]
  calc 10 ≤ 1 * bs x := by omega
    _ ≤ bs x ^ i * bs x := Nat.mul_le_mul_right _ h1
theorem pow_up {b i k : Nat} (hb : 1 ≤ b) (h : i ≤ k) : b ^ i ≤ b ^ k := Nat.pow_le_pow_right hb h
theorem dig_one {x : Nm} (h : Len x) {n : Nat} (hn : n < bs x) : dig x n = [x.ds.getD n ByteArray.empty] := by
  have hm : x.ds.getD n ByteArray.empty ∈ x.ds := by
    rw [List.getD_eq_getElem?_getD, List.getElem?_eq_getElem (by rw [h.ds]; exact hn)]
    exact List.getElem_mem _
  have hne := tok_ne (h.ok.td _ hm)
  unfold dig
  rw [col_cons, col_nil, List.append_nil, List.filter_cons, if_pos hne]
  rfl
theorem pow_one {x : Nm} (h : Len x) {i : Nat} (hi : i < 3) : neB (x.ps.getD i ByteArray.empty) = true := by
  have hm : x.ps.getD i ByteArray.empty ∈ x.ps := by
    rw [List.getD_eq_getElem?_getD, List.getElem?_eq_getElem (by rw [h.ps]; exact hi)]
    exact List.getElem_mem _
  exact tok_ne (h.ok.tp _ hm)
theorem head_two {x : Nm} (h : Len x) {q i : Nat} (hq : q < bs x) (hi : i < 3) (hc : 1 < q ∨ x.om = false) : headW x q i = [x.ds.getD q ByteArray.empty, x.ps.getD i ByteArray.empty] := by
  unfold headW
  rw [if_pos hc, dig_one h hq, col_cons, col_cons, col_nil, List.append_nil]
  have h1 := dig_one h hq
  have h2 : [x.ds.getD q ByteArray.empty].filter neB = [x.ds.getD q ByteArray.empty] := by
    have := col_keep [[x.ds.getD q ByteArray.empty]]
    unfold dig at h1
    rw [h1] at this
    exact this
  rw [h2, List.filter_cons, if_pos (pow_one h hi)]
  rfl
theorem head_one {x : Nm} {q i : Nat} (hc : ¬ (1 < q ∨ x.om = false)) : headW x q i = [x.ps.getD i ByteArray.empty] := if_neg hc
/-- The words at the level of a number. -/
theorem W_top {x : Nm} {n : Nat} : ∀ {j k : Nat}, j ≤ k → n < bs x ^ (j + 1) → W x k n = W x j n
  | j, 0, h, _ => by
    have e : j = 0 := by omega
    rw [e]
  | j, k + 1, h, hn => by
    by_cases e : j = k + 1
    · rw [e]
    · have hb : 1 ≤ bs x := by
        rcases Nat.eq_zero_or_pos (bs x) with h0 | h0
        · rw [h0, Nat.zero_pow (by omega)] at hn; omega
        · exact h0
      rw [W_low (Nat.lt_of_lt_of_le hn (pow_up hb (by omega)))]
      exact W_top (by omega) hn
theorem keep_in {x : Nm} {toks : List BA} {n : Nat} (h : n < 10000) (hw : wordsB x n = toks) : (n : Int) ∈ keepP x toks (n : Int) := by
  rw [keepP_mem]
  exact ⟨rfl, by omega, by omega, by simpa using hw⟩
/-- The words of a number are not none. -/
theorem W_ne {x : Nm} (h : Len x) : ∀ (k n : Nat), k ≤ 3 → n < bs x ^ (k + 1) → W x k n ≠ []
  | 0, n, _, hn => by
    rw [W, dig_one h (by simpa using hn)]; simp
  | k + 1, n, hk, hn => by
    have hb := h.b
    rw [W]
    by_cases h1 : n < bs x ^ (k + 1)
    · rw [if_pos h1]; exact W_ne h k n (by omega) h1
    · rw [if_neg h1]
      have hp := h.pow k
      have hq : n / bs x ^ (k + 1) < bs x := by
        rw [Nat.div_lt_iff_lt_mul (by omega)]
        rw [show k + 1 + 1 = (k + 1) + 1 from rfl, Nat.pow_succ, Nat.mul_comm] at hn
        exact hn
      have hne : ∀ q, q < bs x → headW x q k ≠ [] := fun q hq => by
        by_cases hc : 1 < q ∨ x.om = false
        · rw [head_two h hq (by omega) hc]; simp
        · rw [head_one hc]; simp
      have hkp : ∀ q, q < bs x → (headW x q k).filter neB = headW x q k := fun q hq => by
        by_cases hc : 1 < q ∨ x.om = false
        · unfold headW; rw [if_pos hc]; exact col_keep _
        · rw [head_one hc, List.filter_cons, if_pos (pow_one h (by omega))]; rfl
      by_cases h2 : 0 < x.sub ∧ bs x ^ (k + 1) ≤ n % bs x ^ (k + 1) + x.sub.toNat ∧ n / bs x ^ (k + 1) + 1 < bs x
      · rw [if_pos h2, col_cons, col_cons, col_cons, col_nil, List.append_nil, col_keep, col_cons, col_nil, List.append_nil, hkp _ h2.2.2]
        intro e
        exact hne _ h2.2.2 (List.append_eq_nil_iff.1 (List.append_eq_nil_iff.1 e).2).2
      · rw [if_neg h2]
        by_cases h3 : n % bs x ^ (k + 1) = 0
        · rw [if_pos h3, col_cons, col_nil, List.append_nil, hkp _ hq]; exact hne _ hq
        · rw [if_neg h3]
          cases x.sf
          · rw [if_neg (by simp), col_cons, hkp _ hq]
            intro e
            exact hne _ hq (List.append_eq_nil_iff.1 e).1
          · rw [if_pos rfl, col_cons, col_cons, col_cons, col_nil, List.append_nil, hkp _ hq]
            intro e
            exact hne _ hq (List.append_eq_nil_iff.1 (List.append_eq_nil_iff.1 e).2).2
theorem W_keep {x : Nm} : ∀ (k n : Nat), (W x k n).filter neB = W x k n
  | 0, n => by rw [W]; exact col_keep _
  | k + 1, n => by
    rw [W]
    split
    · exact W_keep k n
    · split
      · exact col_keep _
      · split
        · exact col_keep _
        · split <;> exact col_keep _
theorem headD_app {x : Nm} {hd R toks : List BA} (h : toks = if x.sf then R ++ hd else hd ++ R) : headD x toks hd.length = hd ∧ restD x toks hd.length = R := by
  subst h
  unfold headD restD
  cases x.sf
  · simp
  · simp
theorem rem_mem {x : Nm} {i : Nat} {r : Nat} {R : List BA} (h : Len x) (hi : i < 3) (hr : r < bs x ^ (i + 1)) (hr2 : r < 10000) (hR : R = if r = 0 then [] else if x.sf then W x i r ++ [x.jo].filter neB else [x.jo].filter neB ++ W x i r) : (r : Int) ∈ remP x (numL x i) R := by
  unfold remP
  by_cases e : r = 0
  · rw [if_pos e] at hR
    subst hR e
    simp
  · rw [if_neg e] at hR
    have hn := W_ne h i r (by omega) hr
    have hw : wordsB x r = W x i r := W_top (by omega) hr
    have hm : (r : Int) ∈ numL x i (W x i r) := numL_mem.2 ⟨r, rfl, hr2, hr, hw⟩
    have hl : R.length ≠ 0 := by
      intro k
      have hR0 : R = [] := List.length_eq_zero_iff.1 k
      rw [hR0] at hR
      cases hs : x.sf <;> rw [hs] at hR
      · exact hn (List.append_eq_nil_iff.1 hR.symm).2
      · exact hn (List.append_eq_nil_iff.1 hR.symm).1
    rw [if_neg hl]
    by_cases hj : x.jo.size = 0
    · rw [if_pos hj]
      have hf : [x.jo].filter neB = [] := by simp [neB, hj]
      rw [hf] at hR
      cases hs : x.sf <;> rw [hs] at hR <;> simp at hR <;> rw [hR] <;> exact hm
    · rw [if_neg hj]
      have hf : [x.jo].filter neB = [x.jo] := by simp [neB, hj]
      rw [hf] at hR
      obtain ⟨a, b⟩ := headD_app (x := x) (hd := [x.jo]) (R := W x i r) (toks := R) hR
      rw [List.length_singleton] at a b
      rw [a, b]
      simpa using hm
/-- The head's form. -/
theorem hd_mem {x : Nm} {i n : Nat} {toks : List BA} (h : Len x) (hi : i < 3) (hn : n < 10000) (h1 : bs x ^ (i + 1) ≤ n) (h2 : n < bs x ^ (i + 1 + 1)) (hw : wordsB x n = toks)
    (hns : ¬ (0 < x.sub ∧ bs x ^ (i + 1) ≤ n % bs x ^ (i + 1) + x.sub.toNat ∧ n / bs x ^ (i + 1) + 1 < bs x)) : (n : Int) ∈ headC x toks i (pw x i) (numL x i) (keepP x toks) := by
  have hp := h.pow i
  have hq : n / bs x ^ (i + 1) < bs x := by
    rw [Nat.div_lt_iff_lt_mul (by omega), Nat.mul_comm, ← Nat.pow_succ]; exact h2
  have hq1 : 1 ≤ n / bs x ^ (i + 1) := (Nat.one_le_div_iff (by omega)).2 h1
  have hr : n % bs x ^ (i + 1) < bs x ^ (i + 1) := Nat.mod_lt _ (by omega)
  have hr2 : n % bs x ^ (i + 1) < 10000 := Nat.lt_of_le_of_lt (Nat.mod_le _ _) hn
  have hdm : n / bs x ^ (i + 1) * bs x ^ (i + 1) + n % bs x ^ (i + 1) = n := by rw [Nat.mul_comm]; exact Nat.div_add_mod _ _
  have hW : toks = W x (i + 1) n := by rw [← hw]; exact W_top (by omega) h2
  rw [W, if_neg (by omega), if_neg hns] at hW
  have hkp : (headW x (n / bs x ^ (i + 1)) i).filter neB = headW x (n / bs x ^ (i + 1)) i := by
    by_cases hc : 1 < n / bs x ^ (i + 1) ∨ x.om = false
    · unfold headW; rw [if_pos hc]; exact col_keep _
    · rw [head_one hc, List.filter_cons, if_pos (pow_one h hi)]; rfl
  obtain ⟨R, hR⟩ : ∃ R, R = if n % bs x ^ (i + 1) = 0 then [] else if x.sf then W x i (n % bs x ^ (i + 1)) ++ [x.jo].filter neB else [x.jo].filter neB ++ W x i (n % bs x ^ (i + 1)) := ⟨_, rfl⟩
  have hT : toks = if x.sf then R ++ headW x (n / bs x ^ (i + 1)) i else headW x (n / bs x ^ (i + 1)) i ++ R := by
    rw [hW]
    by_cases e : n % bs x ^ (i + 1) = 0
    · rw [if_pos e] at hR ⊢
      rw [hR, col_cons, col_nil, List.append_nil, hkp]
      cases x.sf <;> simp
    · rw [if_neg e] at hR ⊢
      cases hs : x.sf <;> rw [hs] at hR
      · rw [if_neg (by simp), if_neg (by simp), hR, if_neg (by simp), col_cons, col_cons, col_cons, col_nil, List.append_nil, hkp, W_keep]
      · rw [if_pos rfl, if_pos rfl, hR, if_pos rfl, col_cons, col_cons, col_cons, col_nil, List.append_nil, hkp, W_keep, List.append_assoc]
  have hrm := rem_mem h hi hr hr2 hR
  have hk := keep_in hn hw
  clear hW hR hns
  generalize n / bs x ^ (i + 1) = q at *
  generalize n % bs x ^ (i + 1) = r at *
  have hpz : (q : Int) * pw x i + (r : Int) = (n : Int) := by unfold pw; rw [← hdm]; push_cast; rfl
  unfold headC
  rw [List.mem_append]
  obtain ⟨a, b⟩ := headD_app hT
  by_cases hc : 1 < q ∨ x.om = false
  · right
    have h2h := head_two h hq hi hc
    have hl : (headW x q i).length = 2 := by rw [h2h]; rfl
    rw [hl] at a b
    unfold hdC
    rw [if_pos ⟨by rw [hT]; cases x.sf <;> simp [hl] <;> omega, by rw [a, h2h]; rfl⟩, if_neg (by decide), a, b, h2h]
    refine List.mem_flatMap.2 ⟨(q : Int), digC_mem.2 ⟨q, by rw [h.ds]; exact hq, rfl, rfl⟩, List.mem_flatMap.2 ⟨(r : Int), hrm, ?_⟩⟩
    rw [hpz]; exact hk
  · left
    have h1h := head_one (x := x) (q := q) (i := i) hc
    have hl : (headW x q i).length = 1 := by rw [h1h]; rfl
    have hq1' : q = 1 := by omega
    rw [hl] at a b
    unfold hdC
    rw [if_pos ⟨by rw [hT]; cases x.sf <;> simp [hl] <;> omega, by rw [a, h1h]; rfl⟩, if_pos rfl, b]
    refine List.mem_flatMap.2 ⟨(r : Int), hrm, ?_⟩
    rw [hq1'] at hpz
    rw [show (1 : Int) * pw x i + (r : Int) = (n : Int) from hpz]
    exact hk
/-- The form of a subtraction. -/
theorem sub_mem {x : Nm} {i n : Nat} {toks : List BA} (h : Len x) (hi : i < 3) (hn : n < 10000) (h1 : bs x ^ (i + 1) ≤ n) (h2 : n < bs x ^ (i + 1 + 1)) (hw : wordsB x n = toks)
    (hs : 0 < x.sub ∧ bs x ^ (i + 1) ≤ n % bs x ^ (i + 1) + x.sub.toNat ∧ n / bs x ^ (i + 1) + 1 < bs x) : (n : Int) ∈ subC x toks i (pw x i) (keepP x toks) := by
  have hp := h.pow i
  have hq1 : 1 ≤ n / bs x ^ (i + 1) := (Nat.one_le_div_iff (by omega)).2 h1
  have hr : n % bs x ^ (i + 1) < bs x ^ (i + 1) := Nat.mod_lt _ (by omega)
  have hdm : n / bs x ^ (i + 1) * bs x ^ (i + 1) + n % bs x ^ (i + 1) = n := by rw [Nat.mul_comm]; exact Nat.div_add_mod _ _
  have hW : toks = W x (i + 1) n := by rw [← hw]; exact W_top (by omega) h2
  rw [W, if_neg (by omega), if_pos hs] at hW
  have hk := keep_in hn hw
  obtain ⟨s0, s1, s2⟩ := hs
  have hsb : x.sub.toNat < bs x := by
    have := h.ok.sub1; have := h.ok.sub0; have := h.ok.base
    unfold bs; omega
  generalize n / bs x ^ (i + 1) = q at *
  generalize n % bs x ^ (i + 1) = r at *
  have hm : bs x ^ (i + 1) - r < bs x := by omega
  have hle : [x.le].filter neB = [x.le] := by
    have := h.ok.le s0
    simp [neB, this]
  have hd := dig_one h hm
  have h2h := head_two h s2 hi (Or.inl (by omega))
  have hT : toks = [x.ds.getD (bs x ^ (i + 1) - r) ByteArray.empty, x.le, x.ds.getD (q + 1) ByteArray.empty, x.ps.getD i ByteArray.empty] := by
    have hkd : (dig x (bs x ^ (i + 1) - r)).filter neB = dig x (bs x ^ (i + 1) - r) := col_keep _
    have hkh : (headW x (q + 1) i).filter neB = headW x (q + 1) i := by unfold headW; rw [if_pos (Or.inl (by omega))]; exact col_keep _
    rw [hW, col_cons, col_cons, col_cons, col_nil, List.append_nil, hkd, hle, col_keep, col_cons, col_nil, List.append_nil, hkh, hd, h2h]
    rfl
  have hpz : ((q + 1 : Nat) : Int) * pw x i - ((bs x ^ (i + 1) - r : Nat) : Int) = (n : Int) := by
    have e : ((bs x ^ (i + 1) - r : Nat) : Int) = pw x i - (r : Int) := by unfold pw; omega
    rw [e, ← hdm]
    unfold pw
    push_cast
    rw [Int.add_mul, Int.one_mul]
    omega
  unfold subC
  rw [if_pos ⟨by rw [hT]; rfl, by rw [hT]; rfl, by rw [hT]; rfl⟩]
  refine List.mem_flatMap.2 ⟨((q + 1 : Nat) : Int), digC_mem.2 ⟨q + 1, by rw [h.ds]; exact s2, rfl, by rw [hT]; rfl⟩, List.mem_flatMap.2 ⟨((bs x ^ (i + 1) - r : Nat) : Int), digC_mem.2 ⟨_, by rw [h.ds]; exact hm, rfl, by rw [hT]; rfl⟩, ?_⟩⟩
  rw [hpz]; exact hk
theorem rounds_mem {x : Nm} {toks : List BA} {N : Nat → List BA → List Int} {f : Int → List Int} {z : Int} : ∀ {k : Nat}, z ∈ roundsC x toks N f k ↔ ∃ i, i < k ∧ (z ∈ subC x toks i (pw x i) f ∨ z ∈ headC x toks i (pw x i) (N i) f)
  | 0 => by simp [roundsC]
  | k + 1 => by
    rw [roundsC, List.mem_append, List.mem_append, rounds_mem]
    constructor
    · rintro (⟨i, h1, h2⟩ | h)
      · exact ⟨i, by omega, h2⟩
      · exact ⟨k, by omega, h⟩
    · rintro ⟨i, h1, h2⟩
      by_cases e : i = k
      · subst e; exact .inr h2
      · exact .inl ⟨i, by omega, h2⟩
/-- Where the number lies among the powers. -/
theorem level {x : Nm} (h : Len x) {n : Nat} : ∀ {k : Nat}, bs x ≤ n → n < bs x ^ (k + 1) → ∃ i, i < k ∧ bs x ^ (i + 1) ≤ n ∧ n < bs x ^ (i + 1 + 1)
  | 0, h1, h2 => by rw [Nat.zero_add, Nat.pow_one] at h2; omega
  | k + 1, h1, h2 => by
    by_cases e : n < bs x ^ (k + 1)
    · obtain ⟨i, a, b, c⟩ := level h h1 e
      exact ⟨i, by omega, b, c⟩
    · exact ⟨k, by omega, by omega, h2⟩
/-- Every number with the words is found. -/
theorem raw_complete {x : Nm} (h : Len x) {k : Nat} (hk : k ≤ 3) {toks : List BA} {z : Int} (hz : z ∈ numL x k toks) : z ∈ rawC x (numL x) k toks := by
  obtain ⟨n, rfl, h1, h2, h3⟩ := numL_mem.1 hz
  unfold rawC
  rw [List.mem_append]
  by_cases hb : n < bs x
  · left
    have hW : toks = [x.ds.getD n ByteArray.empty] := by
      rw [← h3, ← dig_one h hb]
      exact W_top (j := 0) (by omega) (by simpa using hb)
    rw [if_pos (by rw [hW]; rfl)]
    exact List.mem_flatMap.2 ⟨(n : Int), digC_mem.2 ⟨n, by rw [h.ds]; exact hb, rfl, by rw [hW]; rfl⟩, keep_in h1 h3⟩
  · right
    obtain ⟨i, a, b, c⟩ := level h (by omega) h2
    refine rounds_mem.2 ⟨i, a, ?_⟩
    by_cases hs : 0 < x.sub ∧ bs x ^ (i + 1) ≤ n % bs x ^ (i + 1) + x.sub.toNat ∧ n / bs x ^ (i + 1) + 1 < bs x
    · exact .inl (sub_mem h (by omega) h1 b c h3 hs)
    · exact .inr (hd_mem h (by omega) h1 b c h3 hs)

/-! Nothing else is found. -/
theorem dig_lt {x : Nm} (h : Len x) {s : BA} {z : Int} (hz : z ∈ digC x s) : 0 ≤ z ∧ z < (bs x : Int) := by
  obtain ⟨j, h1, rfl, _⟩ := digC_mem.1 hz
  rw [h.ds] at h1
  omega
theorem pw_succ (x : Nm) (i : Nat) : ((bs x ^ (i + 1 + 1) : Nat) : Int) = (bs x : Int) * pw x i := by unfold pw; rw [Nat.pow_succ, Nat.mul_comm]; push_cast; rfl
theorem pw_pos {x : Nm} (h : Len x) (i : Nat) : 10 ≤ pw x i := by have := h.pow i; unfold pw; omega
theorem mul_lt_pw {x : Nm} {q r : Int} {i : Nat} (hq : q < (bs x : Int)) (hr : r < pw x i) (hp : 0 < pw x i) : q * pw x i + r < ((bs x ^ (i + 1 + 1) : Nat) : Int) := by
  rw [pw_succ]
  have h1 : q * pw x i ≤ ((bs x : Int) - 1) * pw x i := Int.mul_le_mul_of_nonneg_right (by omega) (by omega)
  rw [Int.sub_mul, Int.one_mul] at h1
  omega
theorem rem_lt {x : Nm} (h : Len x) {i : Nat} {R : List BA} {r : Int} (hr : r ∈ remP x (numL x i) R) : 0 ≤ r ∧ r < pw x i := by
  have hn : ∀ toks, r ∈ numL x i toks → 0 ≤ r ∧ r < pw x i := fun toks hm => by
    obtain ⟨n, rfl, _, h2, _⟩ := numL_mem.1 hm
    unfold pw
    omega
  unfold remP at hr
  split at hr
  · have := pw_pos h i
    simp at hr
    omega
  · split at hr
    · exact hn _ hr
    · split at hr
      · exact hn _ hr
      · cases hr
theorem sub_bound {x : Nm} (h : Len x) {i : Nat} {toks : List BA} {z : Int} (hz : z ∈ subC x toks i (pw x i) (keepP x toks)) : z < ((bs x ^ (i + 1 + 1) : Nat) : Int) ∧ z ∈ keepP x toks z := by
  unfold subC at hz
  split at hz
  · obtain ⟨q, hq, hz⟩ := List.mem_flatMap.1 hz
    obtain ⟨m, hm, hz⟩ := List.mem_flatMap.1 hz
    obtain ⟨e, hz1⟩ := keepP_mem.1 hz
    have q1 := dig_lt h hq
    have m1 := dig_lt h hm
    have hp := pw_pos h i
    have := mul_lt_pw (x := x) (q := q) (r := -m) (i := i) q1.2 (by omega) (by omega)
    rw [← e] at hz1
    exact ⟨by omega, keepP_mem.2 ⟨rfl, hz1⟩⟩
  · cases hz
theorem hd_bound {x : Nm} (h : Len x) {i s : Nat} {toks : List BA} {z : Int} (hz : z ∈ hdC x toks i (pw x i) (numL x i) (keepP x toks) s) : z < ((bs x ^ (i + 1 + 1) : Nat) : Int) ∧ z ∈ keepP x toks z := by
  have hb := h.b
  have hp := pw_pos h i
  unfold hdC at hz
  split at hz
  · split at hz
    · obtain ⟨r, hr, hz⟩ := List.mem_flatMap.1 hz
      obtain ⟨e, hz1⟩ := keepP_mem.1 hz
      have := mul_lt_pw (x := x) (q := 1) (r := r) (i := i) (by omega) (rem_lt h hr).2 (by omega)
      rw [← e] at hz1
      exact ⟨by omega, keepP_mem.2 ⟨rfl, hz1⟩⟩
    · obtain ⟨q, hq, hz⟩ := List.mem_flatMap.1 hz
      obtain ⟨r, hr, hz⟩ := List.mem_flatMap.1 hz
      obtain ⟨e, hz1⟩ := keepP_mem.1 hz
      have := mul_lt_pw (x := x) (q := q) (r := r) (i := i) (dig_lt h hq).2 (rem_lt h hr).2 (by omega)
      rw [← e] at hz1
      exact ⟨by omega, keepP_mem.2 ⟨rfl, hz1⟩⟩
  · cases hz
theorem raw_sound {x : Nm} (h : Len x) {k : Nat} {toks : List BA} {z : Int} (hz : z ∈ rawC x (numL x) k toks) : z ∈ numL x k toks := by
  have hb := h.b
  have key : z < ((bs x ^ (k + 1) : Nat) : Int) ∧ z ∈ keepP x toks z := by
    unfold rawC at hz
    rcases List.mem_append.1 hz with hz | hz
    · split at hz
      · obtain ⟨d, hd, hz⟩ := List.mem_flatMap.1 hz
        obtain ⟨e, hz1⟩ := keepP_mem.1 hz
        have d1 := dig_lt h hd
        have := pow_up (b := bs x) (i := 1) (k := k + 1) (by omega) (by omega)
        rw [Nat.pow_one] at this
        rw [← e] at hz1
        exact ⟨by omega, keepP_mem.2 ⟨rfl, hz1⟩⟩
      · cases hz
    · obtain ⟨i, hi, hz⟩ := rounds_mem.1 hz
      have hup := pow_up (b := bs x) (i := i + 1 + 1) (k := k + 1) (by omega) (by omega)
      rcases hz with hz | hz
      · obtain ⟨a, b⟩ := sub_bound h hz
        exact ⟨by omega, b⟩
      · unfold headC at hz
        rcases List.mem_append.1 hz with hz | hz
        · obtain ⟨a, b⟩ := hd_bound h hz
          exact ⟨by omega, b⟩
        · obtain ⟨a, b⟩ := hd_bound h hz
          exact ⟨by omega, b⟩
  obtain ⟨a, b⟩ := key
  obtain ⟨_, b1, b2, b3⟩ := keepP_mem.1 b
  exact numL_mem.2 ⟨z.toNat, by omega, by omega, by omega, b3⟩
theorem raw_mem {x : Nm} (h : Len x) {k : Nat} (hk : k ≤ 3) {toks : List BA} {z : Int} : z ∈ rawC x (numL x) k toks ↔ z ∈ numL x k toks := ⟨raw_sound h, raw_complete h hk⟩
/-- With all powers: every number that has words. -/
theorem numL_all {x : Nm} (h : Len x) {toks : List BA} {z : Int} : z ∈ numL x 3 toks ↔ ∃ n : Nat, z = (n : Int) ∧ n < 10000 ∧ wordsB x n = toks := by
  rw [numL_mem]
  have hb : 10000 ≤ bs x ^ (3 + 1) := by rcases h.b with e | e <;> rw [e] <;> decide
  constructor
  · rintro ⟨n, a, b, _, c⟩; exact ⟨n, a, b, c⟩
  · rintro ⟨n, a, b, c⟩; exact ⟨n, a, b, by omega, c⟩
theorem numL_sorted (x : Nm) (k : Nat) (toks : List BA) : (numL x k toks).Pairwise (· < ·) := by
  unfold numL
  rw [List.pairwise_map]
  refine List.Pairwise.imp ?_ ((List.pairwise_lt_range (n := 10000)).filter _)
  intro a b h
  exact Int.ofNat_lt.2 h
theorem numL_len (x : Nm) (k : Nat) (toks : List BA) : (numL x k toks).length ≤ 10000 := by
  unfold numL
  rw [List.length_map]
  exact Nat.le_trans (List.length_filter_le _ _) (by simp)
theorem numL_range {x : Nm} {k : Nat} {toks : List BA} {z : Int} (h : z ∈ numL x k toks) : 0 ≤ z ∧ z ≤ 9999 := by
  obtain ⟨n, rfl, h1, _⟩ := numL_mem.1 h
  omega
/-- Two ascending lists of the same numbers are one. -/
theorem asc_unique : ∀ {a b : List Int}, a.Pairwise (· < ·) → b.Pairwise (· < ·) → (∀ z, z ∈ a ↔ z ∈ b) → a = b
  | [], [], _, _, _ => rfl
  | [], y :: b, _, _, h => by have := (h y).2 (by simp); cases this
  | x :: a, [], _, _, h => by have := (h x).1 (by simp); cases this
  | x :: a, y :: b, ha, hb, h => by
    rw [List.pairwise_cons] at ha hb
    have hxy : x = y := by
      rcases List.mem_cons.1 ((h x).1 (by simp)) with e | e
      · exact e
      · rcases List.mem_cons.1 ((h y).2 (by simp)) with f | f
        · exact f.symm
        · have := ha.1 y f; have := hb.1 x e; omega
    subst hxy
    rw [asc_unique ha.2 hb.2 (fun z => ?_)]
    constructor
    · intro hz
      rcases List.mem_cons.1 ((h z).1 (List.mem_cons_of_mem _ hz)) with e | e
      · have := ha.1 z hz; omega
      · exact e
    · intro hz
      rcases List.mem_cons.1 ((h z).2 (List.mem_cons_of_mem _ hz)) with e | e
      · have := hb.1 z hz; omega
      · exact e
theorem compactUpTo_ints (d : Array Int) (hs : ∀ i j, i < j → j < d.size → d[i]! ≤ d[j]!) : ∀ m, m ≤ d.size →
    (Lib.compactUpTo d m).Pairwise (· < ·) ∧ ∀ x, x ∈ Lib.compactUpTo d m ↔ ∃ j, j < m ∧ d[j]! = x
  | 0, _ => by
    refine ⟨by simp [Lib.compactUpTo], fun x => ?_⟩
    simp [Lib.compactUpTo]
  | m + 1, hm => by
    obtain ⟨h1, h2⟩ := compactUpTo_ints d hs m (by omega)
    rw [Lib.compactUpTo_succ]
    by_cases hk : Lib.keeps d m = true
    · rw [if_pos hk]
      refine ⟨List.pairwise_append.2 ⟨h1, List.pairwise_singleton _ _, fun x hx y hy => ?_⟩, fun x => ?_⟩
      · rw [List.mem_singleton] at hy
        subst hy
        obtain ⟨j, hj, rfl⟩ := (h2 x).1 hx
        have hne : d[m]! ≠ d[m - 1]! := by
          simp [Lib.keeps] at hk
          rcases hk with hk | hk
          · omega
          · exact hk
        have a1 : d[m - 1]! ≤ d[m]! := hs (m - 1) m (by omega) (by omega)
        by_cases e : j = m - 1
        · rw [e]; omega
        · have a3 : d[j]! ≤ d[m - 1]! := hs j (m - 1) (by omega) (by omega)
          omega
      · rw [List.mem_append, h2, List.mem_singleton]
        constructor
        · rintro (⟨j, hj, e⟩ | e)
          · exact ⟨j, by omega, e⟩
          · exact ⟨m, by omega, e.symm⟩
        · rintro ⟨j, hj, e⟩
          by_cases q : j = m
          · subst q; exact .inr e.symm
          · exact .inl ⟨j, by omega, e⟩
    · rw [if_neg hk, List.append_nil]
      refine ⟨h1, fun x => ?_⟩
      rw [h2]
      have hm0 : 0 < m ∧ d[m]! = d[m - 1]! := by
        simp [Lib.keeps] at hk
        exact ⟨by omega, hk.2⟩
      constructor
      · rintro ⟨j, hj, e⟩; exact ⟨j, by omega, e⟩
      · rintro ⟨j, hj, e⟩
        by_cases q : j = m
        · subst q; exact ⟨j - 1, by omega, by rw [← hm0.2]; exact e⟩
        · exact ⟨j, by omega, e⟩
/-- Sorting and compacting leaves the same numbers, strictly ascending. -/
theorem compact_ints (zs : List Int) :
    (Lib.compact (zs.mergeSort fun x y => decide (x ≤ y))).Pairwise (· < ·) ∧ ∀ x, x ∈ Lib.compact (zs.mergeSort fun x y => decide (x ≤ y)) ↔ x ∈ zs := by
  have hp : (zs.mergeSort fun x y => decide (x ≤ y)).Pairwise (fun x y => decide (x ≤ y) = true) := by
    refine List.pairwise_mergeSort (fun a b c h1 h2 => ?_) (fun a b => ?_) zs
    · simp only [decide_eq_true_eq] at *
      omega
    · rcases Int.le_total a b with h | h <;> simp [h]
  have hm : ∀ x, x ∈ (zs.mergeSort fun x y => decide (x ≤ y)) ↔ x ∈ zs := fun x => (List.mergeSort_perm zs _).mem_iff
  generalize (zs.mergeSort fun x y => decide (x ≤ y)) = s at hp hm
  have hs : ∀ i j, i < j → j < s.toArray.size → s.toArray[i]! ≤ s.toArray[j]! := by
    intro i j hij hj
    have hj' : j < s.length := by simpa using hj
    have := (List.pairwise_iff_getElem.1 hp) i j (by omega) hj' hij
    rw [decide_eq_true_eq] at this
    simpa [getElem!_pos, hj', show i < s.length by omega] using this
  obtain ⟨h1, h2⟩ := compactUpTo_ints s.toArray hs s.length (by simp)
  refine ⟨h1, fun x => ?_⟩
  rw [← hm, show Lib.compact s = Lib.compactUpTo s.toArray s.length from rfl, h2]
  constructor
  · rintro ⟨j, hj, e⟩
    have : s[j]? = some x := by rw [List.getElem?_eq_getElem hj, ← e]; simp [getElem!_pos, hj]
    exact List.mem_of_getElem? this
  · intro hx
    obtain ⟨j, hj, e⟩ := List.getElem_of_mem hx
    exact ⟨j, hj, by rw [← e]; simp [getElem!_pos, hj]⟩
/-- What numbers returns: the row of its closures, sorted and compacted, is the list of all numbers with these words. -/
theorem numbers_plain {x : Nm} (h : Len x) {k : Nat} (hk : k ≤ 3) (toks : List BA) :
    Lib.compact ((rawC x (numL x) k toks).mergeSort fun x y => decide (x ≤ y)) = numL x k toks :=
  asc_unique (compact_ints _).1 (numL_sorted x k toks) fun _ => ((compact_ints _).2 _).trans (raw_mem h hk)
end Go.Proofs.YtdehghmpfkhljaaDoor
