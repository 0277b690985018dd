/-
  Plain mathematics of the solar and the cycle calendar (package calendar): years, months, days, the first day with a pair. No program is named here; no conditions of its own.
-/
namespace CalPlain

/-- Is y a leap year? -/
def leapB (y : Int) : Bool := decide (0 ≤ y) && decide (y % 4 = 0) && !decide (y % 128 = 0)
def lp (y : Int) : Int := if leapB y = true then 1 else 0
theorem leap_iff (y : Int) : leapB y = true ↔ 0 ≤ y ∧ y % 4 = 0 ∧ y % 128 ≠ 0 := by
  unfold leapB
  simp [and_assoc]
theorem lp_cases (y : Int) : (0 ≤ y ∧ y % 4 = 0 ∧ y % 128 ≠ 0 ∧ leapB y = true ∧ lp y = 1) ∨ (¬ (0 ≤ y ∧ y % 4 = 0 ∧ y % 128 ≠ 0) ∧ leapB y = false ∧ lp y = 0) := by
  unfold lp
  by_cases h : leapB y = true
  · obtain ⟨h1, h2, h3⟩ := (leap_iff y).1 h
    left; exact ⟨h1, h2, h3, h, by simp [h]⟩
  · right; exact ⟨fun k => h ((leap_iff y).2 k), by simpa using h, by simp [h]⟩
theorem lp_01 (y : Int) : 0 ≤ lp y ∧ lp y ≤ 1 := by rcases lp_cases y with h | h <;> omega

/-- The length of a month of a year that is no leap year. -/
def mbase (m : Int) : Int := if m % 2 = 1 then 31 else if m < 12 then 30 else 29
/-- The length of a month, or 0. -/
def mdays (y m : Int) : Int := if y < 0 ∨ m < 1 ∨ 12 < m then 0 else if m % 2 = 1 then 31 else if m < 12 ∨ leapB y = true then 30 else 29
theorem mdays_bad {y m : Int} (h : y < 0 ∨ m < 1 ∨ 12 < m) : mdays y m = 0 := if_pos h
theorem mdays_eq {y m : Int} (h0 : 0 ≤ y) (h1 : 1 ≤ m) (h2 : m ≤ 12) : mdays y m = mbase m + if m = 12 then lp y else 0 := by
  have := lp_cases y
  unfold mdays mbase
  rw [if_neg (by omega)]
  by_cases h : m % 2 = 1
  · rw [if_pos h, if_pos h, if_neg (by omega)]; omega
  · rw [if_neg h, if_neg h]
    by_cases k : m = 12
    · subst k
      rcases this with ⟨_, _, _, e, f⟩ | ⟨_, e, f⟩ <;> simp [e, f]
    · rw [if_pos (Or.inl (by omega)), if_pos (by omega), if_neg k]; omega
theorem mbase_bd (m : Int) : 29 ≤ mbase m ∧ mbase m ≤ 31 := by unfold mbase; split <;> (try split) <;> omega
theorem mdays_bd (y m : Int) : 0 ≤ mdays y m ∧ mdays y m ≤ 31 := by
  unfold mdays; split <;> (try split) <;> (try split) <;> omega
theorem mdays_pos {y m : Int} (h0 : 0 ≤ y) (h1 : 1 ≤ m) (h2 : m ≤ 12) : 29 ≤ mdays y m := by
  rw [mdays_eq h0 h1 h2]
  have := mbase_bd m
  have := lp_01 y
  split <;> omega
theorem mdays_in {y m : Int} (h : 0 < mdays y m) : 0 ≤ y ∧ 1 ≤ m ∧ m ≤ 12 := by
  unfold mdays at h
  by_cases k : y < 0 ∨ m < 1 ∨ 12 < m
  · rw [if_pos k] at h; omega
  · omega

/-- The days of the months before m. -/
def cum (m : Int) : Int := 30 * (m - 1) + m / 2
theorem cum_one : cum 1 = 0 := by decide
theorem cum_succ {y m : Int} (h0 : 0 ≤ y) (h1 : 1 ≤ m) (h2 : m < 12) : cum (m + 1) = cum m + mdays y m := by
  rw [mdays_eq h0 h1 (by omega), if_neg (by omega)]
  unfold cum mbase
  split <;> (try split) <;> omega
theorem cum_twelve (y : Int) (h0 : 0 ≤ y) : cum 12 + mdays y 12 = 365 + lp y := by
  rw [mdays_eq h0 (by omega) (by omega), if_pos rfl]
  have : mbase 12 = 29 := by decide
  have : cum 12 = 336 := by decide
  omega
theorem cum_bd {m : Int} (h1 : 1 ≤ m) (h2 : m ≤ 12) : 0 ≤ cum m ∧ cum m ≤ 336 := by unfold cum; omega

/-- The days of the first m months of a year, as a loop adds them. -/
def sumM (y m : Int) : Int := if m ≤ 12 then cum m else 365 + lp y
theorem sumM_one (y : Int) : sumM y 1 = 0 := by unfold sumM; rw [if_pos (by omega)]; decide
theorem sumM_succ {y m : Int} (h0 : 0 ≤ y) (h1 : 1 ≤ m) (h2 : m ≤ 12) : sumM y (m + 1) = sumM y m + mdays y m := by
  unfold sumM
  rw [if_pos h2]
  by_cases k : m = 12
  · subst k; rw [if_neg (by omega), cum_twelve y h0]
  · rw [if_pos (by omega), cum_succ h0 h1 (by omega)]
theorem sumM_bd {y m : Int} (h1 : 1 ≤ m) : 0 ≤ sumM y m ∧ sumM y m ≤ 366 := by
  have := lp_01 y
  unfold sumM
  split
  · have := cum_bd h1 (by assumption); omega
  · omega

/-- The first day of a year. -/
def ys (y : Int) : Int := 365 * y + (y + 3) / 4 - (y + 127) / 128
theorem ys_zero : ys 0 = 0 := by decide
theorem ys_succ {y : Int} (h : 0 ≤ y) : ys (y + 1) = ys y + (365 + lp y) := by
  unfold ys
  rcases lp_cases y with ⟨_, h1, h2, _, e⟩ | ⟨k, _, e⟩
  · rw [e]; omega
  · rw [e]
    by_cases h1 : y % 4 = 0
    · have h2 : y % 128 = 0 := by omega
      omega
    · omega
theorem ys_ge {y : Int} (h : 0 ≤ y) : 365 * y ≤ ys y ∧ ys y ≤ 366 * y := by unfold ys; omega
theorem ys_mono {a b : Int} (h : a ≤ b) (_ : 0 ≤ a) : ys a ≤ ys b := by unfold ys; omega
theorem ys_lt {a b : Int} (h : a < b) (h0 : 0 ≤ a) : ys a + 365 ≤ ys b := by
  have h1 := ys_mono (a := a + 1) (b := b) (by omega) (by omega)
  have h2 := ys_succ h0
  have := lp_01 a
  omega
theorem ys_unique {a b n : Int} (ha : 0 ≤ a) (hb : 0 ≤ b) (h1 : ys a ≤ n) (h2 : n < ys (a + 1)) (h3 : ys b ≤ n) (h4 : n < ys (b + 1)) : a = b := by
  by_cases h : a < b
  · have := ys_mono (a := a + 1) (b := b) (by omega) (by omega); omega
  · by_cases k : b < a
    · have := ys_mono (a := b + 1) (b := a) (by omega) (by omega); omega
    · omega
theorem ys_max {y : Int} (h : 2739 < y) : 999999 < ys y := by
  have := (ys_ge (y := y) (by omega)).1
  omega
theorem ys_guess {n : Int} (h : 0 ≤ n) : n < ys (n / 365 + 1) := by
  have := (ys_ge (y := n / 365 + 1) (by omega)).1
  omega

/-- The day of a solar date. -/
def num (y m d : Int) : Int := ys y + cum m + d - 1
/-- Is this a date? -/
def okD (y m d : Int) : Prop := 1 ≤ d ∧ d ≤ mdays y m
instance okDec (y m d : Int) : Decidable (okD y m d) := by unfold okD; infer_instance
theorem okD.in_ {y m d : Int} (h : okD y m d) : 0 ≤ y ∧ 1 ≤ m ∧ m ≤ 12 := mdays_in (by have := h.1; have := h.2; omega)
theorem sum_cum {y m : Int} (h0 : 0 ≤ y) (h1 : 1 ≤ m) (h2 : m ≤ 12) : cum m + mdays y m ≤ 365 + lp y := by
  have hs := sumM_succ h0 h1 h2
  have hc : sumM y m = cum m := by unfold sumM; rw [if_pos h2]
  rw [hc] at hs
  rw [← hs]
  unfold sumM
  split
  · rename_i k
    have := cum_bd (m := m + 1) (by omega) k
    have := lp_01 y
    omega
  · omega
theorem num_range {y m d : Int} (h : okD y m d) : ys y ≤ num y m d ∧ num y m d < ys (y + 1) := by
  obtain ⟨h0, h1, h2⟩ := h.in_
  have k1 := h.1
  have k2 := h.2
  have := cum_bd h1 h2
  have := sum_cum h0 h1 h2
  rw [ys_succ h0]
  unfold num
  omega
theorem cum_mono {a b : Int} (h : a ≤ b) : cum a ≤ cum b := by unfold cum; omega
theorem num_inj {y m d y' m' d' : Int} (h : okD y m d) (h' : okD y' m' d') (e : num y m d = num y' m' d') : y = y' ∧ m = m' ∧ d = d' := by
  obtain ⟨a0, a1, a2⟩ := h.in_
  obtain ⟨b0, b1, b2⟩ := h'.in_
  have r := num_range h
  have r' := num_range h'
  rw [← e] at r'
  obtain rfl := ys_unique a0 b0 r.1 r.2 r'.1 r'.2
  have k1 := h.1
  have k2 := h.2
  have k1' := h'.1
  have k2' := h'.2
  have hm : m = m' := by
    by_cases g : m < m'
    · have := cum_mono (a := m + 1) (b := m') (by omega)
      have := cum_succ a0 a1 (show m < 12 by omega)
      unfold num at e
      omega
    · by_cases g' : m' < m
      · have := cum_mono (a := m' + 1) (b := m) (by omega)
        have := cum_succ a0 b1 (show m' < 12 by omega)
        unfold num at e
        omega
      · omega
  subst hm
  refine ⟨rfl, rfl, ?_⟩
  unfold num at e
  omega
theorem num_next {y m d : Int} (h : okD y m d) (y' m' d' : Int) (h' : okD y' m' d') (e : num y' m' d' = num y m d + 1) :
    (d ≠ mdays y m ∧ y' = y ∧ m' = m ∧ d' = d + 1) ∨ (d = mdays y m ∧ m ≠ 12 ∧ y' = y ∧ m' = m + 1 ∧ d' = 1) ∨ (d = mdays y m ∧ m = 12 ∧ y' = y + 1 ∧ m' = 1 ∧ d' = 1) := by
  obtain ⟨a0, a1, a2⟩ := h.in_
  have k1 := h.1
  have k2 := h.2
  by_cases c : d = mdays y m
  · by_cases c2 : m = 12
    · subst c2
      right; right
      have hp := mdays_pos (y := y + 1) (m := 1) (by omega) (by omega) (by omega)
      have := cum_twelve y a0
      have := ys_succ a0
      have := cum_one
      obtain ⟨x, x1, x2⟩ := num_inj h' (show okD (y + 1) 1 1 from ⟨by omega, by omega⟩) (by rw [e]; unfold num; omega)
      exact ⟨c, rfl, x, x1, x2⟩
    · right; left
      have hp := mdays_pos (y := y) (m := m + 1) a0 (by omega) (by omega)
      have := cum_succ a0 a1 (show m < 12 by omega)
      obtain ⟨x, x1, x2⟩ := num_inj h' (show okD y (m + 1) 1 from ⟨by omega, by omega⟩) (by rw [e]; unfold num; omega)
      exact ⟨c, c2, x, x1, x2⟩
  · left
    obtain ⟨x, x1, x2⟩ := num_inj h' (show okD y m (d + 1) from ⟨by omega, by omega⟩) (by rw [e]; unfold num; omega)
    exact ⟨c, x, x1, x2⟩

/-- What YearStart returns: the day and the error. -/
def ysV (y : Int) : Int × Int := if y < 0 then (0, 1) else if ys y ≤ 999999 then (ys y, 0) else (0, 2)
theorem ysV_neg {y : Int} (h : y < 0) : ysV y = (0, 1) := if_pos h
theorem ysV_ok {y : Int} (h : 0 ≤ y) (k : ys y ≤ 999999) : ysV y = (ys y, 0) := by unfold ysV; rw [if_neg (by omega), if_pos k]
theorem ysV_big {y : Int} (h : 0 ≤ y) (k : ¬ ys y ≤ 999999) : ysV y = (0, 2) := by unfold ysV; rw [if_neg (by omega), if_neg k]
/-- What SolarDay returns. -/
def sdV (c y m d : Int) (l : Bool) : Int × Int := if c = 1 ∧ l = false ∧ okD y m d then (if num y m d ≤ 999999 then (num y m d, 0) else (0, 2)) else (0, 1)
theorem sdV_bad {c y m d : Int} {l : Bool} (h : ¬ (c = 1 ∧ l = false ∧ okD y m d)) : sdV c y m d l = (0, 1) := if_neg h
theorem sdV_ok {y m d : Int} (h : okD y m d) (k : num y m d ≤ 999999) : sdV 1 y m d false = (num y m d, 0) := by unfold sdV; rw [if_pos ⟨rfl, rfl, h⟩, if_pos k]
theorem sdV_big {y m d : Int} (h : okD y m d) (k : ¬ num y m d ≤ 999999) : sdV 1 y m d false = (0, 2) := by unfold sdV; rw [if_pos ⟨rfl, rfl, h⟩, if_neg k]
theorem num_of_rest (n y m : Int) : num y m (n - ys y - cum m + 1) = n := by unfold num; omega

/-- The error of a number as a day. -/
def ckV (n : Int) : Int := if n < 0 then 1 else if 999999 < n then 2 else 0
theorem ckV_neg {n : Int} (h : n < 0) : ckV n = 1 := if_pos h
theorem ckV_big {n : Int} (h : 999999 < n) : ckV n = 2 := by unfold ckV; rw [if_neg (by omega), if_pos h]
theorem ckV_ok {n : Int} (h : 0 ≤ n) (k : n ≤ 999999) : ckV n = 0 := by unfold ckV; rw [if_neg (by omega), if_neg (by omega)]

/-- The first day from s on with the number a + 1 and the name b. -/
def nx (a b s : Int) : Int := s + (40 * a + 221 * b - s) % 260
theorem nx_ge (a b s : Int) : s ≤ nx a b s ∧ nx a b s < s + 260 := by unfold nx; omega
theorem pair_iff {a b n : Int} (ha : 0 ≤ a) (ha' : a < 13) (hb : 0 ≤ b) (hb' : b < 20) : (n % 13 = a ∧ n % 20 = b) ↔ (40 * a + 221 * b - n) % 260 = 0 := by omega
theorem nx_pair {a b s : Int} (ha : 0 ≤ a) (ha' : a < 13) (hb : 0 ≤ b) (hb' : b < 20) : nx a b s % 13 = a ∧ nx a b s % 20 = b := by
  rw [pair_iff ha ha' hb hb']; unfold nx; omega
theorem nx_first {a b s n : Int} (ha : 0 ≤ a) (ha' : a < 13) (hb : 0 ≤ b) (hb' : b < 20) (h1 : s ≤ n) (h2 : n < nx a b s) : ¬ (n % 13 = a ∧ n % 20 = b) := by
  rw [pair_iff ha ha' hb hb']; unfold nx at h2; omega
theorem nx_here {a b s n : Int} (ha : 0 ≤ a) (ha' : a < 13) (hb : 0 ≤ b) (hb' : b < 20) (h1 : s ≤ n) (h2 : n ≤ nx a b s) (h : n % 13 = a ∧ n % 20 = b) : n = nx a b s := by
  by_cases k : n < nx a b s
  · exact absurd h (nx_first ha ha' hb hb' h1 k)
  · omega
/-- May a pair be asked for? -/
def pairB (u v : Int) : Bool := decide (1 ≤ u) && decide (u ≤ 13) && decide (0 ≤ v) && decide (v < 20)
theorem pair_yes {u v : Int} (h : pairB u v = true) : 1 ≤ u ∧ u ≤ 13 ∧ 0 ≤ v ∧ v < 20 := by unfold pairB at h; simpa [and_assoc] using h
theorem pair_no {u v : Int} (h : pairB u v = false) : u < 1 ∨ 13 < u ∨ v < 0 ∨ 19 < v := by
  by_cases k : 1 ≤ u ∧ u ≤ 13 ∧ 0 ≤ v ∧ v < 20
  · have : pairB u v = true := by unfold pairB; simp [k]
    rw [this] at h; cases h
  · omega
/-- What Next returns. -/
def nextV (u v s : Int) : Int × Int := if pairB u v = false ∨ s < -1 then (0, 1) else if 999999 ≤ s then (0, 2) else if nx (u - 1) v (s + 1) ≤ 999999 then (nx (u - 1) v (s + 1), 0) else (0, 2)
theorem nextV_bad {u v s : Int} (h : pairB u v = false ∨ s < -1) : nextV u v s = (0, 1) := if_pos h
theorem nextV_far {u v s : Int} (h : pairB u v = true) (h1 : ¬ s < -1) (h2 : 999999 ≤ s) : nextV u v s = (0, 2) := by unfold nextV; rw [if_neg (by simp [h, h1]), if_pos h2]
theorem nextV_ok {u v s : Int} (h : pairB u v = true) (h1 : ¬ s < -1) (h2 : ¬ 999999 ≤ s) (h3 : nx (u - 1) v (s + 1) ≤ 999999) : nextV u v s = (nx (u - 1) v (s + 1), 0) := by
  unfold nextV; rw [if_neg (by simp [h, h1]), if_neg h2, if_pos h3]
theorem nextV_big {u v s : Int} (h : pairB u v = true) (h1 : ¬ s < -1) (h2 : ¬ 999999 ≤ s) (h3 : ¬ nx (u - 1) v (s + 1) ≤ 999999) : nextV u v s = (0, 2) := by
  unfold nextV; rw [if_neg (by simp [h, h1]), if_neg h2, if_neg h3]
/-- What CycleDay returns. -/
def cdV (c y m d : Int) (l : Bool) : Int × Int := if c = 3 ∧ l = false ∧ 0 ≤ y ∧ pairB m d = true then (if 3846 < y then (0, 2) else nextV m d (260 * y - 1)) else (0, 1)
theorem cdV_bad {c y m d : Int} {l : Bool} (h : ¬ (c = 3 ∧ l = false ∧ 0 ≤ y ∧ pairB m d = true)) : cdV c y m d l = (0, 1) := if_neg h
theorem cdV_far {y m d : Int} (h0 : 0 ≤ y) (hp : pairB m d = true) (h : 3846 < y) : cdV 3 y m d false = (0, 2) := by unfold cdV; rw [if_pos ⟨rfl, rfl, h0, hp⟩, if_pos h]
theorem cdV_in {y m d : Int} (h0 : 0 ≤ y) (hp : pairB m d = true) (h : ¬ 3846 < y) : cdV 3 y m d false = nextV m d (260 * y - 1) := by unfold cdV; rw [if_pos ⟨rfl, rfl, h0, hp⟩, if_neg h]
/-- The day of the week, or -1. -/
def wkV (n : Int) : Int := if n < 0 ∨ 999999 < n then -1 else n % 6
theorem wkV_bad {n : Int} (h : n < 0 ∨ 999999 < n) : wkV n = -1 := if_pos h
theorem wkV_ok {n : Int} (h : 0 ≤ n) (k : n ≤ 999999) : wkV n = n % 6 := if_neg (by omega)
theorem cyc_back {y m d : Int} (_ : 0 ≤ y) (hp : pairB m d = true) : nx (m - 1) d (260 * y) / 260 = y ∧ nx (m - 1) d (260 * y) % 13 + 1 = m ∧ nx (m - 1) d (260 * y) % 20 = d := by
  obtain ⟨a, b, c, e⟩ := pair_yes hp
  have h1 := nx_ge (m - 1) d (260 * y)
  obtain ⟨h2, h3⟩ := nx_pair (s := 260 * y) (show 0 ≤ m - 1 by omega) (show m - 1 < 13 by omega) c e
  omega
/-- The leap years among the k years from y on. -/
def lpN (y k : Int) : Int := ys (y + k) - ys y - 365 * k
theorem lpN_zero (y : Int) : lpN y 0 = 0 := by unfold lpN; simp
theorem lpN_succ {y k : Int} (h : 0 ≤ y) (hk : 0 ≤ k) : lpN y (k + 1) = lpN y k + lp (y + k) := by
  unfold lpN
  have := ys_succ (y := y + k) (by omega)
  rw [← Int.add_assoc, this]
  omega
theorem lpN_all (y : Int) : lpN y 128 = 31 := by unfold lpN ys; omega
theorem lpN_bd {y k : Int} (_ : 0 ≤ y) (hk : 0 ≤ k) (h2 : k ≤ 128) : 0 ≤ lpN y k ∧ lpN y k ≤ 128 := by unfold lpN ys; omega
end CalPlain
