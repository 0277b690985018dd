/-
  Plain mathematics of the lunisolar calendar (package lunisolar): years, months by their index, days. No program is named here; no conditions of its own.
-/
namespace LunPlain

/-- Is y a leap year? -/
def leapB (y : Int) : Bool := decide (0 ≤ y) && decide (12 ≤ (7 * y + 2) % 19)
theorem leap_iff (y : Int) : leapB y = true ↔ 0 ≤ y ∧ 12 ≤ (7 * y + 2) % 19 := by unfold leapB; simp
theorem leap_no {y : Int} (h : leapB y = false) : y < 0 ∨ (7 * y + 2) % 19 < 12 := by
  by_cases k : 0 ≤ y ∧ 12 ≤ (7 * y + 2) % 19
  · rw [(leap_iff y).2 k] at h; cases h
  · omega
theorem leap_neg {y : Int} (h : y < 0) : leapB y = false := by
  cases k : leapB y
  · rfl
  · have := (leap_iff y).1 k; omega
/-- The remainders of the leap years. -/
def isLp (r : Int) : Prop := r = 2 ∨ r = 5 ∨ r = 7 ∨ r = 10 ∨ r = 13 ∨ r = 15 ∨ r = 18
theorem leap_rem {y : Int} (h : 0 ≤ y) : leapB y = true ↔ isLp (y % 19) := by
  rw [leap_iff]; unfold isLp
  obtain ⟨q, r, rfl, h0, h1⟩ : ∃ q r : Int, y = 19 * q + r ∧ 0 ≤ r ∧ r < 19 := ⟨y / 19, y % 19, by omega, by omega, by omega⟩
  have e1 : (7 * (19 * q + r) + 2) % 19 = (7 * r + 2) % 19 := by omega
  have e2 : (19 * q + r) % 19 = r := by omega
  rw [e1, e2]
  have : r = 0 ∨ r = 1 ∨ r = 2 ∨ r = 3 ∨ r = 4 ∨ r = 5 ∨ r = 6 ∨ r = 7 ∨ r = 8 ∨ r = 9 ∨ r = 10 ∨ r = 11 ∨ r = 12 ∨ r = 13 ∨ r = 14 ∨ r = 15 ∨ r = 16 ∨ r = 17 ∨ r = 18 := by omega
  rcases this with rfl | rfl | rfl | rfl | rfl | rfl | rfl | rfl | rfl | rfl | rfl | rfl | rfl | rfl | rfl | rfl | rfl | rfl | rfl <;> simp [h]
def yd (y : Int) : Int := if y < 0 then 0 else if leapB y = true then 384 else 354
theorem yd_neg {y : Int} (h : y < 0) : yd y = 0 := if_pos h
theorem yd_leap {y : Int} (h : leapB y = true) : yd y = 384 := by have := (leap_iff y).1 h; unfold yd; rw [if_neg (by omega), if_pos h]
theorem yd_plain {y : Int} (h0 : 0 ≤ y) (h : leapB y = false) : yd y = 354 := by unfold yd; rw [if_neg (by omega), if_neg (by simp [h])]
theorem yd_cases {y : Int} (h : 0 ≤ y) : (leapB y = true ∧ 12 ≤ (7 * y + 2) % 19 ∧ yd y = 384) ∨ (leapB y = false ∧ (7 * y + 2) % 19 < 12 ∧ yd y = 354) := by
  cases k : leapB y
  · have := leap_no k; right; exact ⟨rfl, by omega, yd_plain h k⟩
  · have := (leap_iff y).1 k; left; exact ⟨rfl, by omega, yd_leap k⟩
theorem yd_bd {y : Int} (h : 0 ≤ y) : 354 ≤ yd y ∧ yd y ≤ 384 := by rcases yd_cases h with ⟨_, _, e⟩ | ⟨_, _, e⟩ <;> omega
theorem yd_bd0 (y : Int) : 0 ≤ yd y ∧ yd y ≤ 384 := by
  by_cases h : 0 ≤ y
  · have := yd_bd h; omega
  · rw [yd_neg (by omega)]; omega

/-- The first day of a year. -/
def ys (y : Int) : Int := 354 * y + 30 * ((7 * y + 2) / 19)
theorem ys_zero : ys 0 = 0 := by decide
theorem ys_succ {y : Int} (h : 0 ≤ y) : ys (y + 1) = ys y + yd y := by
  unfold ys
  rcases yd_cases h with ⟨_, k, e⟩ | ⟨_, k, e⟩ <;> rw [e] <;> omega
theorem ys_div (y : Int) : ys y = y / 19 * 6936 + ys (y % 19) := by unfold ys; omega
theorem ys_19 (y : Int) : ys (y + 19) = ys y + 6936 := by unfold ys; omega
theorem ys_mul (q : Int) : ys (q * 19) = 6936 * q := by unfold ys; omega
theorem leap_19 {y : Int} (h : 0 ≤ y) : leapB (y + 19) = leapB y := by
  have e : (7 * (y + 19) + 2) % 19 = (7 * y + 2) % 19 := by rw [show 7 * (y + 19) + 2 = (7 * y + 2) + 19 * 7 by omega, Int.add_mul_emod_self_left]
  cases k : leapB y
  · have := leap_no k
    cases k2 : leapB (y + 19)
    · rfl
    · have := (leap_iff _).1 k2; omega
  · have := (leap_iff y).1 k
    exact (leap_iff _).2 (by omega)
theorem ys_ge {y : Int} (h : 0 ≤ y) : 354 * y ≤ ys y ∧ ys y ≤ 384 * y := by unfold ys; omega
theorem ys_mono {a b : Int} (h : a ≤ b) : ys a ≤ ys b := by
  have := Int.ediv_le_ediv (a := 7 * a + 2) (b := 7 * b + 2) (show (0 : Int) < 19 by omega) (by omega)
  unfold ys; omega
theorem ys_unique {a b n : Int} (h1 : ys a ≤ n) (h2 : n < ys (a + 1)) (h3 : ys b ≤ n) (h4 : n < ys (b + 1)) : a = b := by
  by_cases h : a < b
  · have := ys_mono (a := a + 1) (b := b) (by omega); omega
  · by_cases k : b < a
    · have := ys_mono (a := b + 1) (b := a) (by omega); omega
    · omega
theorem ys_max {y : Int} (h : 2824 < y) : 999999 < ys y := by
  have := (ys_ge (y := y) (by omega)).1
  omega

/-- The month's number, the mark and the length at an index; b: is it a leap year? -/
def mo (b : Bool) (k : Int) : Int := if b = true ∧ 6 ≤ k then k else k + 1
def ml (b : Bool) (k : Int) : Bool := b && decide (k = 6)
def nm (b : Bool) : Int := if b = true then 13 else 12
def md (m : Int) (l : Bool) : Int := if l = true then 30 else if m % 2 = 1 then 30 else 29
/-- The days of the months before index k. -/
def ck (b : Bool) (k : Int) : Int := if b = true ∧ 7 ≤ k then 29 * (k - 1) + k / 2 + 30 else 29 * k + (k + 1) / 2
/-- The index of a month. -/
def ix (b : Bool) (m : Int) (l : Bool) : Int := if l = true then 6 else if b = true ∧ 7 ≤ m then m else m - 1
theorem ck_zero (b : Bool) : ck b 0 = 0 := by cases b <;> decide
theorem ck_succ (b : Bool) {k : Int} (h0 : 0 ≤ k) (h : k < nm b) : ck b (k + 1) = ck b k + md (mo b k) (ml b k) := by
  unfold nm at h
  unfold ck md mo ml
  cases b
  · simp
    split <;> omega
  · simp only [true_and, if_true] at *
    by_cases h6 : k = 6
    · subst h6; decide
    · simp only [Bool.true_and, decide_eq_true_eq, h6, if_false]
      split <;> split <;> split <;> omega
theorem ck_all (b : Bool) : ck b (nm b) = if b = true then 384 else 354 := by cases b <;> decide
theorem ck_year {y : Int} (h : 0 ≤ y) : ck (leapB y) (nm (leapB y)) = yd y := by
  rw [ck_all]
  rcases yd_cases h with ⟨e, _, f⟩ | ⟨e, _, f⟩ <;> rw [e, f] <;> rfl
theorem ck_mono (b : Bool) {i j : Int} (h : i ≤ j) : ck b i ≤ ck b j := by
  unfold ck
  cases b <;> simp only [Bool.false_eq_true, false_and, if_false, true_and]
  · omega
  · split <;> split <;> omega
theorem ck_bd (b : Bool) {k : Int} (h0 : 0 ≤ k) (h : k ≤ nm b) : 0 ≤ ck b k ∧ ck b k ≤ 384 := by
  have h1 := ck_mono b h0
  have h2 := ck_mono b h
  rw [ck_zero] at h1
  rw [ck_all] at h2
  split at h2 <;> omega
theorem md_bd (m : Int) (l : Bool) : 29 ≤ md m l ∧ md m l ≤ 30 := by unfold md; split <;> (try split) <;> omega
theorem nm_bd (b : Bool) : 12 ≤ nm b ∧ nm b ≤ 13 := by cases b <;> decide
/-- Does the month exist in a year of this kind? -/
def inM (b : Bool) (m : Int) (l : Bool) : Prop := 1 ≤ m ∧ m ≤ 12 ∧ (l = true → m = 6 ∧ b = true)
theorem ix_in {b : Bool} {m : Int} {l : Bool} (h : inM b m l) : 0 ≤ ix b m l ∧ ix b m l < nm b ∧ mo b (ix b m l) = m ∧ ml b (ix b m l) = l := by
  obtain ⟨h1, h2, h3⟩ := h
  cases l
  · cases b
    · unfold ix nm mo ml; simp; omega
    · unfold ix nm mo ml
      simp only [Bool.false_eq_true, if_false, true_and, if_true, Bool.true_and, decide_eq_false_iff_not]
      by_cases k : 7 ≤ m
      · simp only [k, if_true]; refine ⟨by omega, by omega, ?_, by omega⟩; rw [if_pos (by omega)]
      · simp only [k, if_false]; refine ⟨by omega, by omega, ?_, by omega⟩; rw [if_neg (by omega)]; omega
  · obtain ⟨rfl, rfl⟩ := h3 rfl
    decide
theorem mo_in {b : Bool} {k : Int} (h0 : 0 ≤ k) (h : k < nm b) : inM b (mo b k) (ml b k) ∧ ix b (mo b k) (ml b k) = k := by
  cases b
  · unfold nm at h
    simp at h
    unfold inM ix mo ml
    simp
    omega
  · unfold nm at h
    simp at h
    by_cases h6 : k = 6
    · subst h6; exact ⟨⟨by decide, by decide, fun _ => ⟨by decide, rfl⟩⟩, by decide⟩
    · by_cases g : 6 ≤ k
      · have e1 : mo true k = k := by unfold mo; rw [if_pos ⟨rfl, g⟩]
        have e2 : ml true k = false := by unfold ml; simp [h6]
        rw [e1, e2]
        refine ⟨⟨by omega, by omega, fun h => by cases h⟩, ?_⟩
        unfold ix; rw [if_neg (by simp), if_pos ⟨rfl, by omega⟩]
      · have e1 : mo true k = k + 1 := by unfold mo; rw [if_neg (by omega)]
        have e2 : ml true k = false := by unfold ml; simp [h6]
        rw [e1, e2]
        refine ⟨⟨by omega, by omega, fun h => by cases h⟩, ?_⟩
        unfold ix; rw [if_neg (by simp), if_neg (by omega)]; omega
theorem mo_inj {b : Bool} {i j : Int} (hi : 0 ≤ i) (hi' : i < nm b) (hj : 0 ≤ j) (hj' : j < nm b) (h1 : mo b i = mo b j) (h2 : ml b i = ml b j) : i = j := by
  have a := (mo_in hi hi').2
  have c := (mo_in hj hj').2
  rw [h1, h2, c] at a
  exact a.symm

/-- The day of a date. -/
def num (y m : Int) (l : Bool) (d : Int) : Int := ys y + ck (leapB y) (ix (leapB y) m l) + d - 1
/-- Does the month of a date exist? (the calendar is lunisolar) -/
def exM (y m : Int) (l : Bool) : Prop := 0 ≤ y ∧ inM (leapB y) m l
instance inMDec (b : Bool) (m : Int) (l : Bool) : Decidable (inM b m l) := by unfold inM; infer_instance
instance exMDec (y m : Int) (l : Bool) : Decidable (exM y m l) := by unfold exM; infer_instance
/-- The length of the month of a date, or 0. -/
def mdV (c y m : Int) (l : Bool) : Int := if c = 2 ∧ exM y m l then md m l else 0
theorem mdV_in {y m : Int} {l : Bool} (h : exM y m l) : mdV 2 y m l = md m l := if_pos ⟨rfl, h⟩
theorem mdV_out {c y m : Int} {l : Bool} (h : ¬ (c = 2 ∧ exM y m l)) : mdV c y m l = 0 := if_neg h
theorem mdV_bd (c y m : Int) (l : Bool) : 0 ≤ mdV c y m l ∧ mdV c y m l ≤ 30 := by
  unfold mdV
  split
  · have := md_bd m l; omega
  · omega
/-- Is this a valid date? -/
def okD (c y m : Int) (l : Bool) (d : Int) : Prop := 1 ≤ d ∧ d ≤ mdV c y m l
instance okDec (c y m : Int) (l : Bool) (d : Int) : Decidable (okD c y m l d) := by unfold okD; infer_instance
theorem okD.in_ {c y m : Int} {l : Bool} {d : Int} (h : okD c y m l d) : c = 2 ∧ exM y m l ∧ d ≤ md m l := by
  obtain ⟨h1, h2⟩ := h
  by_cases k : c = 2 ∧ exM y m l
  · obtain ⟨rfl, k⟩ := k
    rw [mdV_in k] at h2
    exact ⟨rfl, k, h2⟩
  · rw [mdV_out k] at h2; omega
theorem okD.mk {y m : Int} {l : Bool} {d : Int} (h : exM y m l) (h1 : 1 ≤ d) (h2 : d ≤ md m l) : okD 2 y m l d := ⟨h1, by rw [mdV_in h]; exact h2⟩
/-- A valid date by its index. -/
theorem ok_ix {y m : Int} {l : Bool} (h : exM y m l) : ∃ k, 0 ≤ k ∧ k < nm (leapB y) ∧ ix (leapB y) m l = k ∧ mo (leapB y) k = m ∧ ml (leapB y) k = l ∧ ck (leapB y) (k + 1) = ck (leapB y) k + md m l := by
  obtain ⟨a, b, c, e⟩ := ix_in h.2
  refine ⟨_, a, b, rfl, c, e, ?_⟩
  rw [ck_succ _ a b, c, e]
theorem ck_le {y : Int} (h : 0 ≤ y) {k : Int} (hk : k < nm (leapB y)) : ck (leapB y) (k + 1) ≤ yd y := by
  have := ck_mono (leapB y) (i := k + 1) (j := nm (leapB y)) (by omega)
  rw [ck_year h] at this
  exact this
theorem num_range {y m : Int} {l : Bool} {d : Int} (h : okD 2 y m l d) : ys y ≤ num y m l d ∧ num y m l d < ys (y + 1) := by
  obtain ⟨_, he, h2⟩ := h.in_
  have h1 := h.1
  obtain ⟨k, k0, k1, e, _, _, es⟩ := ok_ix he
  have := ck_le he.1 k1
  have := (ck_bd (leapB y) k0 (by omega)).1
  rw [ys_succ he.1]
  unfold num
  rw [e]
  omega
theorem num_inj {y m : Int} {l : Bool} {d y' m' : Int} {l' : Bool} {d' : Int} (h : okD 2 y m l d) (h' : okD 2 y' m' l' d') (e : num y m l d = num y' m' l' d') : y = y' ∧ m = m' ∧ l = l' ∧ d = d' := by
  obtain ⟨_, he, h2⟩ := h.in_
  obtain ⟨_, he', h2'⟩ := h'.in_
  have h1 := h.1
  have h1' := h'.1
  have r := num_range h
  have r' := num_range h'
  rw [← e] at r'
  obtain rfl := ys_unique r.1 r.2 r'.1 r'.2
  obtain ⟨k, k0, k1, ek, em, el, es⟩ := ok_ix he
  obtain ⟨k', k0', k1', ek', em', el', es'⟩ := ok_ix he'
  unfold num at e
  rw [ek, ek'] at e
  have hk : k = k' := by
    by_cases g : k < k'
    · have := ck_mono (leapB y) (i := k + 1) (j := k') (by omega); omega
    · by_cases g' : k' < k
      · have := ck_mono (leapB y) (i := k' + 1) (j := k) (by omega); omega
      · omega
  subst hk
  exact ⟨rfl, em.symm.trans em', el.symm.trans el', by omega⟩
/-- What YearStart returns. -/
def ysV (y : Int) : Int × Int := if y < 0 then (0, 1) else if ys y ≤ 999999 then (ys y, 0) else (0, 2)
theorem ysV_neg {y : Int} (h : y < 0) : ysV y = (0, 1) := if_pos h
theorem ysV_ok {y : Int} (h : 0 ≤ y) (k : ys y ≤ 999999) : ysV y = (ys y, 0) := by unfold ysV; rw [if_neg (by omega), if_pos k]
theorem ysV_big {y : Int} (h : 0 ≤ y) (k : ¬ ys y ≤ 999999) : ysV y = (0, 2) := by unfold ysV; rw [if_neg (by omega), if_neg k]
/-- What Day returns. -/
def dayV (c y m : Int) (l : Bool) (d : Int) : Int × Int := if okD c y m l d then (if num y m l d ≤ 999999 then (num y m l d, 0) else (0, 2)) else (0, 1)
theorem dayV_bad {c y m : Int} {l : Bool} {d : Int} (h : ¬ okD c y m l d) : dayV c y m l d = (0, 1) := if_neg h
theorem dayV_ok {c y m : Int} {l : Bool} {d : Int} (h : okD c y m l d) (k : num y m l d ≤ 999999) : dayV c y m l d = (num y m l d, 0) := by unfold dayV; rw [if_pos h, if_pos k]
theorem dayV_big {c y m : Int} {l : Bool} {d : Int} (h : okD c y m l d) (k : ¬ num y m l d ≤ 999999) : dayV c y m l d = (0, 2) := by unfold dayV; rw [if_pos h, if_neg k]
/-- The date of the next day. -/
theorem num_next {y m : Int} {l : Bool} {d y' m' : Int} {l' : Bool} {d' : Int} (h : okD 2 y m l d) (h' : okD 2 y' m' l' d') (e : num y' m' l' d' = num y m l d + 1) :
    (d < md m l ∧ y' = y ∧ m' = m ∧ l' = l ∧ d' = d + 1) ∨
    (d = md m l ∧ ix (leapB y) m l + 1 < nm (leapB y) ∧ y' = y ∧ m' = mo (leapB y) (ix (leapB y) m l + 1) ∧ l' = ml (leapB y) (ix (leapB y) m l + 1) ∧ d' = 1) ∨
    (d = md m l ∧ ¬ ix (leapB y) m l + 1 < nm (leapB y) ∧ y' = y + 1 ∧ m' = 1 ∧ l' = false ∧ d' = 1) := by
  obtain ⟨_, he, h2⟩ := h.in_
  have h1 := h.1
  obtain ⟨k, k0, k1, ek, em, el, es⟩ := ok_ix he
  by_cases c : d < md m l
  · left
    obtain ⟨x, x1, x2, x3⟩ := num_inj h' (okD.mk (d := d + 1) he (by omega) (by omega)) (by rw [e]; unfold num; omega)
    exact ⟨c, x, x1, x2, x3⟩
  · rw [ek]
    by_cases c2 : k + 1 < nm (leapB y)
    · right; left
      obtain ⟨a, b⟩ := mo_in (b := leapB y) (k := k + 1) (by omega) c2
      have hb := md_bd (mo (leapB y) (k + 1)) (ml (leapB y) (k + 1))
      obtain ⟨x, x1, x2, x3⟩ := num_inj h' (okD.mk (y := y) (d := 1) ⟨he.1, a⟩ (by omega) (by omega)) (by rw [e]; unfold num; rw [ek, b, es]; omega)
      exact ⟨by omega, c2, x, x1, x2, x3⟩
    · right; right
      have hk : k + 1 = nm (leapB y) := by omega
      have hy := ck_year he.1
      rw [← hk, es] at hy
      have hs := ys_succ he.1
      have hi : inM (leapB (y + 1)) 1 false := ⟨by omega, by omega, fun h => by cases h⟩
      have hix : ix (leapB (y + 1)) 1 false = 0 := by unfold ix; rw [if_neg (by simp), if_neg (by omega)]; rfl
      have hb := md_bd 1 false
      obtain ⟨x, x1, x2, x3⟩ := num_inj h' (okD.mk (y := y + 1) (d := 1) ⟨by have := he.1; omega, hi⟩ (by omega) (by omega)) (by rw [e]; unfold num; rw [ek, hix, ck_zero]; omega)
      exact ⟨by omega, c2, x, x1, x2, x3⟩
theorem num_19 {y m : Int} {l : Bool} {d : Int} (h : okD 2 y m l d) : okD 2 (y + 19) m l d ∧ num (y + 19) m l d = num y m l d + 6936 := by
  obtain ⟨_, he, h2⟩ := h.in_
  have e := leap_19 he.1
  refine ⟨okD.mk ⟨by have := he.1; omega, by rw [e]; exact he.2⟩ h.1 h2, ?_⟩
  unfold num
  rw [e, ys_19]
  omega
def cmpI (a b : Int) : Int := if a < b then -1 else if b < a then 1 else 0
/-- The order of two dates: by year, month, mark and day. -/
def befV (y m : Int) (l : Bool) (d y' m' : Int) (l' : Bool) (d' : Int) : Int :=
  if y ≠ y' then cmpI y y' else if m ≠ m' then cmpI m m' else if l ≠ l' then (if l' = true then -1 else 1) else cmpI d d'
theorem cmp_lt {a b : Int} (h : a < b) : cmpI a b = -1 := if_pos h
theorem cmp_gt {a b : Int} (h : b < a) : cmpI a b = 1 := by unfold cmpI; rw [if_neg (by omega), if_pos h]
theorem cmp_eq (a : Int) : cmpI a a = 0 := by unfold cmpI; rw [if_neg (by omega), if_neg (by omega)]
theorem ix_lt {b : Bool} {m m' : Int} {l l' : Bool} (h : inM b m l) (h' : inM b m' l') (k : m < m') : ix b m l < ix b m' l' := by
  obtain ⟨h1, h2, h3⟩ := h
  obtain ⟨h1', h2', h3'⟩ := h'
  unfold ix
  cases l <;> cases l' <;> simp only [Bool.false_eq_true, if_false, if_true, forall_const] at *
  · cases b <;> simp only [Bool.false_eq_true, false_and, if_false, true_and]
    · omega
    · split <;> split <;> omega
  · split <;> omega
  · obtain ⟨rfl, rfl⟩ := h3; simp only [true_and]; rw [if_pos (by omega)]; omega
  · omega
theorem ix_mark {b : Bool} {m : Int} (h' : inM b m true) : ix b m false < ix b m true := by
  obtain ⟨rfl, rfl⟩ := h'.2.2 rfl; decide
theorem num_lt_ix {y m : Int} {l : Bool} {d m' : Int} {l' : Bool} {d' : Int} (h : okD 2 y m l d) (h' : okD 2 y m' l' d') (k : ix (leapB y) m l < ix (leapB y) m' l') : num y m l d < num y m' l' d' := by
  obtain ⟨_, he, h2⟩ := h.in_
  obtain ⟨_, he', h2'⟩ := h'.in_
  have h1' := h'.1
  obtain ⟨i, i0, i1, ei, em, el, es⟩ := ok_ix he
  have := ck_mono (leapB y) (i := i + 1) (j := ix (leapB y) m' l') (by omega)
  unfold num
  rw [ei]
  omega
theorem bef_num {y m : Int} {l : Bool} {d y' m' : Int} {l' : Bool} {d' : Int} (h : okD 2 y m l d) (h' : okD 2 y' m' l' d') : befV y m l d y' m' l' d' = cmpI (num y m l d) (num y' m' l' d') := by
  obtain ⟨_, he, h2⟩ := h.in_
  obtain ⟨_, he', h2'⟩ := h'.in_
  have r := num_range h
  have r' := num_range h'
  unfold befV
  by_cases hy : y = y'
  · subst hy
    rw [if_neg (by simp)]
    by_cases hm : m = m'
    · subst hm
      rw [if_neg (by simp)]
      by_cases hl : l = l'
      · subst hl
        rw [if_neg (by simp)]
        by_cases a : d < d'
        · rw [cmp_lt a, cmp_lt (by unfold num; omega)]
        · by_cases b : d' < d
          · rw [cmp_gt b, cmp_gt (by unfold num; omega)]
          · obtain rfl : d = d' := by omega
            rw [cmp_eq, cmp_eq]
      · rw [if_pos hl]
        cases l <;> cases l' <;> simp at hl
        · rw [if_pos rfl, cmp_lt (num_lt_ix h h' (ix_mark he'.2))]
        · rw [if_neg (by simp), cmp_gt (num_lt_ix h' h (ix_mark he.2))]
    · rw [if_pos hm]
      by_cases a : m < m'
      · rw [cmp_lt a, cmp_lt (num_lt_ix h h' (ix_lt he.2 he'.2 a))]
      · rw [cmp_gt (by omega), cmp_gt (num_lt_ix h' h (ix_lt he'.2 he.2 (by omega)))]
  · rw [if_pos hy]
    by_cases a : y < y'
    · have := ys_mono (a := y + 1) (b := y') (by omega)
      rw [cmp_lt a, cmp_lt (by omega)]
    · have := ys_mono (a := y' + 1) (b := y) (by omega)
      rw [cmp_gt (by omega), cmp_gt (by omega)]
end LunPlain
