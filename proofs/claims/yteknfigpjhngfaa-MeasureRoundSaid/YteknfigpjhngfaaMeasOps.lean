/-
  The program's Split, Join, Convert, Normalize, Normal, Compare and Add. Conditions: the slices hold the units and the parts.
-/
import Derived.Test.YteknfigpjhngfaaMeasDiv3
import Derived.Test.YteknfigpjhngfaaMeasSame
namespace Go.Proofs.Yteknfigpjhngfaa
open Go.RowKit
open MeasPlain

/-- A list and an error. -/
def ListRes (w : World) (l : List Int) (err : Int) (e : Ending) (w' : World) : Prop := (∃ (X : Option Addr) (nx cx : Nat), e = .returned (.tuple #[.slice X nx cx, .int .i64 err]) ∧ Rw vI w' X nx cx l) ∧ Aft w w'
/-- A number and an error. -/
def IntRes (w : World) (z err : Int) (e : Ending) (w' : World) : Prop := e = .returned (.tuple #[.int .i64 z, .int .i64 err]) ∧ Aft w w'
def BothRes (w : World) (a b err : Int) (e : Ending) (w' : World) : Prop := e = .returned (.tuple #[.int .i64 a, .int .i64 b, .int .i64 err]) ∧ Aft w w'

theorem split_no1 {us : List Un} (N : Int) (h : chk us = false) : splitV us N = ([], 1) := by unfold splitV; rw [h]; rfl
theorem split_no2 {us : List Un} {N : Int} (h : N < 0) : splitV us N = ([], 1) := by unfold splitV; rw [decide_eq_false (by omega), Bool.and_false]; rfl
theorem split_no3 {us : List Un} {N : Int} (h : chk us = true) (_ : ¬ N < 0) (h1 : (1099511627776 : Int) < N) : splitV us N = ([], 2) := by
  have hn : ¬ N ≤ maxC := by unfold maxC; omega
  unfold splitV
  rw [h, decide_eq_true (by omega)]
  exact if_neg hn

set_option maxHeartbeats 800000 in
theorem split_any (A : Option Addr) (n c : Nat) (us : List Un) (N : Int) (w : World) (ha : Ul w A n c us) :
    Calls Try.prog 14 #[.slice A n c, .int .i64 N] w (ListRes w (splitV us N).1 (splitV us N).2) := by
  have H1 := Lib.hid (check_any A n c us w ha)
  cases hc : chk us
  · rw [hc] at H1
    have HV := Lib.hid (split_no1 (us := us) N hc)
    clear ha hc
    go_enter Try.func14, Try.ntmps14
    go_wp2_with fail
    refine H1.out.mono ?_
    rintro e w1 ⟨rfl, N1⟩
    clear H1
    go_wp2
    go_ret2
    exact ⟨by rw [HV.out]; exact ⟨none, 0, 0, rfl, Rw.nil⟩, N1⟩
  · rw [hc] at H1
    by_cases h0 : N < 0
    · have HV := Lib.hid (split_no2 (us := us) h0)
      clear ha hc
      go_enter Try.func14, Try.ntmps14
      go_wp2_with fail
      refine H1.out.mono ?_
      rintro e w1 ⟨rfl, N1⟩
      clear H1
      go_wp2
      go_ret2
      exact ⟨by rw [HV.out]; exact ⟨none, 0, 0, rfl, Rw.nil⟩, N1⟩
    · by_cases h1 : (1099511627776 : Int) < N
      · have HV := Lib.hid (split_no3 hc h0 h1)
        clear ha hc
        go_enter Try.func14, Try.ntmps14
        go_wp2_with fail
        refine H1.out.mono ?_
        rintro e w1 ⟨rfl, N1⟩
        clear H1
        go_wp2
        go_ret2
        exact ⟨by rw [HV.out]; exact ⟨none, 0, 0, rfl, Rw.nil⟩, N1⟩
      · have HV := Lib.hid (splitV_ok hc (show 0 ≤ N by omega) (show N ≤ maxC by unfold maxC; omega))
        have hs := chk_sizes hc
        have hn8 : n ≤ 12 := by have h := hs.le; rw [List.length_map, ha.len] at h; omega
        have HA := Lib.hid ha
        have HU := Lib.hid (show ∀ u ∈ us, 1 ≤ u.2 from fun u hu => (hs.mem (List.mem_map_of_mem hu)).1)
        clear ha hc hs
        go_enter Try.func14, Try.ntmps14
        go_wp2_with fail
        refine H1.out.mono ?_
        rintro e w1 ⟨rfl, N1⟩
        clear H1
        go_wp2_with fail
        refine (divide_any A n c us N w1 (HA.out.aft N1) HU.out hn8 (by omega) (by omega)).mono ?_
        rintro e w2 ⟨X, nx, cx, rfl, hr, N2⟩
        have HR := Lib.hid hr
        clear hr
        go_wp2
        go_ret2
        exact ⟨by rw [HV.out]; exact ⟨X, nx, cx, rfl, HR.out⟩, N1.trans N2⟩

theorem join_no1 {us : List Un} {ps : List Int} {n m : Nat} (h1 : us.length = n) (h2 : ps.length = m) (h : (chk us && forB n m ps) = false) : joinV us ps = (0, 1) := by unfold joinV; rw [arg_eq h1 h2, h]; rfl
theorem join_yes {us : List Un} {ps : List Int} {n m : Nat} (h1 : us.length = n) (h2 : ps.length = m) (h : (chk us && forB n m ps) = true) : arg us ps = true ∧ joinV us ps = (sumN us ps, if sumOk us ps then 0 else 2) := by
  have ha : arg us ps = true := by rw [arg_eq h1 h2, h]
  refine ⟨ha, ?_⟩
  unfold joinV
  rw [ha, if_pos rfl]
  by_cases hs : amt (szs us) ps ≤ maxC
  · rw [if_pos hs, (sum_yes hs).1, (sum_yes hs).2, if_pos rfl]
  · rw [if_neg hs, (sum_no hs).1, (sum_no hs).2, if_neg (by simp)]

set_option maxHeartbeats 800000 in
theorem join_any (A : Option Addr) (n c : Nat) (us : List Un) (B : Option Addr) (m d : Nat) (ps : List Int) (w : World) (ha : Ul w A n c us) (hb : Rw vI w B m d ps) :
    Calls Try.prog 19 #[.slice A n c, .slice B m d] w (IntRes w (joinV us ps).1 (joinV us ps).2) := by
  have hnm : n ≤ 9223372036854775807 := by have := ha.le; have := ha.cmax; omega
  have H1 := Lib.hid (check_any A n c us w ha)
  have HA := Lib.hid ha
  have HB := Lib.hid hb
  have hl1 := ha.len
  have hl2 := hb.len
  clear ha hb
  cases hc : chk us
  · rw [hc] at H1
    have HV := Lib.hid (join_no1 hl1 hl2 (by rw [hc]; rfl))
    clear hc hl1 hl2
    go_enter Try.func19, Try.ntmps19
    go_wp2_with fail
    refine H1.out.mono ?_
    rintro e w1 ⟨rfl, N1⟩
    clear H1
    go_wp2
    go_ret2
    exact ⟨by rw [HV.out]; rfl, N1⟩
  · rw [hc] at H1
    cases hf : forB n m ps
    · have HV := Lib.hid (join_no1 hl1 hl2 (by rw [hc, hf]; rfl))
      have HF := Lib.hid hf
      clear hc hl1 hl2 hf
      go_enter Try.func19, Try.ntmps19
      go_wp2_with fail
      refine H1.out.mono ?_
      rintro e w1 ⟨rfl, N1⟩
      clear H1
      go_wp2_with fail
      have h2 := areFor_any B m d ps A n c w1 (HB.out.aft N1) hnm
      rw [HF.out] at h2
      refine h2.mono ?_
      rintro e w2 ⟨rfl, rfl⟩
      clear h2
      go_wp2
      go_ret2
      exact ⟨by rw [HV.out]; rfl, N1⟩
    · have hJ := join_yes hl1 hl2 (show (chk us && forB n m ps) = true by rw [hc, hf]; rfl)
      have hsz := chk_sizes hc
      have HS := Lib.hid (show ∀ s ∈ szs us, 1 ≤ s ∧ s ≤ 1000000 from fun s hs => hsz.mem hs)
      have HP := Lib.hid (arg_facts hJ.1).2.2
      have HV := Lib.hid hJ.2
      have HF := Lib.hid hf
      obtain rfl : m = n := by unfold forB at hf; simp only [Bool.and_eq_true, decide_eq_true_eq] at hf; exact hf.1
      clear hc hl1 hl2 hf hJ hsz
      cases hk : sumOk us ps
      · rw [hk] at HV
        have HK := Lib.hid hk
        have HZ := Lib.hid (show sumN us ps = 0 by unfold sumOk at hk; exact (sum_no (of_decide_eq_false hk)).1)
        clear hk
        go_enter Try.func19, Try.ntmps19
        go_wp2_with fail
        refine H1.out.mono ?_
        rintro e w1 ⟨rfl, N1⟩
        clear H1
        go_wp2_with fail
        have h2 := areFor_any B m d ps A m c w1 (HB.out.aft N1) hnm
        rw [HF.out] at h2
        refine h2.mono ?_
        rintro e w2 ⟨rfl, rfl⟩
        clear h2
        go_wp2_with fail
        have h3 := sum_any B m d ps A c us w1 (HB.out.aft N1) (HA.out.aft N1) HS.out HP.out
        rw [HK.out] at h3
        refine h3.mono ?_
        rintro e w3 ⟨rfl, N3⟩
        clear h3
        go_wp2
        go_ret2
        exact ⟨by rw [HV.out, HZ.out]; rfl, N1.trans N3⟩
      · rw [hk] at HV
        have HK := Lib.hid hk
        clear hk
        go_enter Try.func19, Try.ntmps19
        go_wp2_with fail
        refine H1.out.mono ?_
        rintro e w1 ⟨rfl, N1⟩
        clear H1
        go_wp2_with fail
        have h2 := areFor_any B m d ps A m c w1 (HB.out.aft N1) hnm
        rw [HF.out] at h2
        refine h2.mono ?_
        rintro e w2 ⟨rfl, rfl⟩
        clear h2
        go_wp2_with fail
        have h3 := sum_any B m d ps A c us w1 (HB.out.aft N1) (HA.out.aft N1) HS.out HP.out
        rw [HK.out] at h3
        generalize sumN us ps = Z at *
        refine h3.mono ?_
        rintro e w3 ⟨rfl, N3⟩
        clear h3
        go_wp2
        go_ret2
        exact ⟨by rw [HV.out]; rfl, N1.trans N3⟩

theorem conv_no {us vs : List Un} {ps : List Int} (h : chk vs = false) : convV us vs ps = ([], 1) := by unfold convV; rw [h]; rfl
theorem conv_err {us vs : List Un} {ps : List Int} (h : chk vs = true) (he : ¬ (joinV us ps).2 = 0) : convV us vs ps = ([], (joinV us ps).2) := by unfold convV; rw [h, if_pos rfl, if_neg he]
theorem conv_yes {us vs : List Un} {ps : List Int} (h : chk vs = true) (he : (joinV us ps).2 = 0) : convV us vs ps = splitV vs (joinV us ps).1 := by unfold convV; rw [h, if_pos rfl, if_pos he]

set_option maxHeartbeats 800000 in
theorem convert_any (A : Option Addr) (n c : Nat) (us : List Un) (A2 : Option Addr) (n2 c2 : Nat) (vs : List Un) (B : Option Addr) (m d : Nat) (ps : List Int) (w : World) (ha : Ul w A n c us) (hv : Ul w A2 n2 c2 vs) (hb : Rw vI w B m d ps) :
    Calls Try.prog 24 #[.slice A n c, .slice A2 n2 c2, .slice B m d] w (ListRes w (convV us vs ps).1 (convV us vs ps).2) := by
  have H1 := Lib.hid (check_any A2 n2 c2 vs w hv)
  have HA := Lib.hid ha
  have HB := Lib.hid hb
  have HC := Lib.hid hv
  clear ha hb hv
  cases hc : chk vs
  · rw [hc] at H1
    have HV := Lib.hid (conv_no (us := us) (ps := ps) hc)
    clear hc
    go_enter Try.func24, Try.ntmps24
    go_wp2_with fail
    refine H1.out.mono ?_
    rintro e w1 ⟨rfl, N1⟩
    clear H1
    go_wp2
    go_ret2
    exact ⟨by rw [HV.out]; exact ⟨none, 0, 0, rfl, Rw.nil⟩, N1⟩
  · rw [hc] at H1
    have H2 := Lib.hid (fun w0 (a : Aft w w0) => join_any A n c us B m d ps w0 (HA.out.aft a) (HB.out.aft a))
    by_cases he : (joinV us ps).2 = 0
    · have HV := Lib.hid (conv_yes hc he)
      rw [he] at H2
      clear hc he
      generalize (joinV us ps).1 = J at *
      go_enter Try.func24, Try.ntmps24
      go_wp2_with fail
      refine H1.out.mono ?_
      rintro e w1 ⟨rfl, N1⟩
      clear H1
      go_wp2_with fail
      refine (H2.out w1 N1).mono ?_
      rintro e w2 ⟨rfl, N2⟩
      clear H2
      go_wp2_with fail
      refine (split_any A2 n2 c2 vs J w2 (HC.out.aft (N1.trans N2))).mono ?_
      rintro e w3 ⟨⟨X, nx, cx, rfl, hr⟩, N3⟩
      have HR := Lib.hid hr
      clear hr
      go_wp2
      go_ret2
      exact ⟨by rw [HV.out]; exact ⟨X, nx, cx, rfl, HR.out⟩, (N1.trans N2).trans N3⟩
    · have HV := Lib.hid (conv_err hc he)
      clear hc
      generalize (joinV us ps).1 = J at *
      generalize (joinV us ps).2 = E at *
      have heb : (E != 0) = true := by simp [he]
      go_enter Try.func24, Try.ntmps24
      go_wp2_with fail
      refine H1.out.mono ?_
      rintro e w1 ⟨rfl, N1⟩
      clear H1
      go_wp2_with fail
      refine (H2.out w1 N1).mono ?_
      rintro e w2 ⟨rfl, N2⟩
      clear H2
      go_wp2
      go_ret2
      exact ⟨by rw [HV.out]; exact ⟨none, 0, 0, rfl, Rw.nil⟩, N1.trans N2⟩

theorem normalize_any (A : Option Addr) (n c : Nat) (us : List Un) (B : Option Addr) (m d : Nat) (ps : List Int) (w : World) (ha : Ul w A n c us) (hb : Rw vI w B m d ps) :
    Calls Try.prog 23 #[.slice A n c, .slice B m d] w (ListRes w (convV us us ps).1 (convV us us ps).2) := by
  have H1 := Lib.hid (convert_any A n c us A n c us B m d ps w ha ha hb)
  clear ha hb
  generalize (convV us us ps).1 = L at *
  generalize (convV us us ps).2 = E at *
  go_enter Try.func23, Try.ntmps23
  go_wp2_with fail
  refine H1.out.mono ?_
  rintro e w1 ⟨⟨X, nx, cx, rfl, hr⟩, N1⟩
  have HR := Lib.hid hr
  clear H1 hr
  go_wp2
  go_ret2
  exact ⟨⟨X, nx, cx, rfl, HR.out⟩, N1⟩

set_option maxHeartbeats 800000 in
theorem normal_any (A : Option Addr) (n c : Nat) (us : List Un) (B : Option Addr) (m d : Nat) (ps : List Int) (w : World) (ha : Ul w A n c us) (hb : Rw vI w B m d ps) :
    Calls Try.prog 21 #[.slice A n c, .slice B m d] w (BoolPost w (normB us ps)) := by
  have H1 := Lib.hid (normalize_any A n c us B m d ps w ha hb)
  have HB := Lib.hid hb
  have HV := Lib.hid (show normB us ps = (decide ((convV us us ps).2 = 0) && decide (ps = (convV us us ps).1)) from rfl)
  clear ha hb
  generalize (convV us us ps).1 = L at *
  generalize (convV us us ps).2 = E at *
  by_cases he : E = 0
  · subst he
    rw [decide_eq_true rfl, Bool.true_and] at HV
    go_enter Try.func21, Try.ntmps21
    go_wp2_with fail
    refine H1.out.mono ?_
    rintro e w1 ⟨⟨X, nx, cx, rfl, hr⟩, N1⟩
    have HR := Lib.hid hr
    clear H1 hr
    go_wp2_with fail
    have h2 := equal_any B m d ps X nx cx L w1 (HB.out.aft N1) HR.out
    generalize decide (ps = L) = Q at *
    refine h2.mono ?_
    rintro e w2 ⟨rfl, N2⟩
    clear h2
    go_wp2
    go_ret
    exact ⟨by rw [HV.out]; rfl, N1.trans N2⟩
  · rw [decide_eq_false he, Bool.false_and] at HV
    have heb : (E == 0) = false := by simp [he]
    go_enter Try.func21, Try.ntmps21
    go_wp2_with fail
    refine H1.out.mono ?_
    rintro e w1 ⟨⟨X, nx, cx, rfl, hr⟩, N1⟩
    clear H1 hr
    go_wp2
    go_ret
    exact ⟨by rw [HV.out]; rfl, N1⟩

theorem join_errs (us : List Un) (ps : List Int) : (joinV us ps).2 = 0 ∨ (joinV us ps).2 = 1 ∨ (joinV us ps).2 = 2 := by
  rcases joinV_cases us ps with ⟨_, h⟩ | ⟨_, _, h⟩ | ⟨_, _, _, h⟩ <;> rw [h] <;> simp

set_option maxHeartbeats 1600000 in
theorem joinBoth_any (A : Option Addr) (n c : Nat) (us : List Un) (B : Option Addr) (m d : Nat) (p : List Int) (B2 : Option Addr) (m2 d2 : Nat) (q : List Int) (w : World) (ha : Ul w A n c us) (hb : Rw vI w B m d p) (hq : Rw vI w B2 m2 d2 q) :
    Calls Try.prog 36 #[.slice A n c, .slice B m d, .slice B2 m2 d2] w (BothRes w (bothV us p q).1 (bothV us p q).2.1 (bothV us p q).2.2) := by
  have H1 := Lib.hid (join_any A n c us B m d p w ha hb)
  have H2 := Lib.hid (fun w0 (a : Aft w w0) => join_any A n c us B2 m2 d2 q w0 (ha.aft a) (hq.aft a))
  have HV := Lib.hid (show bothV us p q = if (joinV us p).2 = 1 ∨ (joinV us q).2 = 1 then (0, 0, 1) else if (joinV us p).2 = 0 ∧ (joinV us q).2 = 0 then ((joinV us p).1, (joinV us q).1, 0) else (0, 0, 2) from rfl)
  have he := join_errs us p
  have hf := join_errs us q
  clear ha hb hq
  generalize (joinV us p).1 = a at *
  generalize (joinV us p).2 = e1 at *
  generalize (joinV us q).1 = b at *
  generalize (joinV us q).2 = e2 at *
  rcases he with rfl | rfl | rfl <;> rcases hf with rfl | rfl | rfl
  all_goals
    go_enter Try.func36, Try.ntmps36
    go_wp2_with fail
    refine H1.out.mono ?_
    rintro e w1 ⟨rfl, N1⟩
    clear H1
    go_wp2_with fail
    refine (H2.out w1 N1).mono ?_
    rintro e w2 ⟨rfl, N2⟩
    clear H2
    go_wp2
    go_ret3
    exact ⟨by rw [HV.out]; first | rfl | simp, N1.trans N2⟩

set_option maxHeartbeats 800000 in
theorem compare_any (A : Option Addr) (n c : Nat) (us : List Un) (B : Option Addr) (m d : Nat) (p : List Int) (B2 : Option Addr) (m2 d2 : Nat) (q : List Int) (w : World) (ha : Ul w A n c us) (hb : Rw vI w B m d p) (hq : Rw vI w B2 m2 d2 q) :
    Calls Try.prog 27 #[.slice A n c, .slice B m d, .slice B2 m2 d2] w (IntRes w (cmpI (bothV us p q).1 (bothV us p q).2.1) (bothV us p q).2.2) := by
  have H1 := Lib.hid (joinBoth_any A n c us B m d p B2 m2 d2 q w ha hb hq)
  clear ha hb hq
  generalize (bothV us p q).1 = a at *
  generalize (bothV us p q).2.1 = b at *
  generalize (bothV us p q).2.2 = E at *
  go_enter Try.func27, Try.ntmps27
  go_wp2_with fail
  refine H1.out.mono ?_
  rintro e w1 ⟨rfl, N1⟩
  clear H1
  go_wp2_with fail
  refine (cmp_any a b w1).mono ?_
  rintro e w2 ⟨rfl, rfl⟩
  go_wp2
  go_ret2
  exact ⟨rfl, N1⟩

set_option maxHeartbeats 800000 in
theorem add_any (A : Option Addr) (n c : Nat) (us : List Un) (B : Option Addr) (m d : Nat) (p : List Int) (B2 : Option Addr) (m2 d2 : Nat) (q : List Int) (w : World) (ha : Ul w A n c us) (hb : Rw vI w B m d p) (hq : Rw vI w B2 m2 d2 q) :
    Calls Try.prog 28 #[.slice A n c, .slice B m d, .slice B2 m2 d2] w (ListRes w (addV us p q).1 (addV us p q).2) := by
  have H1 := Lib.hid (joinBoth_any A n c us B m d p B2 m2 d2 q w ha hb hq)
  have HA := Lib.hid ha
  have HV := Lib.hid (show addV us p q = if (bothV us p q).2.2 = 0 then splitV us ((bothV us p q).1 + (bothV us p q).2.1) else ([], (bothV us p q).2.2) from rfl)
  obtain ⟨r0, r1, r2, r3⟩ := both_range us p q
  unfold maxC at r1 r3
  clear ha hb hq
  generalize (bothV us p q).1 = a at *
  generalize (bothV us p q).2.1 = b at *
  generalize (bothV us p q).2.2 = E at *
  by_cases he : E = 0
  · subst he
    rw [if_pos rfl] at HV
    go_enter Try.func28, Try.ntmps28
    go_wp2_with fail
    refine H1.out.mono ?_
    rintro e w1 ⟨rfl, N1⟩
    clear H1
    go_wp2_with fail
    refine (split_any A n c us (a + b) w1 (HA.out.aft N1)).mono ?_
    rintro e w2 ⟨⟨X, nx, cx, rfl, hr⟩, N2⟩
    have HR := Lib.hid hr
    clear hr
    go_wp2
    go_ret2
    exact ⟨by rw [HV.out]; exact ⟨X, nx, cx, rfl, HR.out⟩, N1.trans N2⟩
  · rw [if_neg he] at HV
    have heb : (E != 0) = true := by simp [he]
    go_enter Try.func28, Try.ntmps28
    go_wp2_with fail
    refine H1.out.mono ?_
    rintro e w1 ⟨rfl, N1⟩
    clear H1
    go_wp2
    go_ret2
    exact ⟨by rw [HV.out]; exact ⟨none, 0, 0, rfl, Rw.nil⟩, N1⟩
end Go.Proofs.Yteknfigpjhngfaa
