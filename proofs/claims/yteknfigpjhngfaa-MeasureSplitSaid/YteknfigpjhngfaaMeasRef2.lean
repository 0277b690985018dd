/-
  The reference's Normal, Convert and Both. Conditions: the slices hold the units and the parts.
-/
import Derived.Test.YteknfigpjhngfaaMeasRef
namespace Go.Proofs.Yteknfigpjhngfaa
open Go.RowKit
open MeasPlain

theorem conv_self_err {us : List Un} {ps : List Int} (h : ¬ (joinV us ps).2 = 0) : convV us us ps = ([], (joinV us ps).2) := by
  cases hc : chk us
  · rw [conv_no hc]
    have : joinV us ps = (0, 1) := by unfold joinV arg; rw [hc]; rfl
    rw [this]
  · exact conv_err hc h
theorem conv_self_ok {us : List Un} {ps : List Int} (h : (joinV us ps).2 = 0) : convV us us ps = (parts (szs us) (joinV us ps).1, 0) ∧ splitV us (joinV us ps).1 = (parts (szs us) (joinV us ps).1, 0) := by
  have hc := (joinV_chk h).1
  have hr := joinV_range us ps
  rw [conv_yes hc h]
  exact ⟨splitV_ok hc hr.1 hr.2, splitV_ok hc hr.1 hr.2⟩
theorem norm_err {us : List Un} {ps : List Int} (h : ¬ (joinV us ps).2 = 0) : normB us ps = false := by
  cases hn : normB us ps
  · rfl
  · exact absurd (norm_iff.1 hn).1 h
theorem norm_ok {us : List Un} {ps : List Int} (h : (joinV us ps).2 = 0) : normB us ps = decide ((splitV us (joinV us ps).1).1 = ps) := by
  rw [(conv_self_ok h).2]
  by_cases e : parts (szs us) (joinV us ps).1 = ps
  · rw [decide_eq_true e]; exact norm_iff.2 ⟨h, e.symm⟩
  · rw [decide_eq_false e]
    cases hn : normB us ps
    · rfl
    · exact absurd (norm_iff.1 hn).2.symm e

set_option maxHeartbeats 800000 in
theorem refNormal_any (A : Option Addr) (n c : Nat) (us : List Un) (B : Option Addr) (m d : Nat) (ps : List Int) (w : World) (ha : Ul w A n c us) (hb : Rw vI w B m d ps) :
    Calls Try.prog 22 #[.slice A n c, .slice B m d] w (BoolPost w (normB us ps)) := by
  have HA := Lib.hid ha
  have HB := Lib.hid hb
  have H1 := Lib.hid (refJoin_any A n c us B m d ps w ha hb)
  clear ha hb
  by_cases he : (joinV us ps).2 = 0
  · have HV := Lib.hid (norm_ok he)
    rw [he] at H1
    clear he
    generalize (joinV us ps).1 = J at *
    go_enter Try.func22, Try.ntmps22
    go_wp2_with fail
    have h1 := H1.out
    refine h1.mono ?_
    rintro e w1 ⟨rfl, N1⟩
    clear h1
    have A1 := N1
    go_wp2_with fail
    have h1 := refSplit_any A n c us J w1 (HA.out.aft A1)
    refine h1.mono ?_
    rintro e w2 ⟨⟨Xq, nq, cq, rfl, rq⟩, N2⟩
    clear h1
    have A2 := A1.trans N2
    have Rq := Lib.hid rq
    clear rq
    go_wp2_with fail
    have h1 := rsame_any Xq nq cq _ B m d ps w2 Rq.out (HB.out.aft A2)
    generalize decide ((splitV us J).1 = ps) = Q at *
    refine h1.mono ?_
    rintro e w3 ⟨rfl, N3⟩
    clear h1
    go_wp2
    go_ret
    exact ⟨by rw [HV.out]; rfl, A2.trans N3⟩
  · have HV := Lib.hid (norm_err he)
    have heb : ((joinV us ps).2 != 0) = true := by simp [he]
    generalize (joinV us ps).1 = J at *
    generalize (joinV us ps).2 = E at *
    go_enter Try.func22, Try.ntmps22
    go_wp2_with fail
    have h1 := H1.out
    refine h1.mono ?_
    rintro e w1 ⟨rfl, N1⟩
    clear h1
    have A1 := N1
    go_wp2
    go_ret
    exact ⟨by rw [HV.out]; rfl, A1⟩

theorem conv_bad {us vs : List Un} {ps : List Int} (h : arg us ps = false) : convV us vs ps = ([], 1) := by
  unfold convV
  have : joinV us ps = (0, 1) := by unfold joinV; rw [h]; rfl
  rw [this]
  cases chk vs <;> rfl

set_option maxHeartbeats 1600000 in
theorem refConvert_any (A : Option Addr) (n c : Nat) (us : List Un) (Av : Option Addr) (n2 c2 : Nat) (vs : List Un) (B : Option Addr) (m d : Nat) (ps : List Int) (w : World) (ha : Ul w A n c us) (hv : Ul w Av n2 c2 vs) (hb : Rw vI w B m d ps) :
    Calls Try.prog 25 #[.slice A n c, .slice Av n2 c2, .slice B m d] w (ListRes w (convV us vs ps).1 (convV us vs ps).2) := by
  have H1 := Lib.hid (refValid_any A n c us B m d ps w ha hb)
  have H2 := Lib.hid (fun w0 (a : Aft w w0) => refCheck_any Av n2 c2 vs w0 (hv.aft a))
  have H3 := Lib.hid (fun w0 (a : Aft w w0) => refJoin_any A n c us B m d ps w0 (ha.aft a) (hb.aft a))
  have HC := Lib.hid hv
  clear ha hb hv
  cases hx : arg us ps
  · rw [hx] at H1
    have HV := Lib.hid (conv_bad (vs := vs) hx)
    clear hx
    go_enter Try.func25, Try.ntmps25
    go_wp2_with fail
    have h1 := H1.out
    refine h1.mono ?_
    rintro e w1 ⟨rfl, N1⟩
    clear h1
    have A1 := N1
    go_wp2
    go_ret2
    exact ⟨by rw [HV.out]; exact ⟨none, 0, 0, rfl, Rw.nil⟩, A1⟩
  · rw [hx] at H1
    clear hx
    cases hc : chk vs
    · rw [hc] at H2
      have HV := Lib.hid (conv_no (us := us) (ps := ps) hc)
      clear hc
      go_enter Try.func25, Try.ntmps25
      go_wp2_with fail
      have h1 := H1.out
      refine h1.mono ?_
      rintro e w1 ⟨rfl, N1⟩
      clear h1
      have A1 := N1
      go_wp2_with fail
      have h1 := H2.out w1 A1
      refine h1.mono ?_
      rintro e w2 ⟨rfl, N2⟩
      clear h1
      have A2 := A1.trans N2
      go_wp2
      go_ret2
      exact ⟨by rw [HV.out]; exact ⟨none, 0, 0, rfl, Rw.nil⟩, A2⟩
    · rw [hc] at H2
      by_cases he : (joinV us ps).2 = 0
      · have HV := Lib.hid (conv_yes hc he)
        rw [he] at H3
        clear hc he
        generalize (joinV us ps).1 = J at *
        go_enter Try.func25, Try.ntmps25
        go_wp2_with fail
        have h1 := H1.out
        refine h1.mono ?_
        rintro e w1 ⟨rfl, N1⟩
        clear h1
        have A1 := N1
        go_wp2_with fail
        have h1 := H2.out w1 A1
        refine h1.mono ?_
        rintro e w2 ⟨rfl, N2⟩
        clear h1
        have A2 := A1.trans N2
        go_wp2_with fail
        have h1 := H3.out w2 A2
        refine h1.mono ?_
        rintro e w3 ⟨rfl, N3⟩
        clear h1
        have A3 := A2.trans N3
        go_wp2_with fail
        have h1 := refSplit_any Av n2 c2 vs J w3 (HC.out.aft A3)
        refine h1.mono ?_
        rintro e w4 ⟨⟨Xq, nq, cq, rfl, rq⟩, N4⟩
        clear h1
        have A4 := A3.trans N4
        have Rq := Lib.hid rq
        clear rq
        go_wp2
        go_ret2
        exact ⟨by rw [HV.out]; exact ⟨Xq, nq, cq, rfl, Rq.out⟩, A4⟩
      · have HV := Lib.hid (conv_err hc he)
        have heb : ((joinV us ps).2 != 0) = true := by simp [he]
        clear hc
        generalize (joinV us ps).1 = J at *
        generalize (joinV us ps).2 = E at *
        go_enter Try.func25, Try.ntmps25
        go_wp2_with fail
        have h1 := H1.out
        refine h1.mono ?_
        rintro e w1 ⟨rfl, N1⟩
        clear h1
        have A1 := N1
        go_wp2_with fail
        have h1 := H2.out w1 A1
        refine h1.mono ?_
        rintro e w2 ⟨rfl, N2⟩
        clear h1
        have A2 := A1.trans N2
        go_wp2_with fail
        have h1 := H3.out w2 A2
        refine h1.mono ?_
        rintro e w3 ⟨rfl, N3⟩
        clear h1
        have A3 := A2.trans N3
        go_wp2
        go_ret2
        exact ⟨by rw [HV.out]; exact ⟨none, 0, 0, rfl, Rw.nil⟩, A3⟩

theorem both_bad {us : List Un} {p q : List Int} (h : arg us p = false ∨ arg us q = false) : bothV us p q = (0, 0, 1) := by
  have : (joinV us p).2 = 1 ∨ (joinV us q).2 = 1 := by
    rcases h with h | h
    · left; unfold joinV; rw [h]; rfl
    · right; unfold joinV; rw [h]; rfl
  unfold bothV
  rw [if_pos this]
theorem join_arg {us : List Un} {ps : List Int} (h : arg us ps = true) : (joinV us ps).2 = 0 ∨ (joinV us ps).2 = 2 := by
  rcases joinV_cases us ps with ⟨h', _⟩ | ⟨_, _, e⟩ | ⟨_, _, _, e⟩
  · rw [h] at h'; cases h'
  · right; rw [e]
  · left; rw [e]

set_option maxHeartbeats 1600000 in
theorem refBoth_any (A : Option Addr) (n c : Nat) (us : List Un) (B : Option Addr) (m d : Nat) (p : List Int) (B2 : Option Addr) (m2 d2 : Nat) (q : List Int) (w : World) (ha : Ul w A n c us) (hb : Rw vI w B m d p) (hq : Rw vI w B2 m2 d2 q) :
    Calls Try.prog 26 #[.slice A n c, .slice B m d, .slice B2 m2 d2] w (BothRes w (bothV us p q).1 (bothV us p q).2.1 (bothV us p q).2.2) := by
  have H1 := Lib.hid (refValid_any A n c us B m d p w ha hb)
  have H2 := Lib.hid (fun w0 (a : Aft w w0) => refValid_any A n c us B2 m2 d2 q w0 (ha.aft a) (hq.aft a))
  have H3 := Lib.hid (fun w0 (a : Aft w w0) => refJoin_any A n c us B m d p w0 (ha.aft a) (hb.aft a))
  have H4 := Lib.hid (fun w0 (a : Aft w w0) => refJoin_any A n c us B2 m2 d2 q w0 (ha.aft a) (hq.aft a))
  clear ha hb hq
  cases hx : arg us p
  · rw [hx] at H1
    have HV := Lib.hid (both_bad (q := q) (.inl hx))
    clear hx
    go_enter Try.func26, Try.ntmps26
    go_wp2_with fail
    have h1 := H1.out
    refine h1.mono ?_
    rintro e w1 ⟨rfl, N1⟩
    clear h1
    have A1 := N1
    go_wp2
    go_ret3
    exact ⟨by rw [HV.out]; rfl, A1⟩
  · rw [hx] at H1
    cases hy : arg us q
    · rw [hy] at H2
      have HV := Lib.hid (both_bad (p := p) (.inr hy))
      clear hx hy
      go_enter Try.func26, Try.ntmps26
      go_wp2_with fail
      have h1 := H1.out
      refine h1.mono ?_
      rintro e w1 ⟨rfl, N1⟩
      clear h1
      have A1 := N1
      go_wp2_with fail
      have h1 := H2.out w1 A1
      refine h1.mono ?_
      rintro e w2 ⟨rfl, N2⟩
      clear h1
      have A2 := A1.trans N2
      go_wp2
      go_ret3
      exact ⟨by rw [HV.out]; rfl, A2⟩
    · rw [hy] at H2
      have HV := Lib.hid (show bothV us p q = if (joinV us p).2 = 1 ∨ (joinV us q).2 = 1 then (0, 0, 1) else if (joinV us p).2 = 0 ∧ (joinV us q).2 = 0 then ((joinV us p).1, (joinV us q).1, 0) else (0, 0, 2) from rfl)
      have he := join_arg hx
      have hf := join_arg hy
      clear hx hy
      generalize (joinV us p).1 = a at *
      generalize (joinV us p).2 = e1 at *
      generalize (joinV us q).1 = b at *
      generalize (joinV us q).2 = e2 at *
      rcases he with rfl | rfl <;> rcases hf with rfl | rfl
      all_goals
        go_enter Try.func26, Try.ntmps26
        go_wp2_with fail
        have h1 := H1.out
        refine h1.mono ?_
        rintro e w1 ⟨rfl, N1⟩
        clear h1
        have A1 := N1
        go_wp2_with fail
        have h1 := H2.out w1 A1
        refine h1.mono ?_
        rintro e w2 ⟨rfl, N2⟩
        clear h1
        have A2 := A1.trans N2
        go_wp2_with fail
        have h1 := H3.out w2 A2
        refine h1.mono ?_
        rintro e w3 ⟨rfl, N3⟩
        clear h1
        have A3 := A2.trans N3
        go_wp2_with fail
        have h1 := H4.out w3 A3
        refine h1.mono ?_
        rintro e w4 ⟨rfl, N4⟩
        clear h1
        have A4 := A3.trans N4
        go_wp2
        go_ret3
        exact ⟨by rw [HV.out]; first | rfl | simp, A4⟩
end Go.Proofs.Yteknfigpjhngfaa
