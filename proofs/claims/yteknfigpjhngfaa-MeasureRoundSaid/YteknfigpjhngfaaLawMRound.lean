/-
  Parts that are converted to other units and back are the same amount, in normal form: the law MeasureRound returns true. Conditions: none.
-/
import Derived.Test.YteknfigpjhngfaaMeasFrame
import Derived.Test.YteknfigpjhngfaaRows
namespace Go.Proofs.Yteknfigpjhngfaa.lawMRound
open Go.ChangeShapes Go.WideShapes Go.ChangeAt Go.RowKit
open MeasPlain

set_option maxRecDepth 100000 in
set_option maxHeartbeats 1600000 in
theorem walk (A : Option Addr) (n c : Nat) (us : List Un) (Av : Option Addr) (n2 c2 : Nat) (vs : List Un) (B : Option Addr) (m d : Nat) (ps : List Int) (w : World) (ha : Ul w A n c us) (_ : c * 24 ≤ reachBytes) (hv : Ul w Av n2 c2 vs) (_ : c2 * 24 ≤ reachBytes) (hb : Rw vI w B m d ps) (_ : ∀ z ∈ ps, (Lit.int .i64 z).wf = true)  :
    Calls Try.prog 9 #[.slice A n c, .slice Av n2 c2, .slice B m d] w (BoolPost w true) := by
  have hm : m ≤ 9223372036854775807 := by have := hb.le; have := hb.cmax; omega
  cases hg : greatB n m us
  · cases hg2 : greatB n2 0 vs
    · have H1 := Lib.hid (fun w0 (a : Aft w w0) => convert_any A n c us Av n2 c2 vs B m d ps w0 (ha.aft a) (hv.aft a) (hb.aft a))
      by_cases hE : (convV us vs ps).2 = 0
      · have hcv : chk vs = true := by
          cases hc : chk vs
          · rw [conv_no hc] at hE; simp at hE
          · rfl
        have hj : (joinV us ps).2 = 0 := by
          by_cases hj : (joinV us ps).2 = 0
          · exact hj
          · rw [conv_err hcv hj] at hE; exact absurd hE hj
        have hcu := (joinV_chk hj).1
        have hr := joinV_range us ps
        have e1 : convV us vs ps = (parts (szs vs) (joinV us ps).1, 0) := by rw [conv_yes hcv hj, splitV_ok hcv hr.1 hr.2]
        have e2 := join_split hcv hr.1 hr.2
        have e3 : convV vs us (parts (szs vs) (joinV us ps).1) = (parts (szs us) (joinV us ps).1, 0) := by rw [conv_yes hcu (by rw [e2]), e2, splitV_ok hcu hr.1 hr.2]
        have e4 := (conv_self_ok hj).1
        have e5 := norm_split hcv hr.1 hr.2
        rw [e1] at H1
        dsimp only at H1
        have H2 := Lib.hid (fun w0 (a : Aft w w0) => fun (X : Option Addr) (nx cx : Nat) (r : Rw vI w0 X nx cx (parts (szs vs) (joinV us ps).1)) => convert_any Av n2 c2 vs A n c us X nx cx _ w0 (hv.aft a) (ha.aft a) r)
        have H3 := Lib.hid (fun w0 (a : Aft w w0) => normalize_any A n c us B m d ps w0 (ha.aft a) (hb.aft a))
        have H4 := Lib.hid (fun w0 (a : Aft w w0) => fun (X : Option Addr) (nx cx : Nat) (r : Rw vI w0 X nx cx (parts (szs vs) (joinV us ps).1)) => join_any Av n2 c2 vs X nx cx _ w0 (hv.aft a) r)
        have H5 := Lib.hid (fun w0 (a : Aft w w0) => join_any A n c us B m d ps w0 (ha.aft a) (hb.aft a))
        have H6 := Lib.hid (fun w0 (a : Aft w w0) => fun (X : Option Addr) (nx cx : Nat) (r : Rw vI w0 X nx cx (parts (szs vs) (joinV us ps).1)) => normal_any Av n2 c2 vs X nx cx _ w0 (hv.aft a) r)
        rw [e3] at H2
        rw [e4] at H3
        rw [e2] at H4
        rw [hj] at H5
        rw [e5] at H6
        dsimp only at H2 H3 H4
        clear hE hcv hcu hr e1 e2 e3 e4 e5 hj
        generalize (joinV us ps).1 = J at *
        generalize parts (szs vs) J = L at *
        generalize parts (szs us) J = M at *
        go_enter Try.func9, Try.ntmps9
        go_wp2_with fail
        have h1 := awake_any w
        refine h1.mono ?_
        rintro e w1 ⟨rfl, N1⟩
        clear h1
        have A1 := N1
        go_wp2_with fail
        have h1 := great_any A n c us B m d w1 (ha.aft A1) hm
        rw [hg] at h1
        refine h1.mono ?_
        rintro e w2 ⟨rfl, N2⟩
        clear h1
        have A2 := A1.trans N2
        go_wp2_with fail
        have h1 := great_any Av n2 c2 vs none 0 0 w2 (hv.aft A2) (by omega)
        rw [hg2] at h1
        refine h1.mono ?_
        rintro e w3 ⟨rfl, N3⟩
        clear h1
        have A3 := A2.trans N3
        go_wp2_with fail
        have h1 := H1.out w3 A3
        refine h1.mono ?_
        rintro e w4 ⟨⟨Xt, nt, ct, rfl, rt⟩, N4⟩
        clear h1
        have A4 := A3.trans N4
        have Rt := Lib.hid (Rw.aft rt (Aft.refl w4))
        clear rt
        go_wp2_with fail
        have h1 := H2.out w4 A4 Xt nt ct Rt.out
        refine h1.mono ?_
        rintro e w5 ⟨⟨Xb, nb, cb, rfl, rb⟩, N5⟩
        clear h1
        have A5 := A4.trans N5
        have Rb := Lib.hid (Rw.aft rb (Aft.refl w5))
        clear rb
        go_wp2_with fail
        have h1 := H3.out w5 A5
        refine h1.mono ?_
        rintro e w6 ⟨⟨Xy, ny, cy, rfl, ry⟩, N6⟩
        clear h1
        have A6 := A5.trans N6
        have Ry := Lib.hid (Rw.aft ry (Aft.refl w6))
        clear ry
        go_wp2_with fail
        have h1 := H4.out w6 A6 Xt nt ct (Rt.out.aft (N5.trans N6))
        refine h1.mono ?_
        rintro e w7 ⟨rfl, N7⟩
        clear h1
        have A7 := A6.trans N7
        go_wp2_with fail
        have h1 := H5.out w7 A7
        refine h1.mono ?_
        rintro e w8 ⟨rfl, N8⟩
        clear h1
        have A8 := A7.trans N8
        go_wp2_with fail
        have h1 := same_any Xb nb cb M Xy ny cy M w8 (Rb.out.aft ((N6.trans N7).trans N8)) (Ry.out.aft (N7.trans N8))
        rw [decide_eq_true rfl] at h1
        refine h1.mono ?_
        rintro e w9 ⟨rfl, N9⟩
        clear h1
        have A9 := A8.trans N9
        go_wp2_with fail
        have h1 := H6.out w9 A9 Xt nt ct (Rt.out.aft ((((N5.trans N6).trans N7).trans N8).trans N9))
        refine h1.mono ?_
        rintro e w10 ⟨rfl, N10⟩
        clear h1
        have A10 := A9.trans N10
        go_wp2
        go_ret
        exact ⟨by first | rfl | simp, A10⟩
      · have hEb : ((convV us vs ps).2 != 0) = true := by simp [hE]
        generalize (convV us vs ps).1 = L at *
        generalize (convV us vs ps).2 = E at *
        go_enter Try.func9, Try.ntmps9
        go_wp2_with fail
        have h1 := awake_any w
        refine h1.mono ?_
        rintro e w1 ⟨rfl, N1⟩
        clear h1
        have A1 := N1
        go_wp2_with fail
        have h1 := great_any A n c us B m d w1 (ha.aft A1) hm
        rw [hg] at h1
        refine h1.mono ?_
        rintro e w2 ⟨rfl, N2⟩
        clear h1
        have A2 := A1.trans N2
        go_wp2_with fail
        have h1 := great_any Av n2 c2 vs none 0 0 w2 (hv.aft A2) (by omega)
        rw [hg2] at h1
        refine h1.mono ?_
        rintro e w3 ⟨rfl, N3⟩
        clear h1
        have A3 := A2.trans N3
        go_wp2_with fail
        have h1 := H1.out w3 A3
        refine h1.mono ?_
        rintro e w4 ⟨⟨Xt, nt, ct, rfl, rt⟩, N4⟩
        clear h1
        have A4 := A3.trans N4
        have Rt := Lib.hid (Rw.aft rt (Aft.refl w4))
        clear rt
        go_wp2
        go_ret
        exact ⟨by first | rfl | simp, A4⟩
    · go_enter Try.func9, Try.ntmps9
      go_wp2_with fail
      have h1 := awake_any w
      refine h1.mono ?_
      rintro e w1 ⟨rfl, N1⟩
      clear h1
      have A1 := N1
      go_wp2_with fail
      have h1 := great_any A n c us B m d w1 (ha.aft A1) hm
      rw [hg] at h1
      refine h1.mono ?_
      rintro e w2 ⟨rfl, N2⟩
      clear h1
      have A2 := A1.trans N2
      go_wp2_with fail
      have h1 := great_any Av n2 c2 vs none 0 0 w2 (hv.aft A2) (by omega)
      rw [hg2] at h1
      refine h1.mono ?_
      rintro e w3 ⟨rfl, N3⟩
      clear h1
      have A3 := A2.trans N3
      go_wp2
      go_ret
      exact ⟨by first | rfl | simp, A3⟩
  · go_enter Try.func9, Try.ntmps9
    go_wp2_with fail
    have h1 := awake_any w
    refine h1.mono ?_
    rintro e w1 ⟨rfl, N1⟩
    clear h1
    have A1 := N1
    go_wp2_with fail
    have h1 := great_any A n c us B m d w1 (ha.aft A1) hm
    rw [hg] at h1
    refine h1.mono ?_
    rintro e w2 ⟨rfl, N2⟩
    clear h1
    have A2 := A1.trans N2
    go_wp2
    go_ret
    exact ⟨by first | rfl | simp, A2⟩

theorem own : ownKnob Try.prog.godebug = none := by kernel_rfl
theorem laidOut : laidOutB Try.prog = true := by kernel_rfl
theorem bytesU : Try.prog.bytesOf 44 = 24 := by kernel_rfl

set_option maxRecDepth 100000 in
theorem contract (H : Type) (enc : TypeId × Value → H) (W : World) (base : Nat) (args : Array Value) (ds gs : List (DataW H)) (before : List MemPlace)
    (hval : ∀ (j : Nat) t v, Try.f9.params[j]? = some t → args[j]? = some v → Value.okWide Try.prog W .any base t v)
    (hW : DataW.Whole enc Try.prog Try.f9.params.toList Rows.measureRoundSpec.vars false W args.toList ds gs before) (hsz0 : (DataW.weightsEach Try.prog (Try.f9.params.toList ++ Rows.measureRoundSpec.plain.varTypes Try.prog) (ds ++ gs)).all (· ≤ reachBytes) = true) :
    Calls Try.prog 9 args W fun e W' => ∃ v, e = .returned v ∧ Rows.measureRoundSpec.post enc Try.prog Try.f9 false true false false W args v W' := by
  have hW' := hW
  obtain ⟨p, q, hA0, hV, rfl, hfz, hnd⟩ := hW
  have hA : DataW.TrodAll enc Try.prog W 0 (fun _ => true) true Try.f9.params.toList args.toList ds p := hA0
  have hsz := hsz0
  rw [Try.params9] at hA hval hsz
  obtain ⟨v0, vs0, d0, ds0, p0, q0, hargs, rfl, rfl, h0, r0⟩ := trodAll_cons hA
  obtain ⟨v1, vs1, d1, ds1, p1, q1, rfl, rfl, rfl, h1, r1⟩ := trodAll_cons r0
  obtain ⟨v2, vs2, d2, ds2, p2, q2, rfl, rfl, rfl, h2, r2⟩ := trodAll_cons r1
  obtain ⟨rfl, rfl, rfl⟩ := trodAll_nil r2
  obtain rfl : args = #[v0, v1, v2] := by cases args; simp_all
  obtain ⟨rfl, rfl⟩ := trodVars_none hV
  obtain ⟨a0, len0, cap0, rfl⟩ := okWide_slice Try.underlying22 (hval 0 22 v0 rfl rfl)
  have lt0 : ∀ x ∈ p0, x.block < W.heap.size := by obtain ⟨m, hm⟩ := h0; exact DataW.trod_lt m _ _ _ hm
  obtain ⟨xs0, s0, b0⟩ := units_of h0 (Nat.le_refl _) (fun el sp e => by have := sized_slice hsz (j := 0) (t := 22) (e := 44) rfl (by rw [e]; rfl) Try.underlying22; rwa [bytesU] at this)
  obtain ⟨a1, len1, cap1, rfl⟩ := okWide_slice Try.underlying22 (hval 1 22 v1 rfl rfl)
  have lt1 : ∀ x ∈ p1, x.block < W.heap.size := by obtain ⟨m, hm⟩ := h1; exact DataW.trod_lt m _ _ _ hm
  obtain ⟨xs1, s1, b1⟩ := units_of h1 (Nat.le_refl _) (fun el sp e => by have := sized_slice hsz (j := 1) (t := 22) (e := 44) rfl (by rw [e]; rfl) Try.underlying22; rwa [bytesU] at this)
  obtain ⟨a2, len2, cap2, rfl⟩ := okWide_slice Try.underlying25 (hval 2 25 v2 rfl rfl)
  have lt2 : ∀ x ∈ p2, x.block < W.heap.size := by obtain ⟨m, hm⟩ := h2; exact DataW.trod_lt m _ _ _ hm
  obtain ⟨xs2, s2, z2⟩ := ints_of h2
  clear hA0
  refine (walk a0 len0 cap0 xs0 a1 len1 cap1 xs1 a2 len2 cap2 xs2 W s0 b0 s1 b1 s2 z2).mono fun e W' ⟨he, bel⟩ => ?_
  subst he
  exact ⟨_, rfl, _, _, _, [], _, [], hW', trodAll_mk1 (shut_bool Try.underlying4 _), (trodAll_cons_mk (Below.trod laidOut (by kernel_rfl) (of_decide_eq_true (by kernel_rfl)) h0 bel lt0) (trodAll_cons_mk (Below.trod laidOut (by kernel_rfl) (of_decide_eq_true (by kernel_rfl)) h1 bel lt1) (trodAll_cons_mk (Below.trod laidOut (by kernel_rfl) (of_decide_eq_true (by kernel_rfl)) h2 bel lt2) trodAll_mk0))), rfl, Below.frame bel _, fun h => by cases h⟩

set_option maxRecDepth 100000 in
theorem lifted (os : Os) (started : os.Started) (H : Type) (enc : TypeId × Value → H) :
    ReturnsInHanded {} Try.checked os 9 .any (Rows.measureRoundSpec.pre6 enc Try.prog Try.f9 Rows.measureRoundRow.domain false) (Rows.measureRoundSpec.post enc Try.prog Try.f9 false true false false) := by
  refine returnsInHanded_of_change_sized (C := Try.checked) own started (by kernel_rfl) Try.func9
    (ChangeSpec.witness6 (enc := enc) (C := Try.checked) false ⟨#[], #[.slice none 0 0, .slice none 0 0, .slice none 0 0], []⟩ 8 (by kernel_rfl) (by kernel_rfl) (by kernel_rfl) (by kernel_rfl)) ?_
  intro W base args ds gs before hval hW _ hsz _
  exact contract H enc W base args ds gs before hval hW hsz

theorem proved : Rows.MeasureRoundSaid :=
  OpenClaim.holds_of_wide 9 Try.f9 rfl rfl rfl rfl rfl rfl rfl ⟨rfl, rfl, rfl, rfl, rfl⟩ rfl rfl rfl rfl rfl (by kernel_rfl) Try.func9 (by kernel_rfl)
    (of_decide_eq_true (by kernel_rfl)) (by unfold Func.isWrapper; rw [if_neg (of_decide_eq_false (by kernel_rfl))]; exact ⟨rfl, rfl⟩)
    (fun os started H enc _ => lifted os started H enc)
#print axioms proved
end Go.Proofs.Yteknfigpjhngfaa.lawMRound
