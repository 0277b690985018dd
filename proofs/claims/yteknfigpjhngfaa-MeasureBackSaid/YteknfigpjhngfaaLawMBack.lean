/-
  Join inverts Split, and Split inverts Join for normal parts: the law MeasureBack returns true. Conditions: none.
-/
import Derived.Test.YteknfigpjhngfaaMeasFrame
import Derived.Test.YteknfigpjhngfaaRows
namespace Go.Proofs.Yteknfigpjhngfaa.lawMBack
open Go.ChangeShapes Go.WideShapes Go.ChangeAt Go.RowKit
open MeasPlain

set_option maxRecDepth 100000 in
set_option maxHeartbeats 1600000 in
theorem walk (A : Option Addr) (n c : Nat) (us : List Un) (N : Int) (B : Option Addr) (m d : Nat) (ps : List Int) (w : World) (ha : Ul w A n c us) (_ : c * 24 ≤ reachBytes) (_ : (Lit.int .i64 N).wf = true) (hb : Rw vI w B m d ps) (_ : ∀ z ∈ ps, (Lit.int .i64 z).wf = true)  :
    Calls Try.prog 7 #[.slice A n c, .int .i64 N, .slice B m d] w (BoolPost w true) := by
  have hm : m ≤ 9223372036854775807 := by have := hb.le; have := hb.cmax; omega
  cases hg : greatB n m us
  · have H1 := Lib.hid (fun w0 (a : Aft w w0) => split_any A n c us N w0 (ha.aft a))
    have H2 := Lib.hid (fun w0 (a : Aft w w0) => join_any A n c us B m d ps w0 (ha.aft a) (hb.aft a))
    have H3 := Lib.hid (fun w0 (a : Aft w w0) => normal_any A n c us B m d ps w0 (ha.aft a) (hb.aft a))
    have H4 := Lib.hid (fun w0 (a : Aft w w0) => split_any A n c us (joinV us ps).1 w0 (ha.aft a))
    by_cases hA : (splitV us N).2 = 0 <;> by_cases hB : (joinV us ps).2 = 0
    · have hin := splitV_inv hA
      have hsv := splitV_ok hin.1 hin.2.1 hin.2.2
      have hjs := join_split hin.1 hin.2.1 hin.2.2
      have hns := norm_split hin.1 hin.2.1 hin.2.2
      rw [hsv] at H1
      dsimp only at H1
      have H6 := Lib.hid (fun w0 (a : Aft w w0) => fun (X : Option Addr) (nx cx : Nat) (r : Rw vI w0 X nx cx (parts (szs us) N)) => join_any A n c us X nx cx _ w0 (ha.aft a) r)
      have H7 := Lib.hid (fun w0 (a : Aft w w0) => fun (X : Option Addr) (nx cx : Nat) (r : Rw vI w0 X nx cx (parts (szs us) N)) => normal_any A n c us X nx cx _ w0 (ha.aft a) r)
      rw [hjs] at H6
      rw [hns] at H7
      dsimp only at H6
      clear hin hsv hjs hns
      generalize parts (szs us) N = L at *
      have hno := norm_ok hB
      have hso := (conv_self_ok hB).2
      rw [hso] at H4 hno
      rw [hB] at H2
      rw [hno] at H3
      dsimp only at H3 H4
      clear hno hso hB
      generalize (joinV us ps).1 = J at *
      generalize parts (szs us) J = M at *
      have HSA := Lib.hid (fun (w0 : World) (X : Option Addr) (nx cx : Nat) (r : Rw vI w0 X nx cx M) (r2 : Rw vI w0 B m d ps) => same_any X nx cx M B m d ps w0 r r2)
      generalize decide (M = ps) = Q at *
      go_enter Try.func7, Try.ntmps7
      go_wp2_with fail
      have h1 := awake_any w
      refine h1.mono ?_
      rintro e w1 ⟨rfl, N1⟩
      clear h1
      have A1 := N1
      go_wp2_with fail
      have h1 := great_any A n c us B m d w1 (ha.aft A1) hm
      rw [hg] at h1
      refine h1.mono ?_
      rintro e w2 ⟨rfl, N2⟩
      clear h1
      have A2 := A1.trans N2
      go_wp2_with fail
      have h1 := H1.out w2 A2
      refine h1.mono ?_
      rintro e w3 ⟨⟨Xp, np, cp, rfl, rp⟩, N3⟩
      clear h1
      have A3 := A2.trans N3
      have Rp := Lib.hid (Rw.aft rp (Aft.refl w3))
      clear rp
      go_wp2_with fail
      have h1 := H6.out w3 A3 Xp np cp Rp.out
      refine h1.mono ?_
      rintro e w4 ⟨rfl, N4⟩
      clear h1
      have A4 := A3.trans N4
      go_wp2_with fail
      have h1 := H7.out w4 A4 Xp np cp (Rp.out.aft N4)
      refine h1.mono ?_
      rintro e w5 ⟨rfl, N5⟩
      clear h1
      have A5 := A4.trans N5
      go_wp2_with fail
      have h1 := H2.out w5 A5
      refine h1.mono ?_
      rintro e w6 ⟨rfl, N6⟩
      clear h1
      have A6 := A5.trans N6
      go_wp2_with fail
      have h1 := H4.out w6 A6
      refine h1.mono ?_
      rintro e w7 ⟨⟨Xq, nq, cq, rfl, rq⟩, N7⟩
      clear h1
      have A7 := A6.trans N7
      have Rq := Lib.hid (Rw.aft rq (Aft.refl w7))
      clear rq
      go_wp2_with fail
      have h1 := H3.out w7 A7
      refine h1.mono ?_
      rintro e w8 ⟨rfl, N8⟩
      clear h1
      have A8 := A7.trans N8
      go_wp2_with fail
      have h1 := HSA.out w8 Xq nq cq (Rq.out.aft N8) (hb.aft A8)
      refine h1.mono ?_
      rintro e w9 ⟨rfl, N9⟩
      clear h1
      have A9 := A8.trans N9
      go_wp2
      go_ret
      exact ⟨by first | rfl | simp | (cases Q <;> rfl), A9⟩
    · have hin := splitV_inv hA
      have hsv := splitV_ok hin.1 hin.2.1 hin.2.2
      have hjs := join_split hin.1 hin.2.1 hin.2.2
      have hns := norm_split hin.1 hin.2.1 hin.2.2
      rw [hsv] at H1
      dsimp only at H1
      have H6 := Lib.hid (fun w0 (a : Aft w w0) => fun (X : Option Addr) (nx cx : Nat) (r : Rw vI w0 X nx cx (parts (szs us) N)) => join_any A n c us X nx cx _ w0 (ha.aft a) r)
      have H7 := Lib.hid (fun w0 (a : Aft w w0) => fun (X : Option Addr) (nx cx : Nat) (r : Rw vI w0 X nx cx (parts (szs us) N)) => normal_any A n c us X nx cx _ w0 (ha.aft a) r)
      rw [hjs] at H6
      rw [hns] at H7
      dsimp only at H6
      clear hin hsv hjs hns
      generalize parts (szs us) N = L at *
      have hno := norm_err hB
      have hBb : ((joinV us ps).2 != 0) = true := by simp [hB]
      rw [hno] at H3
      clear hno H4
      generalize (joinV us ps).1 = J at *
      generalize (joinV us ps).2 = F at *
      go_enter Try.func7, Try.ntmps7
      go_wp2_with fail
      have h1 := awake_any w
      refine h1.mono ?_
      rintro e w1 ⟨rfl, N1⟩
      clear h1
      have A1 := N1
      go_wp2_with fail
      have h1 := great_any A n c us B m d w1 (ha.aft A1) hm
      rw [hg] at h1
      refine h1.mono ?_
      rintro e w2 ⟨rfl, N2⟩
      clear h1
      have A2 := A1.trans N2
      go_wp2_with fail
      have h1 := H1.out w2 A2
      refine h1.mono ?_
      rintro e w3 ⟨⟨Xp, np, cp, rfl, rp⟩, N3⟩
      clear h1
      have A3 := A2.trans N3
      have Rp := Lib.hid (Rw.aft rp (Aft.refl w3))
      clear rp
      go_wp2_with fail
      have h1 := H6.out w3 A3 Xp np cp Rp.out
      refine h1.mono ?_
      rintro e w4 ⟨rfl, N4⟩
      clear h1
      have A4 := A3.trans N4
      go_wp2_with fail
      have h1 := H7.out w4 A4 Xp np cp (Rp.out.aft N4)
      refine h1.mono ?_
      rintro e w5 ⟨rfl, N5⟩
      clear h1
      have A5 := A4.trans N5
      go_wp2_with fail
      have h1 := H2.out w5 A5
      refine h1.mono ?_
      rintro e w6 ⟨rfl, N6⟩
      clear h1
      have A6 := A5.trans N6
      go_wp2_with fail
      have h1 := H3.out w6 A6
      refine h1.mono ?_
      rintro e w7 ⟨rfl, N7⟩
      clear h1
      have A7 := A6.trans N7
      go_wp2
      go_ret
      exact ⟨by first | rfl | simp, A7⟩
    · have hAb : ((splitV us N).2 == 0) = false := by simp [hA]
      generalize (splitV us N).1 = L at *
      generalize (splitV us N).2 = E at *
      have hno := norm_ok hB
      have hso := (conv_self_ok hB).2
      rw [hso] at H4 hno
      rw [hB] at H2
      rw [hno] at H3
      dsimp only at H3 H4
      clear hno hso hB
      generalize (joinV us ps).1 = J at *
      generalize parts (szs us) J = M at *
      have HSA := Lib.hid (fun (w0 : World) (X : Option Addr) (nx cx : Nat) (r : Rw vI w0 X nx cx M) (r2 : Rw vI w0 B m d ps) => same_any X nx cx M B m d ps w0 r r2)
      generalize decide (M = ps) = Q at *
      go_enter Try.func7, Try.ntmps7
      go_wp2_with fail
      have h1 := awake_any w
      refine h1.mono ?_
      rintro e w1 ⟨rfl, N1⟩
      clear h1
      have A1 := N1
      go_wp2_with fail
      have h1 := great_any A n c us B m d w1 (ha.aft A1) hm
      rw [hg] at h1
      refine h1.mono ?_
      rintro e w2 ⟨rfl, N2⟩
      clear h1
      have A2 := A1.trans N2
      go_wp2_with fail
      have h1 := H1.out w2 A2
      refine h1.mono ?_
      rintro e w3 ⟨⟨Xp, np, cp, rfl, rp⟩, N3⟩
      clear h1
      have A3 := A2.trans N3
      have Rp := Lib.hid (Rw.aft rp (Aft.refl w3))
      clear rp
      go_wp2_with fail
      have h1 := H2.out w3 A3
      refine h1.mono ?_
      rintro e w4 ⟨rfl, N4⟩
      clear h1
      have A4 := A3.trans N4
      go_wp2_with fail
      have h1 := H4.out w4 A4
      refine h1.mono ?_
      rintro e w5 ⟨⟨Xq, nq, cq, rfl, rq⟩, N5⟩
      clear h1
      have A5 := A4.trans N5
      have Rq := Lib.hid (Rw.aft rq (Aft.refl w5))
      clear rq
      go_wp2_with fail
      have h1 := H3.out w5 A5
      refine h1.mono ?_
      rintro e w6 ⟨rfl, N6⟩
      clear h1
      have A6 := A5.trans N6
      go_wp2_with fail
      have h1 := HSA.out w6 Xq nq cq (Rq.out.aft N6) (hb.aft A6)
      refine h1.mono ?_
      rintro e w7 ⟨rfl, N7⟩
      clear h1
      have A7 := A6.trans N7
      go_wp2
      go_ret
      exact ⟨by first | rfl | simp | (cases Q <;> rfl), A7⟩
    · have hAb : ((splitV us N).2 == 0) = false := by simp [hA]
      generalize (splitV us N).1 = L at *
      generalize (splitV us N).2 = E at *
      have hno := norm_err hB
      have hBb : ((joinV us ps).2 != 0) = true := by simp [hB]
      rw [hno] at H3
      clear hno H4
      generalize (joinV us ps).1 = J at *
      generalize (joinV us ps).2 = F at *
      go_enter Try.func7, Try.ntmps7
      go_wp2_with fail
      have h1 := awake_any w
      refine h1.mono ?_
      rintro e w1 ⟨rfl, N1⟩
      clear h1
      have A1 := N1
      go_wp2_with fail
      have h1 := great_any A n c us B m d w1 (ha.aft A1) hm
      rw [hg] at h1
      refine h1.mono ?_
      rintro e w2 ⟨rfl, N2⟩
      clear h1
      have A2 := A1.trans N2
      go_wp2_with fail
      have h1 := H1.out w2 A2
      refine h1.mono ?_
      rintro e w3 ⟨⟨Xp, np, cp, rfl, rp⟩, N3⟩
      clear h1
      have A3 := A2.trans N3
      have Rp := Lib.hid (Rw.aft rp (Aft.refl w3))
      clear rp
      go_wp2_with fail
      have h1 := H2.out w3 A3
      refine h1.mono ?_
      rintro e w4 ⟨rfl, N4⟩
      clear h1
      have A4 := A3.trans N4
      go_wp2_with fail
      have h1 := H3.out w4 A4
      refine h1.mono ?_
      rintro e w5 ⟨rfl, N5⟩
      clear h1
      have A5 := A4.trans N5
      go_wp2
      go_ret
      exact ⟨by first | rfl | simp, A5⟩
  · go_enter Try.func7, Try.ntmps7
    go_wp2_with fail
    have h1 := awake_any w
    refine h1.mono ?_
    rintro e w1 ⟨rfl, N1⟩
    clear h1
    have A1 := N1
    go_wp2_with fail
    have h1 := great_any A n c us B m d w1 (ha.aft A1) hm
    rw [hg] at h1
    refine h1.mono ?_
    rintro e w2 ⟨rfl, N2⟩
    clear h1
    have A2 := A1.trans N2
    go_wp2
    go_ret
    exact ⟨by first | rfl | simp, A2⟩

theorem own : ownKnob Try.prog.godebug = none := by kernel_rfl
theorem laidOut : laidOutB Try.prog = true := by kernel_rfl
theorem bytesU : Try.prog.bytesOf 44 = 24 := by kernel_rfl

set_option maxRecDepth 100000 in
theorem contract (H : Type) (enc : TypeId × Value → H) (W : World) (base : Nat) (args : Array Value) (ds gs : List (DataW H)) (before : List MemPlace)
    (hval : ∀ (j : Nat) t v, Try.f7.params[j]? = some t → args[j]? = some v → Value.okWide Try.prog W .any base t v)
    (hW : DataW.Whole enc Try.prog Try.f7.params.toList Rows.measureBackSpec.vars false W args.toList ds gs before) (hsz0 : (DataW.weightsEach Try.prog (Try.f7.params.toList ++ Rows.measureBackSpec.plain.varTypes Try.prog) (ds ++ gs)).all (· ≤ reachBytes) = true) :
    Calls Try.prog 7 args W fun e W' => ∃ v, e = .returned v ∧ Rows.measureBackSpec.post enc Try.prog Try.f7 false true false false W args v W' := by
  have hW' := hW
  obtain ⟨p, q, hA0, hV, rfl, hfz, hnd⟩ := hW
  have hA : DataW.TrodAll enc Try.prog W 0 (fun _ => true) true Try.f7.params.toList args.toList ds p := hA0
  have hsz := hsz0
  rw [Try.params7] at hA hval hsz
  obtain ⟨v0, vs0, d0, ds0, p0, q0, hargs, rfl, rfl, h0, r0⟩ := trodAll_cons hA
  obtain ⟨v1, vs1, d1, ds1, p1, q1, rfl, rfl, rfl, h1, r1⟩ := trodAll_cons r0
  obtain ⟨v2, vs2, d2, ds2, p2, q2, rfl, rfl, rfl, h2, r2⟩ := trodAll_cons r1
  obtain ⟨rfl, rfl, rfl⟩ := trodAll_nil r2
  obtain rfl : args = #[v0, v1, v2] := by cases args; simp_all
  obtain ⟨rfl, rfl⟩ := trodVars_none hV
  obtain ⟨a0, len0, cap0, rfl⟩ := okWide_slice Try.underlying22 (hval 0 22 v0 rfl rfl)
  have lt0 : ∀ x ∈ p0, x.block < W.heap.size := by obtain ⟨m, hm⟩ := h0; exact DataW.trod_lt m _ _ _ hm
  obtain ⟨xs0, s0, b0⟩ := units_of h0 (Nat.le_refl _) (fun el sp e => by have := sized_slice hsz (j := 0) (t := 22) (e := 44) rfl (by rw [e]; rfl) Try.underlying22; rwa [bytesU] at this)
  obtain ⟨xs1, rfl, rfl, rfl, z1⟩ := open_int Try.underlying3 (hval 1 3 v1 rfl rfl) h1
  obtain ⟨a2, len2, cap2, rfl⟩ := okWide_slice Try.underlying25 (hval 2 25 v2 rfl rfl)
  have lt2 : ∀ x ∈ p2, x.block < W.heap.size := by obtain ⟨m, hm⟩ := h2; exact DataW.trod_lt m _ _ _ hm
  obtain ⟨xs2, s2, z2⟩ := ints_of h2
  clear hA0
  refine (walk a0 len0 cap0 xs0 xs1 a2 len2 cap2 xs2 W s0 b0 z1 s2 z2).mono fun e W' ⟨he, bel⟩ => ?_
  subst he
  exact ⟨_, rfl, _, _, _, [], _, [], hW', trodAll_mk1 (shut_bool Try.underlying4 _), (trodAll_cons_mk (Below.trod laidOut (by kernel_rfl) (of_decide_eq_true (by kernel_rfl)) h0 bel lt0) (trodAll_cons_mk (shut_int Try.underlying3 z1) (trodAll_cons_mk (Below.trod laidOut (by kernel_rfl) (of_decide_eq_true (by kernel_rfl)) h2 bel lt2) trodAll_mk0))), rfl, Below.frame bel _, fun h => by cases h⟩

set_option maxRecDepth 100000 in
theorem lifted (os : Os) (started : os.Started) (H : Type) (enc : TypeId × Value → H) :
    ReturnsInHanded {} Try.checked os 7 .any (Rows.measureBackSpec.pre6 enc Try.prog Try.f7 Rows.measureBackRow.domain false) (Rows.measureBackSpec.post enc Try.prog Try.f7 false true false false) := by
  refine returnsInHanded_of_change_sized (C := Try.checked) own started (by kernel_rfl) Try.func7
    (ChangeSpec.witness6 (enc := enc) (C := Try.checked) false ⟨#[], #[.slice none 0 0, .int .i64 0, .slice none 0 0], []⟩ 8 (by kernel_rfl) (by kernel_rfl) (by kernel_rfl) (by kernel_rfl)) ?_
  intro W base args ds gs before hval hW _ hsz _
  exact contract H enc W base args ds gs before hval hW hsz

theorem proved : Rows.MeasureBackSaid :=
  OpenClaim.holds_of_wide 7 Try.f7 rfl rfl rfl rfl rfl rfl rfl ⟨rfl, rfl, rfl, rfl, rfl⟩ rfl rfl rfl rfl rfl (by kernel_rfl) Try.func7 (by kernel_rfl)
    (of_decide_eq_true (by kernel_rfl)) (by unfold Func.isWrapper; rw [if_neg (of_decide_eq_false (by kernel_rfl))]; exact ⟨rfl, rfl⟩)
    (fun os started H enc _ => lifted os started H enc)
#print axioms proved
end Go.Proofs.Yteknfigpjhngfaa.lawMBack
