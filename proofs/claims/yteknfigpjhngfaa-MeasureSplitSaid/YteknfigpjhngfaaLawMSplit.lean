/-
  Check and Split return what is specified, for all units and numbers: the law MeasureSplit returns true. Conditions: none.
-/
import Derived.Test.YteknfigpjhngfaaMeasFrame
import Derived.Test.YteknfigpjhngfaaRows
namespace Go.Proofs.Yteknfigpjhngfaa.lawMSplit
open Go.ChangeShapes Go.WideShapes Go.ChangeAt Go.RowKit
open MeasPlain

set_option maxRecDepth 100000 in
set_option maxHeartbeats 1600000 in
theorem walk (A : Option Addr) (n c : Nat) (us : List Un) (N : Int) (w : World) (ha : Ul w A n c us) (_ : c * 24 ≤ reachBytes) (_ : (Lit.int .i64 N).wf = true) :
    Calls Try.prog 3 #[.slice A n c, .int .i64 N] w (BoolPost w true) := by
  cases hg : greatB n 0 us
  · have H1 := Lib.hid (fun w0 (a : Aft w w0) => split_any A n c us N w0 (ha.aft a))
    have H2 := Lib.hid (fun w0 (a : Aft w w0) => refSplit_any A n c us N w0 (ha.aft a))
    have H3 := Lib.hid (fun w0 (a : Aft w w0) => check_any A n c us w0 (ha.aft a))
    have H4 := Lib.hid (fun w0 (a : Aft w w0) => refCheck_any A n c us w0 (ha.aft a))
    generalize (splitV us N).1 = L at *
    generalize (splitV us N).2 = E at *
    generalize chk us = Q at *
    go_enter Try.func3, Try.ntmps3
    go_wp2_with fail
    have h1 := awake_any w
    refine h1.mono ?_
    rintro e w1 ⟨rfl, N1⟩
    clear h1
    have A1 := N1
    go_wp2_with fail
    have h1 := great_any A n c us none 0 0 w1 (ha.aft A1) (by omega)
    rw [hg] at h1
    refine h1.mono ?_
    rintro e w2 ⟨rfl, N2⟩
    clear h1
    have A2 := A1.trans N2
    go_wp2_with fail
    have h1 := H1.out w2 A2
    refine h1.mono ?_
    rintro e w3 ⟨⟨Xp, np, cp, rfl, rp⟩, N3⟩
    clear h1
    have A3 := A2.trans N3
    have Rp := Lib.hid (Rw.aft rp (Aft.refl w3))
    clear rp
    go_wp2_with fail
    have h1 := H2.out w3 A3
    refine h1.mono ?_
    rintro e w4 ⟨⟨Xq, nq, cq, rfl, rq⟩, N4⟩
    clear h1
    have A4 := A3.trans N4
    have Rq := Lib.hid (Rw.aft rq (Aft.refl w4))
    clear rq
    go_wp2_with fail
    have h1 := H3.out w4 A4
    refine h1.mono ?_
    rintro e w5 ⟨rfl, N5⟩
    clear h1
    have A5 := A4.trans N5
    go_wp2_with fail
    have h1 := H4.out w5 A5
    refine h1.mono ?_
    rintro e w6 ⟨rfl, N6⟩
    clear h1
    have A6 := A5.trans N6
    go_wp2_with fail
    have h1 := same_any Xp np cp L Xq nq cq L w6 (Rp.out.aft ((N4.trans N5).trans N6)) (Rq.out.aft (N5.trans N6))
    rw [decide_eq_true rfl] at h1
    refine h1.mono ?_
    rintro e w7 ⟨rfl, N7⟩
    clear h1
    have A7 := A6.trans N7
    go_wp2
    go_ret
    exact ⟨by first | rfl | simp, A7⟩
  · go_enter Try.func3, Try.ntmps3
    go_wp2_with fail
    have h1 := awake_any w
    refine h1.mono ?_
    rintro e w1 ⟨rfl, N1⟩
    clear h1
    have A1 := N1
    go_wp2_with fail
    have h1 := great_any A n c us none 0 0 w1 (ha.aft A1) (by omega)
    rw [hg] at h1
    refine h1.mono ?_
    rintro e w2 ⟨rfl, N2⟩
    clear h1
    have A2 := A1.trans N2
    go_wp2
    go_ret
    exact ⟨by first | rfl | simp, A2⟩

theorem own : ownKnob Try.prog.godebug = none := by kernel_rfl
theorem laidOut : laidOutB Try.prog = true := by kernel_rfl
theorem bytesU : Try.prog.bytesOf 44 = 24 := by kernel_rfl

set_option maxRecDepth 100000 in
theorem contract (H : Type) (enc : TypeId × Value → H) (W : World) (base : Nat) (args : Array Value) (ds gs : List (DataW H)) (before : List MemPlace)
    (hval : ∀ (j : Nat) t v, Try.f3.params[j]? = some t → args[j]? = some v → Value.okWide Try.prog W .any base t v)
    (hW : DataW.Whole enc Try.prog Try.f3.params.toList Rows.measureSplitSpec.vars false W args.toList ds gs before) (hsz0 : (DataW.weightsEach Try.prog (Try.f3.params.toList ++ Rows.measureSplitSpec.plain.varTypes Try.prog) (ds ++ gs)).all (· ≤ reachBytes) = true) :
    Calls Try.prog 3 args W fun e W' => ∃ v, e = .returned v ∧ Rows.measureSplitSpec.post enc Try.prog Try.f3 false true false false W args v W' := by
  have hW' := hW
  obtain ⟨p, q, hA0, hV, rfl, hfz, hnd⟩ := hW
  have hA : DataW.TrodAll enc Try.prog W 0 (fun _ => true) true Try.f3.params.toList args.toList ds p := hA0
  have hsz := hsz0
  rw [Try.params3] at hA hval hsz
  obtain ⟨v0, vs0, d0, ds0, p0, q0, hargs, rfl, rfl, h0, r0⟩ := trodAll_cons hA
  obtain ⟨v1, vs1, d1, ds1, p1, q1, rfl, rfl, rfl, h1, r1⟩ := trodAll_cons r0
  obtain ⟨rfl, rfl, rfl⟩ := trodAll_nil r1
  obtain rfl : args = #[v0, v1] := by cases args; simp_all
  obtain ⟨rfl, rfl⟩ := trodVars_none hV
  obtain ⟨a0, len0, cap0, rfl⟩ := okWide_slice Try.underlying22 (hval 0 22 v0 rfl rfl)
  have lt0 : ∀ x ∈ p0, x.block < W.heap.size := by obtain ⟨m, hm⟩ := h0; exact DataW.trod_lt m _ _ _ hm
  obtain ⟨xs0, s0, b0⟩ := units_of h0 (Nat.le_refl _) (fun el sp e => by have := sized_slice hsz (j := 0) (t := 22) (e := 44) rfl (by rw [e]; rfl) Try.underlying22; rwa [bytesU] at this)
  obtain ⟨xs1, rfl, rfl, rfl, z1⟩ := open_int Try.underlying3 (hval 1 3 v1 rfl rfl) h1
  clear hA0
  refine (walk a0 len0 cap0 xs0 xs1 W s0 b0 z1).mono fun e W' ⟨he, bel⟩ => ?_
  subst he
  exact ⟨_, rfl, _, _, _, [], _, [], hW', trodAll_mk1 (shut_bool Try.underlying4 _), (trodAll_cons_mk (Below.trod laidOut (by kernel_rfl) (of_decide_eq_true (by kernel_rfl)) h0 bel lt0) (trodAll_cons_mk (shut_int Try.underlying3 z1) trodAll_mk0)), rfl, Below.frame bel _, fun h => by cases h⟩

set_option maxRecDepth 100000 in
theorem lifted (os : Os) (started : os.Started) (H : Type) (enc : TypeId × Value → H) :
    ReturnsInHanded {} Try.checked os 3 .any (Rows.measureSplitSpec.pre6 enc Try.prog Try.f3 Rows.measureSplitRow.domain false) (Rows.measureSplitSpec.post enc Try.prog Try.f3 false true false false) := by
  refine returnsInHanded_of_change_sized (C := Try.checked) own started (by kernel_rfl) Try.func3
    (ChangeSpec.witness6 (enc := enc) (C := Try.checked) false ⟨#[], #[.slice none 0 0, .int .i64 0], []⟩ 8 (by kernel_rfl) (by kernel_rfl) (by kernel_rfl) (by kernel_rfl)) ?_
  intro W base args ds gs before hval hW _ hsz _
  exact contract H enc W base args ds gs before hval hW hsz

theorem proved : Rows.MeasureSplitSaid :=
  OpenClaim.holds_of_wide 3 Try.f3 rfl rfl rfl rfl rfl rfl rfl ⟨rfl, rfl, rfl, rfl, rfl⟩ rfl rfl rfl rfl rfl (by kernel_rfl) Try.func3 (by kernel_rfl)
    (of_decide_eq_true (by kernel_rfl)) (by unfold Func.isWrapper; rw [if_neg (of_decide_eq_false (by kernel_rfl))]; exact ⟨rfl, rfl⟩)
    (fun os started H enc _ => lifted os started H enc)
#print axioms proved
end Go.Proofs.Yteknfigpjhngfaa.lawMSplit
