/-
  Join, Normal and Normalize return what is specified, for all units and parts: the law MeasureJoin returns true. Conditions: none.
-/
import Derived.Test.YteknfigpjhngfaaMeasFrame
import Derived.Test.YteknfigpjhngfaaRows
namespace Go.Proofs.Yteknfigpjhngfaa.lawMJoin
open Go.ChangeShapes Go.WideShapes Go.ChangeAt Go.RowKit
open MeasPlain

set_option maxRecDepth 100000 in
set_option maxHeartbeats 1600000 in
theorem walk (A : Option Addr) (n c : Nat) (us : List Un) (B : Option Addr) (m d : Nat) (ps : List Int) (w : World) (ha : Ul w A n c us) (_ : c * 24 ≤ reachBytes) (hb : Rw vI w B m d ps) (_ : ∀ z ∈ ps, (Lit.int .i64 z).wf = true)  :
    Calls Try.prog 4 #[.slice A n c, .slice B m d] w (BoolPost w true) := by
  have hm : m ≤ 9223372036854775807 := by have := hb.le; have := hb.cmax; omega
  cases hg : greatB n m us
  · have H1 := Lib.hid (fun w0 (a : Aft w w0) => join_any A n c us B m d ps w0 (ha.aft a) (hb.aft a))
    have H2 := Lib.hid (fun w0 (a : Aft w w0) => refJoin_any A n c us B m d ps w0 (ha.aft a) (hb.aft a))
    have H3 := Lib.hid (fun w0 (a : Aft w w0) => normal_any A n c us B m d ps w0 (ha.aft a) (hb.aft a))
    have H4 := Lib.hid (fun w0 (a : Aft w w0) => refNormal_any A n c us B m d ps w0 (ha.aft a) (hb.aft a))
    have H5 := Lib.hid (fun w0 (a : Aft w w0) => normalize_any A n c us B m d ps w0 (ha.aft a) (hb.aft a))
    have H6 := Lib.hid (fun w0 (a : Aft w w0) => refSplit_any A n c us (joinV us ps).1 w0 (ha.aft a))
    generalize hQ : normB us ps = Q at *
    by_cases he : (joinV us ps).2 = 0
    · obtain ⟨hc1, hc2⟩ := conv_self_ok he
      rw [he] at H1 H2
      rw [hc1] at H5
      rw [hc2] at H6
      dsimp only at H5 H6
      clear hc1 hc2 he hQ
      generalize (joinV us ps).1 = J at *
      generalize parts (szs us) J = L at *
      go_enter Try.func4, Try.ntmps4
      go_wp2_with fail
      have h1 := awake_any w
      refine h1.mono ?_
      rintro e w1 ⟨rfl, N1⟩
      clear h1
      have A1 := N1
      go_wp2_with fail
      have h1 := great_any A n c us B m d w1 (ha.aft A1) hm
      rw [hg] at h1
      refine h1.mono ?_
      rintro e w2 ⟨rfl, N2⟩
      clear h1
      have A2 := A1.trans N2
      go_wp2_with fail
      have h1 := H1.out w2 A2
      refine h1.mono ?_
      rintro e w3 ⟨rfl, N3⟩
      clear h1
      have A3 := A2.trans N3
      go_wp2_with fail
      have h1 := H2.out w3 A3
      refine h1.mono ?_
      rintro e w4 ⟨rfl, N4⟩
      clear h1
      have A4 := A3.trans N4
      go_wp2_with fail
      have h1 := H3.out w4 A4
      refine h1.mono ?_
      rintro e w5 ⟨rfl, N5⟩
      clear h1
      have A5 := A4.trans N5
      go_wp2_with fail
      have h1 := H4.out w5 A5
      refine h1.mono ?_
      rintro e w6 ⟨rfl, N6⟩
      clear h1
      have A6 := A5.trans N6
      go_wp2_with fail
      have h1 := H5.out w6 A6
      refine h1.mono ?_
      rintro e w7 ⟨⟨Xp, np, cp, rfl, rp⟩, N7⟩
      clear h1
      have A7 := A6.trans N7
      have Rp := Lib.hid (Rw.aft rp (Aft.refl w7))
      clear rp
      go_wp2_with fail
      have h1 := H6.out w7 A7
      refine h1.mono ?_
      rintro e w8 ⟨⟨Xq, nq, cq, rfl, rq⟩, N8⟩
      clear h1
      have A8 := A7.trans N8
      have Rq := Lib.hid (Rw.aft rq (Aft.refl w8))
      clear rq
      go_wp2_with fail
      have h1 := same_any Xp np cp L Xq nq cq L w8 (Rp.out.aft N8) Rq.out
      rw [decide_eq_true rfl] at h1
      refine h1.mono ?_
      rintro e w9 ⟨rfl, N9⟩
      clear h1
      have A9 := A8.trans N9
      go_wp2
      go_ret
      exact ⟨by first | rfl | simp, A9⟩
    · have hc1 := conv_self_err he
      rw [hc1] at H5
      dsimp only at H5
      have heb : ((joinV us ps).2 != 0) = true := by simp [he]
      clear hc1 hQ
      generalize (splitV us (joinV us ps).1).1 = L at *
      generalize (splitV us (joinV us ps).1).2 = E2 at *
      generalize (joinV us ps).1 = J at *
      generalize (joinV us ps).2 = E at *
      go_enter Try.func4, Try.ntmps4
      go_wp2_with fail
      have h1 := awake_any w
      refine h1.mono ?_
      rintro e w1 ⟨rfl, N1⟩
      clear h1
      have A1 := N1
      go_wp2_with fail
      have h1 := great_any A n c us B m d w1 (ha.aft A1) hm
      rw [hg] at h1
      refine h1.mono ?_
      rintro e w2 ⟨rfl, N2⟩
      clear h1
      have A2 := A1.trans N2
      go_wp2_with fail
      have h1 := H1.out w2 A2
      refine h1.mono ?_
      rintro e w3 ⟨rfl, N3⟩
      clear h1
      have A3 := A2.trans N3
      go_wp2_with fail
      have h1 := H2.out w3 A3
      refine h1.mono ?_
      rintro e w4 ⟨rfl, N4⟩
      clear h1
      have A4 := A3.trans N4
      go_wp2_with fail
      have h1 := H3.out w4 A4
      refine h1.mono ?_
      rintro e w5 ⟨rfl, N5⟩
      clear h1
      have A5 := A4.trans N5
      go_wp2_with fail
      have h1 := H4.out w5 A5
      refine h1.mono ?_
      rintro e w6 ⟨rfl, N6⟩
      clear h1
      have A6 := A5.trans N6
      go_wp2_with fail
      have h1 := H5.out w6 A6
      refine h1.mono ?_
      rintro e w7 ⟨⟨Xp, np, cp, rfl, rp⟩, N7⟩
      clear h1
      have A7 := A6.trans N7
      have Rp := Lib.hid (Rw.aft rp (Aft.refl w7))
      clear rp
      obtain rfl : np = 0 := Rp.out.len.symm
      go_wp2_with fail
      have h1 := H6.out w7 A7
      refine h1.mono ?_
      rintro e w8 ⟨⟨Xq, nq, cq, rfl, rq⟩, N8⟩
      clear h1
      have A8 := A7.trans N8
      have Rq := Lib.hid (Rw.aft rq (Aft.refl w8))
      clear rq
      go_wp2
      go_ret
      exact ⟨by first | rfl | simp, A8⟩
  · go_enter Try.func4, Try.ntmps4
    go_wp2_with fail
    have h1 := awake_any w
    refine h1.mono ?_
    rintro e w1 ⟨rfl, N1⟩
    clear h1
    have A1 := N1
    go_wp2_with fail
    have h1 := great_any A n c us B m d w1 (ha.aft A1) hm
    rw [hg] at h1
    refine h1.mono ?_
    rintro e w2 ⟨rfl, N2⟩
    clear h1
    have A2 := A1.trans N2
    go_wp2
    go_ret
    exact ⟨by first | rfl | simp, A2⟩

theorem own : ownKnob Try.prog.godebug = none := by kernel_rfl
theorem laidOut : laidOutB Try.prog = true := by kernel_rfl
theorem bytesU : Try.prog.bytesOf 44 = 24 := by kernel_rfl

set_option maxRecDepth 100000 in
theorem contract (H : Type) (enc : TypeId × Value → H) (W : World) (base : Nat) (args : Array Value) (ds gs : List (DataW H)) (before : List MemPlace)
    (hval : ∀ (j : Nat) t v, Try.f4.params[j]? = some t → args[j]? = some v → Value.okWide Try.prog W .any base t v)
    (hW : DataW.Whole enc Try.prog Try.f4.params.toList Rows.measureJoinSpec.vars false W args.toList ds gs before) (hsz0 : (DataW.weightsEach Try.prog (Try.f4.params.toList ++ Rows.measureJoinSpec.plain.varTypes Try.prog) (ds ++ gs)).all (· ≤ reachBytes) = true) :
    Calls Try.prog 4 args W fun e W' => ∃ v, e = .returned v ∧ Rows.measureJoinSpec.post enc Try.prog Try.f4 false true false false W args v W' := by
  have hW' := hW
  obtain ⟨p, q, hA0, hV, rfl, hfz, hnd⟩ := hW
  have hA : DataW.TrodAll enc Try.prog W 0 (fun _ => true) true Try.f4.params.toList args.toList ds p := hA0
  have hsz := hsz0
  rw [Try.params4] at hA hval hsz
  obtain ⟨v0, vs0, d0, ds0, p0, q0, hargs, rfl, rfl, h0, r0⟩ := trodAll_cons hA
  obtain ⟨v1, vs1, d1, ds1, p1, q1, rfl, rfl, rfl, h1, r1⟩ := trodAll_cons r0
  obtain ⟨rfl, rfl, rfl⟩ := trodAll_nil r1
  obtain rfl : args = #[v0, v1] := by cases args; simp_all
  obtain ⟨rfl, rfl⟩ := trodVars_none hV
  obtain ⟨a0, len0, cap0, rfl⟩ := okWide_slice Try.underlying22 (hval 0 22 v0 rfl rfl)
  have lt0 : ∀ x ∈ p0, x.block < W.heap.size := by obtain ⟨m, hm⟩ := h0; exact DataW.trod_lt m _ _ _ hm
  obtain ⟨xs0, s0, b0⟩ := units_of h0 (Nat.le_refl _) (fun el sp e => by have := sized_slice hsz (j := 0) (t := 22) (e := 44) rfl (by rw [e]; rfl) Try.underlying22; rwa [bytesU] at this)
  obtain ⟨a1, len1, cap1, rfl⟩ := okWide_slice Try.underlying25 (hval 1 25 v1 rfl rfl)
  have lt1 : ∀ x ∈ p1, x.block < W.heap.size := by obtain ⟨m, hm⟩ := h1; exact DataW.trod_lt m _ _ _ hm
  obtain ⟨xs1, s1, z1⟩ := ints_of h1
  clear hA0
  refine (walk a0 len0 cap0 xs0 a1 len1 cap1 xs1 W s0 b0 s1 z1).mono fun e W' ⟨he, bel⟩ => ?_
  subst he
  exact ⟨_, rfl, _, _, _, [], _, [], hW', trodAll_mk1 (shut_bool Try.underlying4 _), (trodAll_cons_mk (Below.trod laidOut (by kernel_rfl) (of_decide_eq_true (by kernel_rfl)) h0 bel lt0) (trodAll_cons_mk (Below.trod laidOut (by kernel_rfl) (of_decide_eq_true (by kernel_rfl)) h1 bel lt1) trodAll_mk0)), rfl, Below.frame bel _, fun h => by cases h⟩

set_option maxRecDepth 100000 in
theorem lifted (os : Os) (started : os.Started) (H : Type) (enc : TypeId × Value → H) :
    ReturnsInHanded {} Try.checked os 4 .any (Rows.measureJoinSpec.pre6 enc Try.prog Try.f4 Rows.measureJoinRow.domain false) (Rows.measureJoinSpec.post enc Try.prog Try.f4 false true false false) := by
  refine returnsInHanded_of_change_sized (C := Try.checked) own started (by kernel_rfl) Try.func4
    (ChangeSpec.witness6 (enc := enc) (C := Try.checked) false ⟨#[], #[.slice none 0 0, .slice none 0 0], []⟩ 8 (by kernel_rfl) (by kernel_rfl) (by kernel_rfl) (by kernel_rfl)) ?_
  intro W base args ds gs before hval hW _ hsz _
  exact contract H enc W base args ds gs before hval hW hsz

theorem proved : Rows.MeasureJoinSaid :=
  OpenClaim.holds_of_wide 4 Try.f4 rfl rfl rfl rfl rfl rfl rfl ⟨rfl, rfl, rfl, rfl, rfl⟩ rfl rfl rfl rfl rfl (by kernel_rfl) Try.func4 (by kernel_rfl)
    (of_decide_eq_true (by kernel_rfl)) (by unfold Func.isWrapper; rw [if_neg (of_decide_eq_false (by kernel_rfl))]; exact ⟨rfl, rfl⟩)
    (fun os started H enc _ => lifted os started H enc)
#print axioms proved
end Go.Proofs.Yteknfigpjhngfaa.lawMJoin
