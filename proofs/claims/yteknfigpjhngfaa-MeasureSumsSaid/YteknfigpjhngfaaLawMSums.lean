/-
  Compare and Add return what is specified: the law MeasureSums returns true. Conditions: none.
-/
import Derived.Test.YteknfigpjhngfaaMeasFrame
import Derived.Test.YteknfigpjhngfaaRows
namespace Go.Proofs.Yteknfigpjhngfaa.lawMSums
open Go.ChangeShapes Go.WideShapes Go.ChangeAt Go.RowKit
open MeasPlain

set_option maxRecDepth 100000 in
set_option maxHeartbeats 1600000 in
theorem walk (A : Option Addr) (n c : Nat) (us : List Un) (B : Option Addr) (m d : Nat) (p : List Int) (B2 : Option Addr) (m2 d2 : Nat) (q : List Int) (w : World) (ha : Ul w A n c us) (_ : c * 24 ≤ reachBytes) (hb : Rw vI w B m d p) (_ : ∀ z ∈ p, (Lit.int .i64 z).wf = true) (hq : Rw vI w B2 m2 d2 q) (_ : ∀ z ∈ q, (Lit.int .i64 z).wf = true)  :
    Calls Try.prog 6 #[.slice A n c, .slice B m d, .slice B2 m2 d2] w (BoolPost w true) := by
  have hm : m ≤ 9223372036854775807 := by have := hb.le; have := hb.cmax; omega
  have hm2 : m2 ≤ 9223372036854775807 := by have := hq.le; have := hq.cmax; omega
  cases hg : greatB n m us
  · cases hg2 : greatB 0 m2 []
    · have H1 := Lib.hid (fun w0 (a : Aft w w0) => refBoth_any A n c us B m d p B2 m2 d2 q w0 (ha.aft a) (hb.aft a) (hq.aft a))
      have H2 := Lib.hid (fun w0 (a : Aft w w0) => compare_any A n c us B m d p B2 m2 d2 q w0 (ha.aft a) (hb.aft a) (hq.aft a))
      have H3 := Lib.hid (fun w0 (a : Aft w w0) => add_any A n c us B m d p B2 m2 d2 q w0 (ha.aft a) (hb.aft a) (hq.aft a))
      have H4 := Lib.hid (fun w0 (a : Aft w w0) => refSplit_any A n c us ((bothV us p q).1 + (bothV us p q).2.1) w0 (ha.aft a))
      have HV := Lib.hid (show addV us p q = if (bothV us p q).2.2 = 0 then splitV us ((bothV us p q).1 + (bothV us p q).2.1) else ([], (bothV us p q).2.2) from rfl)
      obtain ⟨r0, r1, r2, r3⟩ := both_range us p q
      unfold maxC at r1 r3
      generalize (bothV us p q).1 = a at *
      generalize (bothV us p q).2.1 = b at *
      generalize (bothV us p q).2.2 = E at *
      clear hb hq
      have HC : (a < b ∧ cmpI a b = -1) ∨ (¬ a < b ∧ b < a ∧ cmpI a b = 1) ∨ (¬ a < b ∧ ¬ b < a ∧ cmpI a b = 0) := by
        unfold cmpI
        by_cases h1 : a < b
        · left; exact ⟨h1, by rw [if_pos h1]⟩
        · by_cases h2 : b < a
          · right; left; exact ⟨h1, h2, by rw [if_neg h1, if_pos h2]⟩
          · right; right; exact ⟨h1, h2, by rw [if_neg h1, if_neg h2]⟩
      by_cases he : E = 0
      · subst he
        rw [if_pos rfl] at HV
        have HVV := HV.out
        rw [HVV] at H3
        clear HV HVV
        generalize (splitV us (a + b)).1 = L at *
        generalize (splitV us (a + b)).2 = F at *
        rcases HC with ⟨k1, hc⟩ | ⟨k1, k2, hc⟩ | ⟨k1, k2, hc⟩
        all_goals
          rw [hc] at H2
          clear hc
          go_enter Try.func6, Try.ntmps6
          go_wp2_with fail
          have h1 := awake_any w
          refine h1.mono ?_
          rintro e w1 ⟨rfl, N1⟩
          clear h1
          have A1 := N1
          go_wp2_with fail
          have h1 := great_any A n c us B m d w1 (ha.aft A1) hm
          rw [hg] at h1
          refine h1.mono ?_
          rintro e w2 ⟨rfl, N2⟩
          clear h1
          have A2 := A1.trans N2
          go_wp2_with fail
          have h1 := great_any none 0 0 [] B2 m2 d2 w2 (ul_nil _) hm2
          rw [hg2] at h1
          refine h1.mono ?_
          rintro e w3 ⟨rfl, N3⟩
          clear h1
          have A3 := A2.trans N3
          go_wp2_with fail
          have h1 := H1.out w3 A3
          refine h1.mono ?_
          rintro e w4 ⟨rfl, N4⟩
          clear h1
          have A4 := A3.trans N4
          go_wp2_with fail
          have h1 := H2.out w4 A4
          refine h1.mono ?_
          rintro e w5 ⟨rfl, N5⟩
          clear h1
          have A5 := A4.trans N5
          go_wp2_with fail
          have h1 := H3.out w5 A5
          refine h1.mono ?_
          rintro e w6 ⟨⟨Xs, ns, cs, rfl, rs⟩, N6⟩
          clear h1
          have A6 := A5.trans N6
          have Rs := Lib.hid (Rw.aft rs (Aft.refl w6))
          clear rs
          go_wp2_with fail
          have h1 := H4.out w6 A6
          refine h1.mono ?_
          rintro e w7 ⟨⟨Xt, nt, ct, rfl, rt⟩, N7⟩
          clear h1
          have A7 := A6.trans N7
          have Rt := Lib.hid (Rw.aft rt (Aft.refl w7))
          clear rt
          go_wp2_with fail
          have h1 := same_any Xs ns cs L Xt nt ct L w7 (Rs.out.aft N7) Rt.out
          rw [decide_eq_true rfl] at h1
          refine h1.mono ?_
          rintro e w8 ⟨rfl, N8⟩
          clear h1
          have A8 := A7.trans N8
          go_wp2
          go_ret
          exact ⟨by first | rfl | simp, A8⟩
      · have heb : (E != 0) = true := by simp [he]
        rw [if_neg he] at HV
        have HVV := HV.out
        rw [HVV] at H3
        clear HV HVV H4
        dsimp only at H3
        rcases HC with ⟨k1, hc⟩ | ⟨k1, k2, hc⟩ | ⟨k1, k2, hc⟩
        all_goals
          rw [hc] at H2
          clear hc
          go_enter Try.func6, Try.ntmps6
          go_wp2_with fail
          have h1 := awake_any w
          refine h1.mono ?_
          rintro e w1 ⟨rfl, N1⟩
          clear h1
          have A1 := N1
          go_wp2_with fail
          have h1 := great_any A n c us B m d w1 (ha.aft A1) hm
          rw [hg] at h1
          refine h1.mono ?_
          rintro e w2 ⟨rfl, N2⟩
          clear h1
          have A2 := A1.trans N2
          go_wp2_with fail
          have h1 := great_any none 0 0 [] B2 m2 d2 w2 (ul_nil _) hm2
          rw [hg2] at h1
          refine h1.mono ?_
          rintro e w3 ⟨rfl, N3⟩
          clear h1
          have A3 := A2.trans N3
          go_wp2_with fail
          have h1 := H1.out w3 A3
          refine h1.mono ?_
          rintro e w4 ⟨rfl, N4⟩
          clear h1
          have A4 := A3.trans N4
          go_wp2_with fail
          have h1 := H2.out w4 A4
          refine h1.mono ?_
          rintro e w5 ⟨rfl, N5⟩
          clear h1
          have A5 := A4.trans N5
          go_wp2_with fail
          have h1 := H3.out w5 A5
          refine h1.mono ?_
          rintro e w6 ⟨⟨Xs, ns, cs, rfl, rs⟩, N6⟩
          clear h1
          have A6 := A5.trans N6
          have Rs := Lib.hid (Rw.aft rs (Aft.refl w6))
          clear rs
          obtain rfl : ns = 0 := Rs.out.len.symm
          go_wp2
          go_ret
          exact ⟨by first | rfl | simp, A6⟩
    · go_enter Try.func6, Try.ntmps6
      go_wp2_with fail
      have h1 := awake_any w
      refine h1.mono ?_
      rintro e w1 ⟨rfl, N1⟩
      clear h1
      have A1 := N1
      go_wp2_with fail
      have h1 := great_any A n c us B m d w1 (ha.aft A1) hm
      rw [hg] at h1
      refine h1.mono ?_
      rintro e w2 ⟨rfl, N2⟩
      clear h1
      have A2 := A1.trans N2
      go_wp2_with fail
      have h1 := great_any none 0 0 [] B2 m2 d2 w2 (ul_nil _) hm2
      rw [hg2] at h1
      refine h1.mono ?_
      rintro e w3 ⟨rfl, N3⟩
      clear h1
      have A3 := A2.trans N3
      go_wp2
      go_ret
      exact ⟨by first | rfl | simp, A3⟩
  · go_enter Try.func6, Try.ntmps6
    go_wp2_with fail
    have h1 := awake_any w
    refine h1.mono ?_
    rintro e w1 ⟨rfl, N1⟩
    clear h1
    have A1 := N1
    go_wp2_with fail
    have h1 := great_any A n c us B m d w1 (ha.aft A1) hm
    rw [hg] at h1
    refine h1.mono ?_
    rintro e w2 ⟨rfl, N2⟩
    clear h1
    have A2 := A1.trans N2
    go_wp2
    go_ret
    exact ⟨by first | rfl | simp, A2⟩

theorem own : ownKnob Try.prog.godebug = none := by kernel_rfl
theorem laidOut : laidOutB Try.prog = true := by kernel_rfl
theorem bytesU : Try.prog.bytesOf 44 = 24 := by kernel_rfl

set_option maxRecDepth 100000 in
theorem contract (H : Type) (enc : TypeId × Value → H) (W : World) (base : Nat) (args : Array Value) (ds gs : List (DataW H)) (before : List MemPlace)
    (hval : ∀ (j : Nat) t v, Try.f6.params[j]? = some t → args[j]? = some v → Value.okWide Try.prog W .any base t v)
    (hW : DataW.Whole enc Try.prog Try.f6.params.toList Rows.measureSumsSpec.vars false W args.toList ds gs before) (hsz0 : (DataW.weightsEach Try.prog (Try.f6.params.toList ++ Rows.measureSumsSpec.plain.varTypes Try.prog) (ds ++ gs)).all (· ≤ reachBytes) = true) :
    Calls Try.prog 6 args W fun e W' => ∃ v, e = .returned v ∧ Rows.measureSumsSpec.post enc Try.prog Try.f6 false true false false W args v W' := by
  have hW' := hW
  obtain ⟨p, q, hA0, hV, rfl, hfz, hnd⟩ := hW
  have hA : DataW.TrodAll enc Try.prog W 0 (fun _ => true) true Try.f6.params.toList args.toList ds p := hA0
  have hsz := hsz0
  rw [Try.params6] at hA hval hsz
  obtain ⟨v0, vs0, d0, ds0, p0, q0, hargs, rfl, rfl, h0, r0⟩ := trodAll_cons hA
  obtain ⟨v1, vs1, d1, ds1, p1, q1, rfl, rfl, rfl, h1, r1⟩ := trodAll_cons r0
  obtain ⟨v2, vs2, d2, ds2, p2, q2, rfl, rfl, rfl, h2, r2⟩ := trodAll_cons r1
  obtain ⟨rfl, rfl, rfl⟩ := trodAll_nil r2
  obtain rfl : args = #[v0, v1, v2] := by cases args; simp_all
  obtain ⟨rfl, rfl⟩ := trodVars_none hV
  obtain ⟨a0, len0, cap0, rfl⟩ := okWide_slice Try.underlying22 (hval 0 22 v0 rfl rfl)
  have lt0 : ∀ x ∈ p0, x.block < W.heap.size := by obtain ⟨m, hm⟩ := h0; exact DataW.trod_lt m _ _ _ hm
  obtain ⟨xs0, s0, b0⟩ := units_of h0 (Nat.le_refl _) (fun el sp e => by have := sized_slice hsz (j := 0) (t := 22) (e := 44) rfl (by rw [e]; rfl) Try.underlying22; rwa [bytesU] at this)
  obtain ⟨a1, len1, cap1, rfl⟩ := okWide_slice Try.underlying25 (hval 1 25 v1 rfl rfl)
  have lt1 : ∀ x ∈ p1, x.block < W.heap.size := by obtain ⟨m, hm⟩ := h1; exact DataW.trod_lt m _ _ _ hm
  obtain ⟨xs1, s1, z1⟩ := ints_of h1
  obtain ⟨a2, len2, cap2, rfl⟩ := okWide_slice Try.underlying25 (hval 2 25 v2 rfl rfl)
  have lt2 : ∀ x ∈ p2, x.block < W.heap.size := by obtain ⟨m, hm⟩ := h2; exact DataW.trod_lt m _ _ _ hm
  obtain ⟨xs2, s2, z2⟩ := ints_of h2
  clear hA0
  refine (walk a0 len0 cap0 xs0 a1 len1 cap1 xs1 a2 len2 cap2 xs2 W s0 b0 s1 z1 s2 z2).mono fun e W' ⟨he, bel⟩ => ?_
  subst he
  exact ⟨_, rfl, _, _, _, [], _, [], hW', trodAll_mk1 (shut_bool Try.underlying4 _), (trodAll_cons_mk (Below.trod laidOut (by kernel_rfl) (of_decide_eq_true (by kernel_rfl)) h0 bel lt0) (trodAll_cons_mk (Below.trod laidOut (by kernel_rfl) (of_decide_eq_true (by kernel_rfl)) h1 bel lt1) (trodAll_cons_mk (Below.trod laidOut (by kernel_rfl) (of_decide_eq_true (by kernel_rfl)) h2 bel lt2) trodAll_mk0))), rfl, Below.frame bel _, fun h => by cases h⟩

set_option maxRecDepth 100000 in
theorem lifted (os : Os) (started : os.Started) (H : Type) (enc : TypeId × Value → H) :
    ReturnsInHanded {} Try.checked os 6 .any (Rows.measureSumsSpec.pre6 enc Try.prog Try.f6 Rows.measureSumsRow.domain false) (Rows.measureSumsSpec.post enc Try.prog Try.f6 false true false false) := by
  refine returnsInHanded_of_change_sized (C := Try.checked) own started (by kernel_rfl) Try.func6
    (ChangeSpec.witness6 (enc := enc) (C := Try.checked) false ⟨#[], #[.slice none 0 0, .slice none 0 0, .slice none 0 0], []⟩ 8 (by kernel_rfl) (by kernel_rfl) (by kernel_rfl) (by kernel_rfl)) ?_
  intro W base args ds gs before hval hW _ hsz _
  exact contract H enc W base args ds gs before hval hW hsz

theorem proved : Rows.MeasureSumsSaid :=
  OpenClaim.holds_of_wide 6 Try.f6 rfl rfl rfl rfl rfl rfl rfl ⟨rfl, rfl, rfl, rfl, rfl⟩ rfl rfl rfl rfl rfl (by kernel_rfl) Try.func6 (by kernel_rfl)
    (of_decide_eq_true (by kernel_rfl)) (by unfold Func.isWrapper; rw [if_neg (of_decide_eq_false (by kernel_rfl))]; exact ⟨rfl, rfl⟩)
    (fun os started H enc _ => lifted os started H enc)
#print axioms proved
end Go.Proofs.Yteknfigpjhngfaa.lawMSums
