/-
  For every two records, Subsumes(a, b) holds if and only if Unify(a, b) returns b; Subsumes is reflexive and antisymmetric: the law FeatureSubsumes returns true. Conditions: none (every pair of lists of features, of any size that an argument can have).
-/
import Derived.Test.YthmehnigpnhnbabFeatAwake
import Derived.Test.YthmehnigpnhnbabFeatFrame
import Derived.Test.YthmehnigpnhnbabRows
namespace Go.Proofs.Ythmehnigpnhnbab.lawSubsumes
open Go.ChangeShapes Go.WideShapes Go.ChangeAt Go.RowKit
open FeatPlain

set_option maxRecDepth 100000 in
set_option maxHeartbeats 3200000 in
theorem walk (A : Option Addr) (n c : Nat) (xs : List Ft) (B : Option Addr) (m d : Nat) (ys : List Ft) (w : World) (ha : Sl w A n c xs) (hb : Sl w B m d ys) (hsum : (n + m) * 32 ≤ 281474976710656) :
    Calls Try.prog 5 #[.slice A n c, .slice B m d] w (BoolPost w true) := by
  by_cases ra : ascB xs = true
  · by_cases rb : ascB ys = true
    · have aa := (ascB_iff xs).1 ra
      have ab := (ascB_iff ys).1 rb
      have hrefl := subs_refl aa
      by_cases p : subs xs ys = true
      · have hu := (subs_unify aa ab).1 p
        have hq : subs ys xs = decide (xs = ys) := by
          have := subs_antisymm aa ab
          by_cases e : xs = ys
          · subst e; simp [hrefl]
          · simp [e]
            cases k : subs ys xs
            · rfl
            · exact absurd (this.1 ⟨p, k⟩) e
        have R1 := Lib.hid hu
        have R2 := Lib.hid hq
        have R3 := Lib.hid hrefl
        have R4 := Lib.hid p
        clear hu hq hrefl p
        go_enter Try.func5, Try.ntmps5
        go_wp2_with fail
        refine (awake_any _).mono ?_
        rintro e w1 ⟨rfl, A1⟩
        go_wp2_with fail
        have h1 := record_any A n c xs w1 (ha.aft A1)
        rw [ra] at h1
        refine h1.mono ?_
        rintro e w2 ⟨rfl, q2⟩
        have A2 := A1.trans (quiet_aft q2)
        clear h1 q2
        go_wp2_with fail
        have h1 := record_any B m d ys w2 (hb.aft A2)
        rw [rb] at h1
        refine h1.mono ?_
        rintro e w3 ⟨rfl, q3⟩
        have A3 := A2.trans (quiet_aft q3)
        clear h1 q3
        go_wp2_with fail
        refine (unify_any A n c xs B m d ys w3 (ha.aft A3) (hb.aft A3) hsum).mono ?_
        rintro e w4 ⟨A34, hr⟩
        rw [R1.out] at hr
        obtain ⟨U, un, uc, rfl, su⟩ := hr
        have A4 := A3.trans A34
        go_wp2_with fail
        have h1 := subs_any A n c xs B m d ys w4 (ha.aft A4) (hb.aft A4)
        rw [R4.out] at h1
        refine h1.mono ?_
        rintro e w5 ⟨rfl, A45⟩
        clear h1
        go_wp2_with fail
        refine (subs_any B m d ys A n c xs w5 (hb.aft (A4.trans A45)) (ha.aft (A4.trans A45))).mono ?_
        rintro e w6 ⟨rfl, A56⟩
        have A46 := A45.trans A56
        go_wp2_with fail
        have h1 := same_any U un uc ys B m d ys w6 (su.aft A46) (hb.aft (A4.trans A46))
        rw [decide_eq_true (rfl : ys = ys)] at h1
        refine h1.mono ?_
        rintro e w7 ⟨rfl, q7⟩
        have A7 := (A4.trans A46).trans (quiet_aft q7)
        clear h1 q7
        go_wp2_with fail
        have h1 := subs_any A n c xs A n c xs w7 (ha.aft A7) (ha.aft A7)
        rw [R3.out] at h1
        refine h1.mono ?_
        rintro e w8 ⟨rfl, A78⟩
        have A8 := A7.trans A78
        clear h1
        go_wp2_with fail
        have h1 := subs_any none 0 0 [] A n c xs w8 (Sl.nil (by omega) (fun _ => rfl)) (ha.aft A8)
        rw [subs_nil] at h1
        refine h1.mono ?_
        rintro e w9 ⟨rfl, A89⟩
        have A9 := A8.trans A89
        clear h1
        go_wp2_with fail
        refine (same_any A n c xs B m d ys w9 (ha.aft A9) (hb.aft A9)).mono ?_
        rintro e w10 ⟨rfl, q10⟩
        have A10 := A9.trans (quiet_aft q10)
        clear q10
        go_wp2
        go_ret
        refine ⟨?_, A10⟩
        show Ending.returned (.bool (subs ys xs == decide (xs = ys))) = _
        rw [R2.out]
        simp
      · have p' : subs xs ys = false := by simpa using p
        have hne : decide (xs = ys) = false := by
          apply decide_eq_false
          intro e
          subst e
          exact p hrefl
        have R2 := Lib.hid hne
        have R3 := Lib.hid hrefl
        have R4 := Lib.hid p'
        cases hu : unify xs ys with
        | none =>
          have R1 := Lib.hid hu
          clear hu hrefl p p' hne
          go_enter Try.func5, Try.ntmps5
          go_wp2_with fail
          refine (awake_any _).mono ?_
          rintro e w1 ⟨rfl, A1⟩
          go_wp2_with fail
          have h1 := record_any A n c xs w1 (ha.aft A1)
          rw [ra] at h1
          refine h1.mono ?_
          rintro e w2 ⟨rfl, q2⟩
          have A2 := A1.trans (quiet_aft q2)
          clear h1 q2
          go_wp2_with fail
          have h1 := record_any B m d ys w2 (hb.aft A2)
          rw [rb] at h1
          refine h1.mono ?_
          rintro e w3 ⟨rfl, q3⟩
          have A3 := A2.trans (quiet_aft q3)
          clear h1 q3
          go_wp2_with fail
          refine (unify_any A n c xs B m d ys w3 (ha.aft A3) (hb.aft A3) hsum).mono ?_
          rintro e w4 ⟨A34, hr⟩
          rw [R1.out] at hr
          obtain rfl := hr
          have A4 := A3.trans A34
          go_wp2_with fail
          have h1 := subs_any A n c xs B m d ys w4 (ha.aft A4) (hb.aft A4)
          rw [R4.out] at h1
          refine h1.mono ?_
          rintro e w5 ⟨rfl, A45⟩
          clear h1
          go_wp2_with fail
          refine (subs_any B m d ys A n c xs w5 (hb.aft (A4.trans A45)) (ha.aft (A4.trans A45))).mono ?_
          rintro e w6 ⟨rfl, A56⟩
          have A46 := A45.trans A56
          go_wp2_with fail
          have A7 := A4.trans A46
          have h1 := subs_any A n c xs A n c xs w6 (ha.aft A7) (ha.aft A7)
          rw [R3.out] at h1
          refine h1.mono ?_
          rintro e w8 ⟨rfl, A78⟩
          have A8 := A7.trans A78
          clear h1
          go_wp2_with fail
          have h1 := subs_any none 0 0 [] A n c xs w8 (Sl.nil (by omega) (fun _ => rfl)) (ha.aft A8)
          rw [subs_nil] at h1
          refine h1.mono ?_
          rintro e w9 ⟨rfl, A89⟩
          have A9 := A8.trans A89
          clear h1
          go_wp2_with fail
          have h1 := same_any A n c xs B m d ys w9 (ha.aft A9) (hb.aft A9)
          rw [R2.out] at h1
          refine h1.mono ?_
          rintro e w10 ⟨rfl, q10⟩
          have A10 := A9.trans (quiet_aft q10)
          clear q10
          go_wp2
          go_ret
          refine ⟨?_, A10⟩
          rfl
        | some u =>
          have R1 := Lib.hid hu
          have hun : decide (u = ys) = false := by
            apply decide_eq_false
            intro e
            subst e
            exact p ((subs_unify aa ab).2 hu)
          have R5 := Lib.hid hun
          clear hu hrefl p p' hne hun
          go_enter Try.func5, Try.ntmps5
          go_wp2_with fail
          refine (awake_any _).mono ?_
          rintro e w1 ⟨rfl, A1⟩
          go_wp2_with fail
          have h1 := record_any A n c xs w1 (ha.aft A1)
          rw [ra] at h1
          refine h1.mono ?_
          rintro e w2 ⟨rfl, q2⟩
          have A2 := A1.trans (quiet_aft q2)
          clear h1 q2
          go_wp2_with fail
          have h1 := record_any B m d ys w2 (hb.aft A2)
          rw [rb] at h1
          refine h1.mono ?_
          rintro e w3 ⟨rfl, q3⟩
          have A3 := A2.trans (quiet_aft q3)
          clear h1 q3
          go_wp2_with fail
          refine (unify_any A n c xs B m d ys w3 (ha.aft A3) (hb.aft A3) hsum).mono ?_
          rintro e w4 ⟨A34, hr⟩
          rw [R1.out] at hr
          obtain ⟨U, un, uc, rfl, su⟩ := hr
          have A4 := A3.trans A34
          go_wp2_with fail
          have h1 := subs_any A n c xs B m d ys w4 (ha.aft A4) (hb.aft A4)
          rw [R4.out] at h1
          refine h1.mono ?_
          rintro e w5 ⟨rfl, A45⟩
          clear h1
          go_wp2_with fail
          refine (subs_any B m d ys A n c xs w5 (hb.aft (A4.trans A45)) (ha.aft (A4.trans A45))).mono ?_
          rintro e w6 ⟨rfl, A56⟩
          have A46 := A45.trans A56
          go_wp2_with fail
          have h1 := same_any U un uc u B m d ys w6 (su.aft A46) (hb.aft (A4.trans A46))
          rw [R5.out] at h1
          refine h1.mono ?_
          rintro e w7 ⟨rfl, q7⟩
          have A7 := (A4.trans A46).trans (quiet_aft q7)
          clear h1 q7
          go_wp2_with fail
          have h1 := subs_any A n c xs A n c xs w7 (ha.aft A7) (ha.aft A7)
          rw [R3.out] at h1
          refine h1.mono ?_
          rintro e w8 ⟨rfl, A78⟩
          have A8 := A7.trans A78
          clear h1
          go_wp2_with fail
          have h1 := subs_any none 0 0 [] A n c xs w8 (Sl.nil (by omega) (fun _ => rfl)) (ha.aft A8)
          rw [subs_nil] at h1
          refine h1.mono ?_
          rintro e w9 ⟨rfl, A89⟩
          have A9 := A8.trans A89
          clear h1
          go_wp2_with fail
          have h1 := same_any A n c xs B m d ys w9 (ha.aft A9) (hb.aft A9)
          rw [R2.out] at h1
          refine h1.mono ?_
          rintro e w10 ⟨rfl, q10⟩
          have A10 := A9.trans (quiet_aft q10)
          clear q10
          go_wp2
          go_ret
          refine ⟨?_, A10⟩
          rfl
    · have rb' : ascB ys = false := by simpa using rb
      go_enter Try.func5, Try.ntmps5
      go_wp2_with fail
      refine (awake_any _).mono ?_
      rintro e w1 ⟨rfl, A1⟩
      go_wp2_with fail
      have h1 := record_any A n c xs w1 (ha.aft A1)
      rw [ra] at h1
      refine h1.mono ?_
      rintro e w2 ⟨rfl, q2⟩
      have A2 := A1.trans (quiet_aft q2)
      clear h1 q2
      go_wp2_with fail
      have h1 := record_any B m d ys w2 (hb.aft A2)
      rw [rb'] at h1
      refine h1.mono ?_
      rintro e w3 ⟨rfl, q3⟩
      have A3 := A2.trans (quiet_aft q3)
      clear h1 q3
      go_wp2
      go_ret
      exact ⟨rfl, A3⟩
  · have ra' : ascB xs = false := by simpa using ra
    go_enter Try.func5, Try.ntmps5
    go_wp2_with fail
    refine (awake_any _).mono ?_
    rintro e w1 ⟨rfl, A1⟩
    go_wp2_with fail
    have h1 := record_any A n c xs w1 (ha.aft A1)
    rw [ra'] at h1
    refine h1.mono ?_
    rintro e w2 ⟨rfl, q2⟩
    have A2 := A1.trans (quiet_aft q2)
    clear h1 q2
    go_wp2
    go_ret
    exact ⟨rfl, A2⟩

theorem own : ownKnob Try.prog.godebug = none := by kernel_rfl
theorem laidOut : laidOutB Try.prog = true := by kernel_rfl
theorem bytesF : Try.prog.bytesOf 29 = 32 := by kernel_rfl

set_option maxRecDepth 100000 in
theorem lifted (os : Os) (started : os.Started) (H : Type) (enc : TypeId × Value → H) :
    ReturnsInHanded {} Try.checked os 5 .any (Rows.featureSubsumesSpec.pre6 enc Try.prog Try.f5 Rows.featureSubsumesRow.domain false) (Rows.featureSubsumesSpec.post enc Try.prog Try.f5 false true false false) := by
  refine returnsInHanded_of_change_sized (C := Try.checked) own started (by kernel_rfl) Try.func5
    (ChangeSpec.witness6 (enc := enc) (C := Try.checked) false ⟨#[], #[.slice none 0 0, .slice none 0 0], []⟩ 8 (by kernel_rfl) (by kernel_rfl) (by kernel_rfl) (by kernel_rfl)) ?_
  intro W base args ds gs before hval0 hW hcnd hsz0 _
  have hval : ∀ (j : Nat) t v, Try.f5.params[j]? = some t → args[j]? = some v → Value.okWide Try.prog W .any base t v := hval0
  have hsz : (DataW.weightsEach Try.prog (Try.f5.params.toList ++ Rows.featureSubsumesSpec.plain.varTypes Try.prog) (ds ++ gs)).all (· ≤ reachBytes) = true := hsz0
  have hW' := hW
  obtain ⟨p, q, hA0, hV, rfl, hfz, hnd⟩ := hW
  have hA : DataW.TrodAll enc Try.prog W 0 (fun _ => true) true Try.f5.params.toList args.toList ds p := hA0
  rw [Try.params5] at hA hval hsz
  obtain ⟨v0, vs0, d0, ds0, p0, q0, hargs, rfl, rfl, h0, r0⟩ := trodAll_cons hA
  obtain ⟨v1, vs1, d1, ds1, p1, q1, rfl, rfl, rfl, h1, r1⟩ := trodAll_cons r0
  obtain ⟨rfl, rfl, rfl⟩ := trodAll_nil r1
  obtain rfl : args = #[v0, v1] := by cases args; simp_all
  obtain ⟨rfl, rfl⟩ := trodVars_none hV
  obtain ⟨a0, len0, cap0, rfl⟩ := okWide_slice Try.underlying22 (hval 0 22 v0 rfl rfl)
  obtain ⟨a1, len1, cap1, rfl⟩ := okWide_slice Try.underlying22 (hval 1 22 v1 rfl rfl)
  have lt0 : ∀ x ∈ p0, x.block < W.heap.size := by obtain ⟨m, hm⟩ := h0; exact DataW.trod_lt m _ _ _ hm
  have lt1 : ∀ x ∈ p1, x.block < W.heap.size := by obtain ⟨m, hm⟩ := h1; exact DataW.trod_lt m _ _ _ hm
  obtain ⟨xs, sx, _, bx⟩ := feats_of h0 (Nat.le_refl _) (fun el sp e => by have := sized_slice hsz (j := 0) (t := 22) (e := 29) rfl (by rw [e]; rfl) Try.underlying22; rwa [bytesF] at this)
  obtain ⟨ys, sy, _, b1⟩ := feats_of h1 (Nat.le_refl _) (fun el sp e => by have := sized_slice hsz (j := 1) (t := 22) (e := 29) rfl (by rw [e]; rfl) Try.underlying22; rwa [bytesF] at this)
  clear hA0 hval0
  refine (walk a0 len0 cap0 xs a1 len1 cap1 ys W sx sy (by have := sx.le; have := sy.le; unfold reachBytes at bx b1; omega)).mono fun e W' ⟨he, bel⟩ => ?_
  subst he
  exact ⟨_, rfl, _, _, _, [], _, [], hW', trodAll_mk1 (shut_bool Try.underlying4 _), (trodAll_cons_mk (Below.trod laidOut (by kernel_rfl) (of_decide_eq_true (by kernel_rfl)) h0 bel lt0) (trodAll_cons_mk (Below.trod laidOut (by kernel_rfl) (of_decide_eq_true (by kernel_rfl)) h1 bel lt1) trodAll_mk0)), rfl, Below.frame bel _, fun h => by cases h⟩

theorem over : Rows.featureSubsumesRow.holds Try.pinned (OpenSpec.ofChange Rows.featureSubsumesSpec) :=
  OpenClaim.holds_of_wide 5 Try.f5 rfl rfl rfl rfl rfl rfl rfl ⟨rfl, rfl, rfl, rfl, rfl⟩ rfl rfl rfl rfl rfl (by kernel_rfl) Try.func5 (by kernel_rfl)
    (of_decide_eq_true (by kernel_rfl)) (by unfold Func.isWrapper; rw [if_neg (of_decide_eq_false (by kernel_rfl))]; exact ⟨rfl, rfl⟩)
    (fun os started H enc _ => lifted os started H enc)

theorem proved : Rows.FeatureSubsumesSaid := over
#print axioms proved
end Go.Proofs.Ythmehnigpnhnbab.lawSubsumes
