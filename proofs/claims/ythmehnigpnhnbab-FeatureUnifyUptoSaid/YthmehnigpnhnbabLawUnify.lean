/-
  For every two records, Unify returns the specified union or false, and it is commutative: the law FeatureUnify returns true. Condition: the arguments hold together at most 1048576 values and letters (beyond that, at sizes that no machine has, the reference's append panics).
-/
import Derived.Test.YthmehnigpnhnbabFeatAwake
import Derived.Test.YthmehnigpnhnbabFeatFrame
import Derived.Test.YthmehnigpnhnbabFeatRefUnify
import Derived.Test.YthmehnigpnhnbabBulk
import Derived.JoinedCond
namespace Go.Proofs.Ythmehnigpnhnbab.lawUnify
open Go.ChangeShapes Go.WideShapes Go.ChangeAt Go.RowKit
open FeatPlain

set_option maxRecDepth 100000 in
set_option maxHeartbeats 3200000 in
theorem walk (A : Option Addr) (n c : Nat) (xs : List Ft) (B : Option Addr) (m d : Nat) (ys : List Ft) (w : World)
    (ha : Sl w A n c xs) (_ : Sized xs) (ba : c * 32 ≤ 33554432) (hb : Sl w B m d ys) (_ : Sized ys) (bb : d * 32 ≤ 33554432) :
    Calls Try.prog 4 #[.slice A n c, .slice B m d] w (BoolPost w true) := by
  have la := ha.le
  have lb := hb.le
  by_cases ra : ascB xs = true
  · by_cases rb : ascB ys = true
    · have aa := (ascB_iff xs).1 ra
      have ab := (ascB_iff ys).1 rb
      have hc1 := unify_comm ab aa
      have hc2 := refU_unify aa ab
      cases hu : unify xs ys with
      | none =>
        have R1 := Lib.hid hu
        have R2 := Lib.hid (hc1.trans hu)
        have R3 := Lib.hid (hc2.trans hu)
        clear hu hc1 hc2
        go_enter Try.func4, Try.ntmps4
        go_wp2_with fail
        have h1 := awake_any w
        refine h1.mono ?_
        rintro e w1 ⟨rfl, N1⟩
        clear h1
        have A1 := N1
        go_wp2_with fail
        have h1 := record_any A n c xs w1 (ha.aft A1)
        rw [ra] at h1
        refine h1.mono ?_
        rintro e w2 ⟨rfl, q2⟩
        have N2 := quiet_aft q2
        clear q2
        clear h1
        have A2 := A1.trans N2
        go_wp2_with fail
        have h1 := record_any B m d ys w2 (hb.aft A2)
        rw [rb] at h1
        refine h1.mono ?_
        rintro e w3 ⟨rfl, q3⟩
        have N3 := quiet_aft q3
        clear q3
        clear h1
        have A3 := A2.trans N3
        go_wp2_with fail
        have h1 := unify_any A n c xs B m d ys w3 (ha.aft A3) (hb.aft A3) (by omega)
        refine h1.mono ?_
        rintro e w4 ⟨N4, hr⟩
        clear h1
        have A4 := A3.trans N4
        rw [R1.out] at hr
        obtain rfl := hr
        go_wp2_with fail
        have h1 := unify_any B m d ys A n c xs w4 (hb.aft A4) (ha.aft A4) (by omega)
        refine h1.mono ?_
        rintro e w5 ⟨N5, hr⟩
        clear h1
        have A5 := A4.trans N5
        rw [R2.out] at hr
        obtain rfl := hr
        go_wp2_with fail
        have h1 := refUnify_any A n c xs B m d ys w5 (ha.aft A5) (hb.aft A5) (by omega)
        refine h1.mono ?_
        rintro e w6 ⟨N6, hr⟩
        clear h1
        have A6 := A5.trans N6
        rw [R3.out] at hr
        obtain rfl := hr
        go_wp2_with fail
        have h1 := same_any none 0 0 [] none 0 0 [] w6 (Sl.nil (by omega) (fun _ => rfl)) (Sl.nil (by omega) (fun _ => rfl))
        rw [decide_eq_true (rfl : ([] : List Ft) = [])] at h1
        refine h1.mono ?_
        rintro e w7 ⟨rfl, q7⟩
        have N7 := quiet_aft q7
        clear q7
        clear h1
        have A7 := A6.trans N7
        go_wp2_with fail
        have h1 := same_any none 0 0 [] none 0 0 [] w7 (Sl.nil (by omega) (fun _ => rfl)) (Sl.nil (by omega) (fun _ => rfl))
        rw [decide_eq_true (rfl : ([] : List Ft) = [])] at h1
        refine h1.mono ?_
        rintro e w8 ⟨rfl, q8⟩
        have N8 := quiet_aft q8
        clear q8
        clear h1
        have A8 := A7.trans N8
        go_wp2
        go_ret
        refine ⟨?_, A8⟩
        rfl
      | some u =>
        have R1 := Lib.hid hu
        have R2 := Lib.hid (hc1.trans hu)
        have R3 := Lib.hid (hc2.trans hu)
        clear hu hc1 hc2
        go_enter Try.func4, Try.ntmps4
        go_wp2_with fail
        have h1 := awake_any w
        refine h1.mono ?_
        rintro e w1 ⟨rfl, N1⟩
        clear h1
        have A1 := N1
        go_wp2_with fail
        have h1 := record_any A n c xs w1 (ha.aft A1)
        rw [ra] at h1
        refine h1.mono ?_
        rintro e w2 ⟨rfl, q2⟩
        have N2 := quiet_aft q2
        clear q2
        clear h1
        have A2 := A1.trans N2
        go_wp2_with fail
        have h1 := record_any B m d ys w2 (hb.aft A2)
        rw [rb] at h1
        refine h1.mono ?_
        rintro e w3 ⟨rfl, q3⟩
        have N3 := quiet_aft q3
        clear q3
        clear h1
        have A3 := A2.trans N3
        go_wp2_with fail
        have h1 := unify_any A n c xs B m d ys w3 (ha.aft A3) (hb.aft A3) (by omega)
        refine h1.mono ?_
        rintro e w4 ⟨N4, hr⟩
        clear h1
        have A4 := A3.trans N4
        rw [R1.out] at hr
        obtain ⟨U, un, uc, rfl, su_4⟩ := hr
        go_wp2_with fail
        have h1 := unify_any B m d ys A n c xs w4 (hb.aft A4) (ha.aft A4) (by omega)
        refine h1.mono ?_
        rintro e w5 ⟨N5, hr⟩
        clear h1
        have A5 := A4.trans N5
        have su_5 := su_4.aft N5
        clear su_4
        rw [R2.out] at hr
        obtain ⟨V, vn, vc, rfl, sv_5⟩ := hr
        go_wp2_with fail
        have h1 := refUnify_any A n c xs B m d ys w5 (ha.aft A5) (hb.aft A5) (by omega)
        refine h1.mono ?_
        rintro e w6 ⟨N6, hr⟩
        clear h1
        have A6 := A5.trans N6
        have su_6 := su_5.aft N6
        clear su_5
        have sv_6 := sv_5.aft N6
        clear sv_5
        rw [R3.out] at hr
        obtain ⟨T, tn, tc, rfl, st_6⟩ := hr
        go_wp2_with fail
        have h1 := same_any U un uc u T tn tc u w6 su_6 st_6
        rw [decide_eq_true (rfl : u = u)] at h1
        refine h1.mono ?_
        rintro e w7 ⟨rfl, q7⟩
        have N7 := quiet_aft q7
        clear q7
        clear h1
        have A7 := A6.trans N7
        have su_7 := su_6.aft N7
        clear su_6
        have sv_7 := sv_6.aft N7
        clear sv_6
        have st_7 := st_6.aft N7
        clear st_6
        go_wp2_with fail
        have h1 := same_any V vn vc u T tn tc u w7 sv_7 st_7
        rw [decide_eq_true (rfl : u = u)] at h1
        refine h1.mono ?_
        rintro e w8 ⟨rfl, q8⟩
        have N8 := quiet_aft q8
        clear q8
        clear h1
        have A8 := A7.trans N8
        have su_8 := su_7.aft N8
        clear su_7
        have sv_8 := sv_7.aft N8
        clear sv_7
        have st_8 := st_7.aft N8
        clear st_7
        go_wp2
        go_ret
        refine ⟨?_, A8⟩
        rfl
    · have rb' : ascB ys = false := by simpa using rb
      go_enter Try.func4, Try.ntmps4
      go_wp2_with fail
      have h1 := awake_any w
      refine h1.mono ?_
      rintro e w1 ⟨rfl, N1⟩
      clear h1
      have A1 := N1
      go_wp2_with fail
      have h1 := record_any A n c xs w1 (ha.aft A1)
      rw [ra] at h1
      refine h1.mono ?_
      rintro e w2 ⟨rfl, q2⟩
      have N2 := quiet_aft q2
      clear q2
      clear h1
      have A2 := A1.trans N2
      go_wp2_with fail
      have h1 := record_any B m d ys w2 (hb.aft A2)
      rw [rb'] at h1
      refine h1.mono ?_
      rintro e w3 ⟨rfl, q3⟩
      have N3 := quiet_aft q3
      clear q3
      clear h1
      have A3 := A2.trans N3
      go_wp2
      go_ret
      refine ⟨?_, A3⟩
      rfl
  · have ra' : ascB xs = false := by simpa using ra
    go_enter Try.func4, Try.ntmps4
    go_wp2_with fail
    have h1 := awake_any w
    refine h1.mono ?_
    rintro e w1 ⟨rfl, N1⟩
    clear h1
    have A1 := N1
    go_wp2_with fail
    have h1 := record_any A n c xs w1 (ha.aft A1)
    rw [ra'] at h1
    refine h1.mono ?_
    rintro e w2 ⟨rfl, q2⟩
    have N2 := quiet_aft q2
    clear q2
    clear h1
    have A2 := A1.trans N2
    go_wp2
    go_ret
    refine ⟨?_, A2⟩
    rfl

theorem own : ownKnob Try.prog.godebug = none := by kernel_rfl
theorem laidOut : laidOutB Try.prog = true := by kernel_rfl
theorem bytesF : Try.prog.bytesOf 29 = 32 := by kernel_rfl

set_option maxRecDepth 100000 in
theorem contract (H : Type) (enc : TypeId × Value → H) (W : World) (base : Nat) (args : Array Value) (ds gs : List (DataW H)) (before : List MemPlace)
    (hval : ∀ (j : Nat) t v, Try.f4.params[j]? = some t → args[j]? = some v → Value.okWide Try.prog W .any base t v)
    (hW : DataW.Whole enc Try.prog Try.f4.params.toList Rows.featureUnifySpec.vars false W args.toList ds gs before) (hk : Rows.uptoSmall H (ds ++ gs) = true) :
    Calls Try.prog 4 args W fun e W' => ∃ v, e = .returned v ∧ Rows.featureUnifySpec.post enc Try.prog Try.f4 false true false false W args v W' := by
  have hW' := hW
  obtain ⟨p, q, hA0, hV, rfl, hfz, hnd⟩ := hW
  have hA : DataW.TrodAll enc Try.prog W 0 (fun _ => true) true Try.f4.params.toList args.toList ds p := hA0
  rw [Try.params4] at hA hval
  obtain ⟨v0, vs0, d0, ds0, p0, q0, hargs, rfl, rfl, h0, r0⟩ := trodAll_cons hA
  obtain ⟨v1, vs1, d1, ds1, p1, q1, rfl, rfl, rfl, h1, r1⟩ := trodAll_cons r0
  obtain ⟨rfl, rfl, rfl⟩ := trodAll_nil r1
  obtain rfl : args = #[v0, v1] := by cases args; simp_all
  obtain ⟨rfl, rfl⟩ := trodVars_none hV
  have hB := bulks.bound hk
  obtain ⟨a0, len0, cap0, rfl⟩ := okWide_slice Try.underlying22 (hval 0 22 v0 rfl rfl)
  have lt0 : ∀ x ∈ p0, x.block < W.heap.size := by obtain ⟨m, hm⟩ := h0; exact DataW.trod_lt m _ _ _ hm
  obtain ⟨xs0, s0, z0, b0⟩ := feats_of (R := 33554432) h0 (by unfold reachBytes; omega) (fun el sp e => by have h1 := bulks.part_le (d := d0) (l := [d0, d1] ++ []) (by simp); rw [e] at h1; have h2 := bulks.slice_le el sp; rw [e] at hB; omega)
  obtain ⟨a1, len1, cap1, rfl⟩ := okWide_slice Try.underlying22 (hval 1 22 v1 rfl rfl)
  have lt1 : ∀ x ∈ p1, x.block < W.heap.size := by obtain ⟨m, hm⟩ := h1; exact DataW.trod_lt m _ _ _ hm
  obtain ⟨xs1, s1, z1, b1⟩ := feats_of (R := 33554432) h1 (by unfold reachBytes; omega) (fun el sp e => by have h1 := bulks.part_le (d := d1) (l := [d0, d1] ++ []) (by simp); rw [e] at h1; have h2 := bulks.slice_le el sp; rw [e] at hB; omega)
  clear hA0
  refine (walk a0 len0 cap0 xs0 a1 len1 cap1 xs1 W s0 z0 b0 s1 z1 b1).mono fun e W' ⟨he, bel⟩ => ?_
  subst he
  exact ⟨_, rfl, _, _, _, [], _, [], hW', trodAll_mk1 (shut_bool Try.underlying4 _), (trodAll_cons_mk (Below.trod laidOut (by kernel_rfl) (of_decide_eq_true (by kernel_rfl)) h0 bel lt0) (trodAll_cons_mk (Below.trod laidOut (by kernel_rfl) (of_decide_eq_true (by kernel_rfl)) h1 bel lt1) trodAll_mk0)), rfl, Below.frame bel _, fun h => by cases h⟩

set_option maxRecDepth 100000 in
theorem lifted (os : Os) (started : os.Started) (H : Type) (enc : TypeId × Value → H) (F : Stop.Interp) :
    ReturnsInHanded {} Try.checked os 4 .any ((Rows.OpenSpec.upto Rows.featureUnifySpec).pre6 enc Try.prog Try.f4 Rows.featureUnifyUptoRow.domain false) (((Rows.OpenSpec.upto Rows.featureUnifySpec).at F).post enc Try.prog Try.f4 false true false false) := by
  refine returnsInHanded_of_cond (C := Try.checked) (s := Rows.OpenSpec.upto Rows.featureUnifySpec) (k := Rows.uptoSmall) rfl own started (by kernel_rfl) Try.func4
    (OpenSpec.witness (enc := enc) (C := Try.checked) (s := Rows.OpenSpec.upto Rows.featureUnifySpec) (k := Rows.uptoSmall) rfl false ⟨#[], #[.slice none 0 0, .slice none 0 0], []⟩ 8 (by kernel_rfl) (by kernel_rfl) (by kernel_rfl)
      (x := ([.nil, .nil], [], [])) (by kernel_rfl) rfl (by kernel_rfl)) ?_
  intro W base args ds gs before hval hW _ hk _
  exact contract H enc W base args ds gs before hval hW hk

theorem proved : Rows.FeatureUnifyUptoSaid :=
  OpenClaim.holds_of_cond 4 Try.f4 rfl rfl rfl rfl rfl rfl rfl ⟨rfl, rfl, rfl, rfl, rfl⟩ rfl rfl rfl rfl rfl (by kernel_rfl) Try.func4 (by kernel_rfl)
    (of_decide_eq_true (by kernel_rfl)) (by unfold Func.isWrapper; rw [if_neg (of_decide_eq_false (by kernel_rfl))]; exact ⟨rfl, rfl⟩)
    (fun os started H enc _ F => lifted os started H enc F)
#print axioms proved
end Go.Proofs.Ythmehnigpnhnbab.lawUnify
