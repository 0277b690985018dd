/-
  For every three records, Unify is associative: both orders of unification succeed or fail together, with the same result, which the three records subsume: the law FeatureAssociates returns true. Condition: the arguments hold together at most 1048576 values and letters (beyond that, at sizes that no machine has, make panics).
-/
import Derived.Test.YthmehnigpnhnbabFeatAwake
import Derived.Test.YthmehnigpnhnbabFeatFrame
import Derived.Test.YthmehnigpnhnbabBulk
import Derived.JoinedCond
namespace Go.Proofs.Ythmehnigpnhnbab.lawAssociates
open Go.ChangeShapes Go.WideShapes Go.ChangeAt Go.RowKit
open FeatPlain

set_option maxRecDepth 100000 in
set_option maxHeartbeats 3200000 in
theorem walk (A : Option Addr) (n c : Nat) (xs : List Ft) (B : Option Addr) (m d : Nat) (ys : List Ft) (C : Option Addr) (l e : Nat) (zs : List Ft) (w : World)
    (ha : Sl w A n c xs) (_ : Sized xs) (ba : c * 32 ≤ 33554432) (hb : Sl w B m d ys) (_ : Sized ys) (bb : d * 32 ≤ 33554432) (hc : Sl w C l e zs) (_ : Sized zs) (bc : e * 32 ≤ 33554432) :
    Calls Try.prog 6 #[.slice A n c, .slice B m d, .slice C l e] w (BoolPost w true) := by
  have la := ha.le
  have lb := hb.le
  have lc := hc.le
  have na := Lib.hid ha.len
  have nb := Lib.hid hb.len
  have nc := Lib.hid hc.len
  by_cases ra : ascB xs = true
  · by_cases rb : ascB ys = true
    · by_cases rc : ascB zs = true
      · have aa := (ascB_iff xs).1 ra
        have ab := (ascB_iff ys).1 rb
        have ac := (ascB_iff zs).1 rc
        have has := unify_assoc aa ab ac
        cases hu : unify xs ys with
        | none =>
          rw [hu] at has
          simp only [Option.bind_none] at has
          have U1 := Lib.hid hu
          cases hv : unify ys zs with
          | none =>
            have V1 := Lib.hid hv
            clear hu hv has
            go_enter Try.func6, Try.ntmps6
            go_wp2_with fail
            have h1 := awake_any w
            refine h1.mono ?_
            rintro e w1 ⟨rfl, N1⟩
            clear h1
            have A1 := N1
            go_wp2_with fail
            have h1 := record_any A n c xs w1 (ha.aft A1)
            rw [ra] at h1
            refine h1.mono ?_
            rintro e w2 ⟨rfl, q2⟩
            have N2 := quiet_aft q2
            clear q2
            clear h1
            have A2 := A1.trans N2
            go_wp2_with fail
            have h1 := record_any B m d ys w2 (hb.aft A2)
            rw [rb] at h1
            refine h1.mono ?_
            rintro e w3 ⟨rfl, q3⟩
            have N3 := quiet_aft q3
            clear q3
            clear h1
            have A3 := A2.trans N3
            go_wp2_with fail
            have h1 := record_any C l e zs w3 (hc.aft A3)
            rw [rc] at h1
            refine h1.mono ?_
            rintro e w4 ⟨rfl, q4⟩
            have N4 := quiet_aft q4
            clear q4
            clear h1
            have A4 := A3.trans N4
            go_wp2_with fail
            have h1 := unify_any A n c xs B m d ys w4 (ha.aft A4) (hb.aft A4) (by omega)
            refine h1.mono ?_
            rintro e w5 ⟨N5, hr⟩
            clear h1
            have A5 := A4.trans N5
            rw [U1.out] at hr
            obtain rfl := hr
            go_wp2_with fail
            have h1 := unify_any B m d ys C l e zs w5 (hb.aft A5) (hc.aft A5) (by omega)
            refine h1.mono ?_
            rintro e w6 ⟨N6, hr⟩
            clear h1
            have A6 := A5.trans N6
            rw [V1.out] at hr
            obtain rfl := hr
            go_wp2
            go_ret
            refine ⟨?_, A6⟩
            rfl
          | some v =>
            rw [hv] at has
            simp only [Option.bind_some] at has
            have V1 := Lib.hid hv
            have T1 := Lib.hid has.symm
            have lv := unify_len hv
            rw [nb.out, nc.out] at lv
            clear hu hv has
            go_enter Try.func6, Try.ntmps6
            go_wp2_with fail
            have h1 := awake_any w
            refine h1.mono ?_
            rintro e w1 ⟨rfl, N1⟩
            clear h1
            have A1 := N1
            go_wp2_with fail
            have h1 := record_any A n c xs w1 (ha.aft A1)
            rw [ra] at h1
            refine h1.mono ?_
            rintro e w2 ⟨rfl, q2⟩
            have N2 := quiet_aft q2
            clear q2
            clear h1
            have A2 := A1.trans N2
            go_wp2_with fail
            have h1 := record_any B m d ys w2 (hb.aft A2)
            rw [rb] at h1
            refine h1.mono ?_
            rintro e w3 ⟨rfl, q3⟩
            have N3 := quiet_aft q3
            clear q3
            clear h1
            have A3 := A2.trans N3
            go_wp2_with fail
            have h1 := record_any C l e zs w3 (hc.aft A3)
            rw [rc] at h1
            refine h1.mono ?_
            rintro e w4 ⟨rfl, q4⟩
            have N4 := quiet_aft q4
            clear q4
            clear h1
            have A4 := A3.trans N4
            go_wp2_with fail
            have h1 := unify_any A n c xs B m d ys w4 (ha.aft A4) (hb.aft A4) (by omega)
            refine h1.mono ?_
            rintro e w5 ⟨N5, hr⟩
            clear h1
            have A5 := A4.trans N5
            rw [U1.out] at hr
            obtain rfl := hr
            go_wp2_with fail
            have h1 := unify_any B m d ys C l e zs w5 (hb.aft A5) (hc.aft A5) (by omega)
            refine h1.mono ?_
            rintro e w6 ⟨N6, hr⟩
            clear h1
            have A6 := A5.trans N6
            rw [V1.out] at hr
            obtain ⟨V, vn, vc, rfl, sv_6⟩ := hr
            have lvn := sv_6.len
            have hvn : vn ≤ m + l := by omega
            clear lvn lv
            go_wp2_with fail
            have h1 := unify_any A n c xs V vn vc v w6 (ha.aft A6) sv_6 (by omega)
            refine h1.mono ?_
            rintro e w7 ⟨N7, hr⟩
            clear h1
            have A7 := A6.trans N7
            have sv_7 := sv_6.aft N7
            clear sv_6
            rw [T1.out] at hr
            obtain rfl := hr
            go_wp2
            go_ret
            refine ⟨?_, A7⟩
            rfl
        | some u =>
          rw [hu] at has
          simp only [Option.bind_some] at has
          have U1 := Lib.hid hu
          have lu := unify_len hu
          rw [na.out, nb.out] at lu
          cases hv : unify ys zs with
          | none =>
            rw [hv] at has
            simp only [Option.bind_none] at has
            have V1 := Lib.hid hv
            have T1 := Lib.hid has
            clear hu hv has
            go_enter Try.func6, Try.ntmps6
            go_wp2_with fail
            have h1 := awake_any w
            refine h1.mono ?_
            rintro e w1 ⟨rfl, N1⟩
            clear h1
            have A1 := N1
            go_wp2_with fail
            have h1 := record_any A n c xs w1 (ha.aft A1)
            rw [ra] at h1
            refine h1.mono ?_
            rintro e w2 ⟨rfl, q2⟩
            have N2 := quiet_aft q2
            clear q2
            clear h1
            have A2 := A1.trans N2
            go_wp2_with fail
            have h1 := record_any B m d ys w2 (hb.aft A2)
            rw [rb] at h1
            refine h1.mono ?_
            rintro e w3 ⟨rfl, q3⟩
            have N3 := quiet_aft q3
            clear q3
            clear h1
            have A3 := A2.trans N3
            go_wp2_with fail
            have h1 := record_any C l e zs w3 (hc.aft A3)
            rw [rc] at h1
            refine h1.mono ?_
            rintro e w4 ⟨rfl, q4⟩
            have N4 := quiet_aft q4
            clear q4
            clear h1
            have A4 := A3.trans N4
            go_wp2_with fail
            have h1 := unify_any A n c xs B m d ys w4 (ha.aft A4) (hb.aft A4) (by omega)
            refine h1.mono ?_
            rintro e w5 ⟨N5, hr⟩
            clear h1
            have A5 := A4.trans N5
            rw [U1.out] at hr
            obtain ⟨U, un, uc, rfl, su_5⟩ := hr
            have lun := su_5.len
            have hun : un ≤ n + m := by omega
            clear lun lu
            go_wp2_with fail
            have h1 := unify_any B m d ys C l e zs w5 (hb.aft A5) (hc.aft A5) (by omega)
            refine h1.mono ?_
            rintro e w6 ⟨N6, hr⟩
            clear h1
            have A6 := A5.trans N6
            have su_6 := su_5.aft N6
            clear su_5
            rw [V1.out] at hr
            obtain rfl := hr
            go_wp2_with fail
            have h1 := unify_any U un uc u C l e zs w6 su_6 (hc.aft A6) (by omega)
            refine h1.mono ?_
            rintro e w7 ⟨N7, hr⟩
            clear h1
            have A7 := A6.trans N7
            have su_7 := su_6.aft N7
            clear su_6
            rw [T1.out] at hr
            obtain rfl := hr
            go_wp2
            go_ret
            refine ⟨?_, A7⟩
            rfl
          | some v =>
            rw [hv] at has
            simp only [Option.bind_some] at has
            have V1 := Lib.hid hv
            have lv := unify_len hv
            rw [nb.out, nc.out] at lv
            cases ht : unify u zs with
            | none =>
              rw [ht] at has
              have T1 := Lib.hid ht
              have T2 := Lib.hid has.symm
              clear hu hv has ht
              go_enter Try.func6, Try.ntmps6
              go_wp2_with fail
              have h1 := awake_any w
              refine h1.mono ?_
              rintro e w1 ⟨rfl, N1⟩
              clear h1
              have A1 := N1
              go_wp2_with fail
              have h1 := record_any A n c xs w1 (ha.aft A1)
              rw [ra] at h1
              refine h1.mono ?_
              rintro e w2 ⟨rfl, q2⟩
              have N2 := quiet_aft q2
              clear q2
              clear h1
              have A2 := A1.trans N2
              go_wp2_with fail
              have h1 := record_any B m d ys w2 (hb.aft A2)
              rw [rb] at h1
              refine h1.mono ?_
              rintro e w3 ⟨rfl, q3⟩
              have N3 := quiet_aft q3
              clear q3
              clear h1
              have A3 := A2.trans N3
              go_wp2_with fail
              have h1 := record_any C l e zs w3 (hc.aft A3)
              rw [rc] at h1
              refine h1.mono ?_
              rintro e w4 ⟨rfl, q4⟩
              have N4 := quiet_aft q4
              clear q4
              clear h1
              have A4 := A3.trans N4
              go_wp2_with fail
              have h1 := unify_any A n c xs B m d ys w4 (ha.aft A4) (hb.aft A4) (by omega)
              refine h1.mono ?_
              rintro e w5 ⟨N5, hr⟩
              clear h1
              have A5 := A4.trans N5
              rw [U1.out] at hr
              obtain ⟨U, un, uc, rfl, su_5⟩ := hr
              have lun := su_5.len
              have hun : un ≤ n + m := by omega
              clear lun lu
              go_wp2_with fail
              have h1 := unify_any B m d ys C l e zs w5 (hb.aft A5) (hc.aft A5) (by omega)
              refine h1.mono ?_
              rintro e w6 ⟨N6, hr⟩
              clear h1
              have A6 := A5.trans N6
              have su_6 := su_5.aft N6
              clear su_5
              rw [V1.out] at hr
              obtain ⟨V, vn, vc, rfl, sv_6⟩ := hr
              have lvn := sv_6.len
              have hvn : vn ≤ m + l := by omega
              clear lvn lv
              go_wp2_with fail
              have h1 := unify_any U un uc u C l e zs w6 su_6 (hc.aft A6) (by omega)
              refine h1.mono ?_
              rintro e w7 ⟨N7, hr⟩
              clear h1
              have A7 := A6.trans N7
              have su_7 := su_6.aft N7
              clear su_6
              have sv_7 := sv_6.aft N7
              clear sv_6
              rw [T1.out] at hr
              obtain rfl := hr
              go_wp2_with fail
              have h1 := unify_any A n c xs V vn vc v w7 (ha.aft A7) sv_7 (by omega)
              refine h1.mono ?_
              rintro e w8 ⟨N8, hr⟩
              clear h1
              have A8 := A7.trans N8
              have su_8 := su_7.aft N8
              clear su_7
              have sv_8 := sv_7.aft N8
              clear sv_7
              rw [T2.out] at hr
              obtain rfl := hr
              go_wp2
              go_ret
              refine ⟨?_, A8⟩
              rfl
            | some t =>
              rw [ht] at has
              have T1 := Lib.hid ht
              have T2 := Lib.hid has.symm
              obtain ⟨s1, s2, s3⟩ := unify3_subs aa ab ac hu ht
              have S1 := Lib.hid s1
              have S2 := Lib.hid s2
              have S3 := Lib.hid s3
              clear hu hv has ht s1 s2 s3
              go_enter Try.func6, Try.ntmps6
              go_wp2_with fail
              have h1 := awake_any w
              refine h1.mono ?_
              rintro e w1 ⟨rfl, N1⟩
              clear h1
              have A1 := N1
              go_wp2_with fail
              have h1 := record_any A n c xs w1 (ha.aft A1)
              rw [ra] at h1
              refine h1.mono ?_
              rintro e w2 ⟨rfl, q2⟩
              have N2 := quiet_aft q2
              clear q2
              clear h1
              have A2 := A1.trans N2
              go_wp2_with fail
              have h1 := record_any B m d ys w2 (hb.aft A2)
              rw [rb] at h1
              refine h1.mono ?_
              rintro e w3 ⟨rfl, q3⟩
              have N3 := quiet_aft q3
              clear q3
              clear h1
              have A3 := A2.trans N3
              go_wp2_with fail
              have h1 := record_any C l e zs w3 (hc.aft A3)
              rw [rc] at h1
              refine h1.mono ?_
              rintro e w4 ⟨rfl, q4⟩
              have N4 := quiet_aft q4
              clear q4
              clear h1
              have A4 := A3.trans N4
              go_wp2_with fail
              have h1 := unify_any A n c xs B m d ys w4 (ha.aft A4) (hb.aft A4) (by omega)
              refine h1.mono ?_
              rintro e w5 ⟨N5, hr⟩
              clear h1
              have A5 := A4.trans N5
              rw [U1.out] at hr
              obtain ⟨U, un, uc, rfl, su_5⟩ := hr
              have lun := su_5.len
              have hun : un ≤ n + m := by omega
              clear lun lu
              go_wp2_with fail
              have h1 := unify_any B m d ys C l e zs w5 (hb.aft A5) (hc.aft A5) (by omega)
              refine h1.mono ?_
              rintro e w6 ⟨N6, hr⟩
              clear h1
              have A6 := A5.trans N6
              have su_6 := su_5.aft N6
              clear su_5
              rw [V1.out] at hr
              obtain ⟨V, vn, vc, rfl, sv_6⟩ := hr
              have lvn := sv_6.len
              have hvn : vn ≤ m + l := by omega
              clear lvn lv
              go_wp2_with fail
              have h1 := unify_any U un uc u C l e zs w6 su_6 (hc.aft A6) (by omega)
              refine h1.mono ?_
              rintro e w7 ⟨N7, hr⟩
              clear h1
              have A7 := A6.trans N7
              have su_7 := su_6.aft N7
              clear su_6
              have sv_7 := sv_6.aft N7
              clear sv_6
              rw [T1.out] at hr
              obtain ⟨T, tn, tc, rfl, st_7⟩ := hr
              go_wp2_with fail
              have h1 := unify_any A n c xs V vn vc v w7 (ha.aft A7) sv_7 (by omega)
              refine h1.mono ?_
              rintro e w8 ⟨N8, hr⟩
              clear h1
              have A8 := A7.trans N8
              have su_8 := su_7.aft N8
              clear su_7
              have sv_8 := sv_7.aft N8
              clear sv_7
              have st_8 := st_7.aft N8
              clear st_7
              rw [T2.out] at hr
              obtain ⟨R, rn, rc', rfl, sr_8⟩ := hr
              go_wp2_with fail
              have h1 := same_any T tn tc t R rn rc' t w8 st_8 sr_8
              rw [decide_eq_true (rfl : t = t)] at h1
              refine h1.mono ?_
              rintro e w9 ⟨rfl, q9⟩
              have N9 := quiet_aft q9
              clear q9
              clear h1
              have A9 := A8.trans N9
              have su_9 := su_8.aft N9
              clear su_8
              have sv_9 := sv_8.aft N9
              clear sv_8
              have st_9 := st_8.aft N9
              clear st_8
              have sr_9 := sr_8.aft N9
              clear sr_8
              go_wp2_with fail
              have h1 := subs_any A n c xs T tn tc t w9 (ha.aft A9) st_9
              rw [S1.out] at h1
              refine h1.mono ?_
              rintro e w10 ⟨rfl, N10⟩
              clear h1
              have A10 := A9.trans N10
              have su_10 := su_9.aft N10
              clear su_9
              have sv_10 := sv_9.aft N10
              clear sv_9
              have st_10 := st_9.aft N10
              clear st_9
              have sr_10 := sr_9.aft N10
              clear sr_9
              go_wp2_with fail
              have h1 := subs_any B m d ys T tn tc t w10 (hb.aft A10) st_10
              rw [S2.out] at h1
              refine h1.mono ?_
              rintro e w11 ⟨rfl, N11⟩
              clear h1
              have A11 := A10.trans N11
              have su_11 := su_10.aft N11
              clear su_10
              have sv_11 := sv_10.aft N11
              clear sv_10
              have st_11 := st_10.aft N11
              clear st_10
              have sr_11 := sr_10.aft N11
              clear sr_10
              go_wp2_with fail
              have h1 := subs_any C l e zs T tn tc t w11 (hc.aft A11) st_11
              rw [S3.out] at h1
              refine h1.mono ?_
              rintro e w12 ⟨rfl, N12⟩
              clear h1
              have A12 := A11.trans N12
              have su_12 := su_11.aft N12
              clear su_11
              have sv_12 := sv_11.aft N12
              clear sv_11
              have st_12 := st_11.aft N12
              clear st_11
              have sr_12 := sr_11.aft N12
              clear sr_11
              go_wp2
              go_ret
              refine ⟨?_, A12⟩
              rfl
      · have rc' : ascB zs = false := by simpa using rc
        go_enter Try.func6, Try.ntmps6
        go_wp2_with fail
        have h1 := awake_any w
        refine h1.mono ?_
        rintro e w1 ⟨rfl, N1⟩
        clear h1
        have A1 := N1
        go_wp2_with fail
        have h1 := record_any A n c xs w1 (ha.aft A1)
        rw [ra] at h1
        refine h1.mono ?_
        rintro e w2 ⟨rfl, q2⟩
        have N2 := quiet_aft q2
        clear q2
        clear h1
        have A2 := A1.trans N2
        go_wp2_with fail
        have h1 := record_any B m d ys w2 (hb.aft A2)
        rw [rb] at h1
        refine h1.mono ?_
        rintro e w3 ⟨rfl, q3⟩
        have N3 := quiet_aft q3
        clear q3
        clear h1
        have A3 := A2.trans N3
        go_wp2_with fail
        have h1 := record_any C l e zs w3 (hc.aft A3)
        rw [rc'] at h1
        refine h1.mono ?_
        rintro e w4 ⟨rfl, q4⟩
        have N4 := quiet_aft q4
        clear q4
        clear h1
        have A4 := A3.trans N4
        go_wp2
        go_ret
        refine ⟨?_, A4⟩
        rfl
    · have rb' : ascB ys = false := by simpa using rb
      go_enter Try.func6, Try.ntmps6
      go_wp2_with fail
      have h1 := awake_any w
      refine h1.mono ?_
      rintro e w1 ⟨rfl, N1⟩
      clear h1
      have A1 := N1
      go_wp2_with fail
      have h1 := record_any A n c xs w1 (ha.aft A1)
      rw [ra] at h1
      refine h1.mono ?_
      rintro e w2 ⟨rfl, q2⟩
      have N2 := quiet_aft q2
      clear q2
      clear h1
      have A2 := A1.trans N2
      go_wp2_with fail
      have h1 := record_any B m d ys w2 (hb.aft A2)
      rw [rb'] at h1
      refine h1.mono ?_
      rintro e w3 ⟨rfl, q3⟩
      have N3 := quiet_aft q3
      clear q3
      clear h1
      have A3 := A2.trans N3
      go_wp2
      go_ret
      refine ⟨?_, A3⟩
      rfl
  · have ra' : ascB xs = false := by simpa using ra
    go_enter Try.func6, Try.ntmps6
    go_wp2_with fail
    have h1 := awake_any w
    refine h1.mono ?_
    rintro e w1 ⟨rfl, N1⟩
    clear h1
    have A1 := N1
    go_wp2_with fail
    have h1 := record_any A n c xs w1 (ha.aft A1)
    rw [ra'] at h1
    refine h1.mono ?_
    rintro e w2 ⟨rfl, q2⟩
    have N2 := quiet_aft q2
    clear q2
    clear h1
    have A2 := A1.trans N2
    go_wp2
    go_ret
    refine ⟨?_, A2⟩
    rfl

theorem own : ownKnob Try.prog.godebug = none := by kernel_rfl
theorem laidOut : laidOutB Try.prog = true := by kernel_rfl
theorem bytesF : Try.prog.bytesOf 29 = 32 := by kernel_rfl

set_option maxRecDepth 100000 in
theorem contract (H : Type) (enc : TypeId × Value → H) (W : World) (base : Nat) (args : Array Value) (ds gs : List (DataW H)) (before : List MemPlace)
    (hval : ∀ (j : Nat) t v, Try.f6.params[j]? = some t → args[j]? = some v → Value.okWide Try.prog W .any base t v)
    (hW : DataW.Whole enc Try.prog Try.f6.params.toList Rows.featureAssociatesSpec.vars false W args.toList ds gs before) (hk : Rows.uptoSmall H (ds ++ gs) = true) :
    Calls Try.prog 6 args W fun e W' => ∃ v, e = .returned v ∧ Rows.featureAssociatesSpec.post enc Try.prog Try.f6 false true false false W args v W' := by
  have hW' := hW
  obtain ⟨p, q, hA0, hV, rfl, hfz, hnd⟩ := hW
  have hA : DataW.TrodAll enc Try.prog W 0 (fun _ => true) true Try.f6.params.toList args.toList ds p := hA0
  rw [Try.params6] at hA hval
  obtain ⟨v0, vs0, d0, ds0, p0, q0, hargs, rfl, rfl, h0, r0⟩ := trodAll_cons hA
  obtain ⟨v1, vs1, d1, ds1, p1, q1, rfl, rfl, rfl, h1, r1⟩ := trodAll_cons r0
  obtain ⟨v2, vs2, d2, ds2, p2, q2, rfl, rfl, rfl, h2, r2⟩ := trodAll_cons r1
  obtain ⟨rfl, rfl, rfl⟩ := trodAll_nil r2
  obtain rfl : args = #[v0, v1, v2] := by cases args; simp_all
  obtain ⟨rfl, rfl⟩ := trodVars_none hV
  have hB := bulks.bound hk
  obtain ⟨a0, len0, cap0, rfl⟩ := okWide_slice Try.underlying22 (hval 0 22 v0 rfl rfl)
  have lt0 : ∀ x ∈ p0, x.block < W.heap.size := by obtain ⟨m, hm⟩ := h0; exact DataW.trod_lt m _ _ _ hm
  obtain ⟨xs0, s0, z0, b0⟩ := feats_of (R := 33554432) h0 (by unfold reachBytes; omega) (fun el sp e => by have h1 := bulks.part_le (d := d0) (l := [d0, d1, d2] ++ []) (by simp); rw [e] at h1; have h2 := bulks.slice_le el sp; rw [e] at hB; omega)
  obtain ⟨a1, len1, cap1, rfl⟩ := okWide_slice Try.underlying22 (hval 1 22 v1 rfl rfl)
  have lt1 : ∀ x ∈ p1, x.block < W.heap.size := by obtain ⟨m, hm⟩ := h1; exact DataW.trod_lt m _ _ _ hm
  obtain ⟨xs1, s1, z1, b1⟩ := feats_of (R := 33554432) h1 (by unfold reachBytes; omega) (fun el sp e => by have h1 := bulks.part_le (d := d1) (l := [d0, d1, d2] ++ []) (by simp); rw [e] at h1; have h2 := bulks.slice_le el sp; rw [e] at hB; omega)
  obtain ⟨a2, len2, cap2, rfl⟩ := okWide_slice Try.underlying22 (hval 2 22 v2 rfl rfl)
  have lt2 : ∀ x ∈ p2, x.block < W.heap.size := by obtain ⟨m, hm⟩ := h2; exact DataW.trod_lt m _ _ _ hm
  obtain ⟨xs2, s2, z2, b2⟩ := feats_of (R := 33554432) h2 (by unfold reachBytes; omega) (fun el sp e => by have h1 := bulks.part_le (d := d2) (l := [d0, d1, d2] ++ []) (by simp); rw [e] at h1; have h2 := bulks.slice_le el sp; rw [e] at hB; omega)
  clear hA0
  refine (walk a0 len0 cap0 xs0 a1 len1 cap1 xs1 a2 len2 cap2 xs2 W s0 z0 b0 s1 z1 b1 s2 z2 b2).mono fun e W' ⟨he, bel⟩ => ?_
  subst he
  exact ⟨_, rfl, _, _, _, [], _, [], hW', trodAll_mk1 (shut_bool Try.underlying4 _), (trodAll_cons_mk (Below.trod laidOut (by kernel_rfl) (of_decide_eq_true (by kernel_rfl)) h0 bel lt0) (trodAll_cons_mk (Below.trod laidOut (by kernel_rfl) (of_decide_eq_true (by kernel_rfl)) h1 bel lt1) (trodAll_cons_mk (Below.trod laidOut (by kernel_rfl) (of_decide_eq_true (by kernel_rfl)) h2 bel lt2) trodAll_mk0))), rfl, Below.frame bel _, fun h => by cases h⟩

set_option maxRecDepth 100000 in
theorem lifted (os : Os) (started : os.Started) (H : Type) (enc : TypeId × Value → H) (F : Stop.Interp) :
    ReturnsInHanded {} Try.checked os 6 .any ((Rows.OpenSpec.upto Rows.featureAssociatesSpec).pre6 enc Try.prog Try.f6 Rows.featureAssociatesUptoRow.domain false) (((Rows.OpenSpec.upto Rows.featureAssociatesSpec).at F).post enc Try.prog Try.f6 false true false false) := by
  refine returnsInHanded_of_cond (C := Try.checked) (s := Rows.OpenSpec.upto Rows.featureAssociatesSpec) (k := Rows.uptoSmall) rfl own started (by kernel_rfl) Try.func6
    (OpenSpec.witness (enc := enc) (C := Try.checked) (s := Rows.OpenSpec.upto Rows.featureAssociatesSpec) (k := Rows.uptoSmall) rfl false ⟨#[], #[.slice none 0 0, .slice none 0 0, .slice none 0 0], []⟩ 8 (by kernel_rfl) (by kernel_rfl) (by kernel_rfl)
      (x := ([.nil, .nil, .nil], [], [])) (by kernel_rfl) rfl (by kernel_rfl)) ?_
  intro W base args ds gs before hval hW _ hk _
  exact contract H enc W base args ds gs before hval hW hk

theorem proved : Rows.FeatureAssociatesUptoSaid :=
  OpenClaim.holds_of_cond 6 Try.f6 rfl rfl rfl rfl rfl rfl rfl ⟨rfl, rfl, rfl, rfl, rfl⟩ rfl rfl rfl rfl rfl (by kernel_rfl) Try.func6 (by kernel_rfl)
    (of_decide_eq_true (by kernel_rfl)) (by unfold Func.isWrapper; rw [if_neg (of_decide_eq_false (by kernel_rfl))]; exact ⟨rfl, rfl⟩)
    (fun os started H enc _ F => lifted os started H enc F)
#print axioms proved
end Go.Proofs.Ythmehnigpnhnbab.lawAssociates
