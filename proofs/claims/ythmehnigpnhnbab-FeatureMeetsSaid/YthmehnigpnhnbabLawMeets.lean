/-
  For every two records, Meet returns the specified record; it subsumes both, and every record that subsumes both subsumes it: the law FeatureMeets returns true. Conditions: none (every three lists of features, of any size that an argument can have).
-/
import Derived.Test.YthmehnigpnhnbabFeatAwake
import Derived.Test.YthmehnigpnhnbabFeatFrame
import Derived.Test.YthmehnigpnhnbabFeatRefMeet
import Derived.Test.YthmehnigpnhnbabRows
namespace Go.Proofs.Ythmehnigpnhnbab.lawMeets
open Go.ChangeShapes Go.WideShapes Go.ChangeAt Go.RowKit
open FeatPlain

theorem meet_filter {a b : List Ft} (ha : Asc a) (hb : Asc b) : a.filter (hasB b) = meet a b :=
  asc_ext (ha.sublist List.filter_sublist) (meet_asc ha) fun f => by rw [List.mem_filter, meet_mem ha hb, hasB_iff hb]

set_option maxRecDepth 100000 in
set_option maxHeartbeats 3200000 in
theorem walk (A : Option Addr) (n c : Nat) (xs : List Ft) (B : Option Addr) (m d : Nat) (ys : List Ft) (C : Option Addr) (l e : Nat) (zs : List Ft) (w : World)
    (ha : Sl w A n c xs) (_ : Sized xs) (ba : c * 32 ≤ reachBytes) (hb : Sl w B m d ys) (_ : Sized ys) (bb : d * 32 ≤ reachBytes) (hc : Sl w C l e zs) (_ : Sized zs) (_ : e * 32 ≤ reachBytes) :
    Calls Try.prog 7 #[.slice A n c, .slice B m d, .slice C l e] w (BoolPost w true) := by
  have la := ha.le
  have lb := hb.le
  unfold reachBytes at ba bb
  by_cases ra : ascB xs = true
  · by_cases rb : ascB ys = true
    · by_cases rc : ascB zs = true
      · have aa := (ascB_iff xs).1 ra
        have ab := (ascB_iff ys).1 rb
        have ac := (ascB_iff zs).1 rc
        have R1 := Lib.hid (meet_filter aa ab)
        have R2 := Lib.hid (meet_comm ab aa)
        have R3 := Lib.hid (meet_subs aa ab).1
        have R4 := Lib.hid (meet_subs aa ab).2
        have hg := meet_greatest aa ab ac
        generalize hM : meet xs ys = M at R1 R2 R3 R4 hg
        have R0 := Lib.hid hM
        clear hM
        cases p : subs zs xs
        · have q : subs zs M = false := by
            cases k : subs zs M
            · rfl
            · have := (hg.2 k).1; rw [p] at this; cases this
          have P := Lib.hid p
          have Q := Lib.hid q
          clear p q hg
          go_enter Try.func7, Try.ntmps7
          go_wp2_with fail
          have h1 := awake_any w
          refine h1.mono ?_
          rintro e w1 ⟨rfl, N1⟩
          clear h1
          have A1 := N1
          go_wp2_with fail
          have h1 := record_any A n c xs w1 (ha.aft A1)
          rw [ra] at h1
          refine h1.mono ?_
          rintro e w2 ⟨rfl, q2⟩
          have N2 := quiet_aft q2
          clear q2
          clear h1
          have A2 := A1.trans N2
          go_wp2_with fail
          have h1 := record_any B m d ys w2 (hb.aft A2)
          rw [rb] at h1
          refine h1.mono ?_
          rintro e w3 ⟨rfl, q3⟩
          have N3 := quiet_aft q3
          clear q3
          clear h1
          have A3 := A2.trans N3
          go_wp2_with fail
          have h1 := record_any C l e zs w3 (hc.aft A3)
          rw [rc] at h1
          refine h1.mono ?_
          rintro e w4 ⟨rfl, q4⟩
          have N4 := quiet_aft q4
          clear q4
          clear h1
          have A4 := A3.trans N4
          go_wp2_with fail
          have h1 := meet_any A n c xs B m d ys w4 (ha.aft A4) (hb.aft A4) (by omega)
          rw [R0.out] at h1
          refine h1.mono ?_
          rintro e w5 ⟨⟨U, un, uc, rfl, sm_5⟩, N5⟩
          clear h1
          have A5 := A4.trans N5
          go_wp2_with fail
          have h1 := refMeet_any A n c xs B m d ys w5 (ha.aft A5) (hb.aft A5) (by omega)
          rw [R1.out] at h1
          refine h1.mono ?_
          rintro e w6 ⟨⟨V, vn, vc, rfl, sr_6⟩, N6⟩
          clear h1
          have A6 := A5.trans N6
          have sm_6 := sm_5.aft N6
          clear sm_5
          go_wp2_with fail
          have h1 := same_any U un uc M V vn vc M w6 sm_6 sr_6
          rw [decide_eq_true (rfl : M = M)] at h1
          refine h1.mono ?_
          rintro e w7 ⟨rfl, q7⟩
          have N7 := quiet_aft q7
          clear q7
          clear h1
          have A7 := A6.trans N7
          have sm_7 := sm_6.aft N7
          clear sm_6
          have sr_7 := sr_6.aft N7
          clear sr_6
          go_wp2_with fail
          have h1 := meet_any B m d ys A n c xs w7 (hb.aft A7) (ha.aft A7) (by omega)
          rw [R2.out] at h1
          refine h1.mono ?_
          rintro e w8 ⟨⟨T, tn, tc, rfl, st_8⟩, N8⟩
          clear h1
          have A8 := A7.trans N8
          have sm_8 := sm_7.aft N8
          clear sm_7
          have sr_8 := sr_7.aft N8
          clear sr_7
          go_wp2_with fail
          have h1 := same_any T tn tc M U un uc M w8 st_8 sm_8
          rw [decide_eq_true (rfl : M = M)] at h1
          refine h1.mono ?_
          rintro e w9 ⟨rfl, q9⟩
          have N9 := quiet_aft q9
          clear q9
          clear h1
          have A9 := A8.trans N9
          have sm_9 := sm_8.aft N9
          clear sm_8
          have sr_9 := sr_8.aft N9
          clear sr_8
          have st_9 := st_8.aft N9
          clear st_8
          go_wp2_with fail
          have h1 := subs_any U un uc M A n c xs w9 sm_9 (ha.aft A9)
          rw [R3.out] at h1
          refine h1.mono ?_
          rintro e w10 ⟨rfl, N10⟩
          clear h1
          have A10 := A9.trans N10
          have sm_10 := sm_9.aft N10
          clear sm_9
          have sr_10 := sr_9.aft N10
          clear sr_9
          have st_10 := st_9.aft N10
          clear st_9
          go_wp2_with fail
          have h1 := subs_any U un uc M B m d ys w10 sm_10 (hb.aft A10)
          rw [R4.out] at h1
          refine h1.mono ?_
          rintro e w11 ⟨rfl, N11⟩
          clear h1
          have A11 := A10.trans N11
          have sm_11 := sm_10.aft N11
          clear sm_10
          have sr_11 := sr_10.aft N11
          clear sr_10
          have st_11 := st_10.aft N11
          clear st_10
          go_wp2_with fail
          have h1 := subs_any C l e zs A n c xs w11 (hc.aft A11) (ha.aft A11)
          rw [P.out] at h1
          refine h1.mono ?_
          rintro e w12 ⟨rfl, N12⟩
          clear h1
          have A12 := A11.trans N12
          have sm_12 := sm_11.aft N12
          clear sm_11
          have sr_12 := sr_11.aft N12
          clear sr_11
          have st_12 := st_11.aft N12
          clear st_11
          go_wp2_with fail
          have h1 := subs_any C l e zs U un uc M w12 (hc.aft A12) sm_12
          rw [Q.out] at h1
          refine h1.mono ?_
          rintro e w13 ⟨rfl, N13⟩
          clear h1
          have A13 := A12.trans N13
          have sm_13 := sm_12.aft N13
          clear sm_12
          have sr_13 := sr_12.aft N13
          clear sr_12
          have st_13 := st_12.aft N13
          clear st_12
          go_wp2
          go_ret
          refine ⟨?_, A13⟩
          rfl
        · cases p2 : subs zs ys
          · have q : subs zs M = false := by
              cases k : subs zs M
              · rfl
              · have := (hg.2 k).2; rw [p2] at this; cases this
            have P := Lib.hid p
            have P2 := Lib.hid p2
            have Q := Lib.hid q
            clear p p2 q hg
            go_enter Try.func7, Try.ntmps7
            go_wp2_with fail
            have h1 := awake_any w
            refine h1.mono ?_
            rintro e w1 ⟨rfl, N1⟩
            clear h1
            have A1 := N1
            go_wp2_with fail
            have h1 := record_any A n c xs w1 (ha.aft A1)
            rw [ra] at h1
            refine h1.mono ?_
            rintro e w2 ⟨rfl, q2⟩
            have N2 := quiet_aft q2
            clear q2
            clear h1
            have A2 := A1.trans N2
            go_wp2_with fail
            have h1 := record_any B m d ys w2 (hb.aft A2)
            rw [rb] at h1
            refine h1.mono ?_
            rintro e w3 ⟨rfl, q3⟩
            have N3 := quiet_aft q3
            clear q3
            clear h1
            have A3 := A2.trans N3
            go_wp2_with fail
            have h1 := record_any C l e zs w3 (hc.aft A3)
            rw [rc] at h1
            refine h1.mono ?_
            rintro e w4 ⟨rfl, q4⟩
            have N4 := quiet_aft q4
            clear q4
            clear h1
            have A4 := A3.trans N4
            go_wp2_with fail
            have h1 := meet_any A n c xs B m d ys w4 (ha.aft A4) (hb.aft A4) (by omega)
            rw [R0.out] at h1
            refine h1.mono ?_
            rintro e w5 ⟨⟨U, un, uc, rfl, sm_5⟩, N5⟩
            clear h1
            have A5 := A4.trans N5
            go_wp2_with fail
            have h1 := refMeet_any A n c xs B m d ys w5 (ha.aft A5) (hb.aft A5) (by omega)
            rw [R1.out] at h1
            refine h1.mono ?_
            rintro e w6 ⟨⟨V, vn, vc, rfl, sr_6⟩, N6⟩
            clear h1
            have A6 := A5.trans N6
            have sm_6 := sm_5.aft N6
            clear sm_5
            go_wp2_with fail
            have h1 := same_any U un uc M V vn vc M w6 sm_6 sr_6
            rw [decide_eq_true (rfl : M = M)] at h1
            refine h1.mono ?_
            rintro e w7 ⟨rfl, q7⟩
            have N7 := quiet_aft q7
            clear q7
            clear h1
            have A7 := A6.trans N7
            have sm_7 := sm_6.aft N7
            clear sm_6
            have sr_7 := sr_6.aft N7
            clear sr_6
            go_wp2_with fail
            have h1 := meet_any B m d ys A n c xs w7 (hb.aft A7) (ha.aft A7) (by omega)
            rw [R2.out] at h1
            refine h1.mono ?_
            rintro e w8 ⟨⟨T, tn, tc, rfl, st_8⟩, N8⟩
            clear h1
            have A8 := A7.trans N8
            have sm_8 := sm_7.aft N8
            clear sm_7
            have sr_8 := sr_7.aft N8
            clear sr_7
            go_wp2_with fail
            have h1 := same_any T tn tc M U un uc M w8 st_8 sm_8
            rw [decide_eq_true (rfl : M = M)] at h1
            refine h1.mono ?_
            rintro e w9 ⟨rfl, q9⟩
            have N9 := quiet_aft q9
            clear q9
            clear h1
            have A9 := A8.trans N9
            have sm_9 := sm_8.aft N9
            clear sm_8
            have sr_9 := sr_8.aft N9
            clear sr_8
            have st_9 := st_8.aft N9
            clear st_8
            go_wp2_with fail
            have h1 := subs_any U un uc M A n c xs w9 sm_9 (ha.aft A9)
            rw [R3.out] at h1
            refine h1.mono ?_
            rintro e w10 ⟨rfl, N10⟩
            clear h1
            have A10 := A9.trans N10
            have sm_10 := sm_9.aft N10
            clear sm_9
            have sr_10 := sr_9.aft N10
            clear sr_9
            have st_10 := st_9.aft N10
            clear st_9
            go_wp2_with fail
            have h1 := subs_any U un uc M B m d ys w10 sm_10 (hb.aft A10)
            rw [R4.out] at h1
            refine h1.mono ?_
            rintro e w11 ⟨rfl, N11⟩
            clear h1
            have A11 := A10.trans N11
            have sm_11 := sm_10.aft N11
            clear sm_10
            have sr_11 := sr_10.aft N11
            clear sr_10
            have st_11 := st_10.aft N11
            clear st_10
            go_wp2_with fail
            have h1 := subs_any C l e zs A n c xs w11 (hc.aft A11) (ha.aft A11)
            rw [P.out] at h1
            refine h1.mono ?_
            rintro e w12 ⟨rfl, N12⟩
            clear h1
            have A12 := A11.trans N12
            have sm_12 := sm_11.aft N12
            clear sm_11
            have sr_12 := sr_11.aft N12
            clear sr_11
            have st_12 := st_11.aft N12
            clear st_11
            go_wp2_with fail
            have h1 := subs_any C l e zs B m d ys w12 (hc.aft A12) (hb.aft A12)
            rw [P2.out] at h1
            refine h1.mono ?_
            rintro e w13 ⟨rfl, N13⟩
            clear h1
            have A13 := A12.trans N13
            have sm_13 := sm_12.aft N13
            clear sm_12
            have sr_13 := sr_12.aft N13
            clear sr_12
            have st_13 := st_12.aft N13
            clear st_12
            go_wp2_with fail
            have h1 := subs_any C l e zs U un uc M w13 (hc.aft A13) sm_13
            rw [Q.out] at h1
            refine h1.mono ?_
            rintro e w14 ⟨rfl, N14⟩
            clear h1
            have A14 := A13.trans N14
            have sm_14 := sm_13.aft N14
            clear sm_13
            have sr_14 := sr_13.aft N14
            clear sr_13
            have st_14 := st_13.aft N14
            clear st_13
            go_wp2
            go_ret
            refine ⟨?_, A14⟩
            rfl
          · have q : subs zs M = true := hg.1 ⟨p, p2⟩
            have P := Lib.hid p
            have P2 := Lib.hid p2
            have Q := Lib.hid q
            clear p p2 q hg
            go_enter Try.func7, Try.ntmps7
            go_wp2_with fail
            have h1 := awake_any w
            refine h1.mono ?_
            rintro e w1 ⟨rfl, N1⟩
            clear h1
            have A1 := N1
            go_wp2_with fail
            have h1 := record_any A n c xs w1 (ha.aft A1)
            rw [ra] at h1
            refine h1.mono ?_
            rintro e w2 ⟨rfl, q2⟩
            have N2 := quiet_aft q2
            clear q2
            clear h1
            have A2 := A1.trans N2
            go_wp2_with fail
            have h1 := record_any B m d ys w2 (hb.aft A2)
            rw [rb] at h1
            refine h1.mono ?_
            rintro e w3 ⟨rfl, q3⟩
            have N3 := quiet_aft q3
            clear q3
            clear h1
            have A3 := A2.trans N3
            go_wp2_with fail
            have h1 := record_any C l e zs w3 (hc.aft A3)
            rw [rc] at h1
            refine h1.mono ?_
            rintro e w4 ⟨rfl, q4⟩
            have N4 := quiet_aft q4
            clear q4
            clear h1
            have A4 := A3.trans N4
            go_wp2_with fail
            have h1 := meet_any A n c xs B m d ys w4 (ha.aft A4) (hb.aft A4) (by omega)
            rw [R0.out] at h1
            refine h1.mono ?_
            rintro e w5 ⟨⟨U, un, uc, rfl, sm_5⟩, N5⟩
            clear h1
            have A5 := A4.trans N5
            go_wp2_with fail
            have h1 := refMeet_any A n c xs B m d ys w5 (ha.aft A5) (hb.aft A5) (by omega)
            rw [R1.out] at h1
            refine h1.mono ?_
            rintro e w6 ⟨⟨V, vn, vc, rfl, sr_6⟩, N6⟩
            clear h1
            have A6 := A5.trans N6
            have sm_6 := sm_5.aft N6
            clear sm_5
            go_wp2_with fail
            have h1 := same_any U un uc M V vn vc M w6 sm_6 sr_6
            rw [decide_eq_true (rfl : M = M)] at h1
            refine h1.mono ?_
            rintro e w7 ⟨rfl, q7⟩
            have N7 := quiet_aft q7
            clear q7
            clear h1
            have A7 := A6.trans N7
            have sm_7 := sm_6.aft N7
            clear sm_6
            have sr_7 := sr_6.aft N7
            clear sr_6
            go_wp2_with fail
            have h1 := meet_any B m d ys A n c xs w7 (hb.aft A7) (ha.aft A7) (by omega)
            rw [R2.out] at h1
            refine h1.mono ?_
            rintro e w8 ⟨⟨T, tn, tc, rfl, st_8⟩, N8⟩
            clear h1
            have A8 := A7.trans N8
            have sm_8 := sm_7.aft N8
            clear sm_7
            have sr_8 := sr_7.aft N8
            clear sr_7
            go_wp2_with fail
            have h1 := same_any T tn tc M U un uc M w8 st_8 sm_8
            rw [decide_eq_true (rfl : M = M)] at h1
            refine h1.mono ?_
            rintro e w9 ⟨rfl, q9⟩
            have N9 := quiet_aft q9
            clear q9
            clear h1
            have A9 := A8.trans N9
            have sm_9 := sm_8.aft N9
            clear sm_8
            have sr_9 := sr_8.aft N9
            clear sr_8
            have st_9 := st_8.aft N9
            clear st_8
            go_wp2_with fail
            have h1 := subs_any U un uc M A n c xs w9 sm_9 (ha.aft A9)
            rw [R3.out] at h1
            refine h1.mono ?_
            rintro e w10 ⟨rfl, N10⟩
            clear h1
            have A10 := A9.trans N10
            have sm_10 := sm_9.aft N10
            clear sm_9
            have sr_10 := sr_9.aft N10
            clear sr_9
            have st_10 := st_9.aft N10
            clear st_9
            go_wp2_with fail
            have h1 := subs_any U un uc M B m d ys w10 sm_10 (hb.aft A10)
            rw [R4.out] at h1
            refine h1.mono ?_
            rintro e w11 ⟨rfl, N11⟩
            clear h1
            have A11 := A10.trans N11
            have sm_11 := sm_10.aft N11
            clear sm_10
            have sr_11 := sr_10.aft N11
            clear sr_10
            have st_11 := st_10.aft N11
            clear st_10
            go_wp2_with fail
            have h1 := subs_any C l e zs A n c xs w11 (hc.aft A11) (ha.aft A11)
            rw [P.out] at h1
            refine h1.mono ?_
            rintro e w12 ⟨rfl, N12⟩
            clear h1
            have A12 := A11.trans N12
            have sm_12 := sm_11.aft N12
            clear sm_11
            have sr_12 := sr_11.aft N12
            clear sr_11
            have st_12 := st_11.aft N12
            clear st_11
            go_wp2_with fail
            have h1 := subs_any C l e zs B m d ys w12 (hc.aft A12) (hb.aft A12)
            rw [P2.out] at h1
            refine h1.mono ?_
            rintro e w13 ⟨rfl, N13⟩
            clear h1
            have A13 := A12.trans N13
            have sm_13 := sm_12.aft N13
            clear sm_12
            have sr_13 := sr_12.aft N13
            clear sr_12
            have st_13 := st_12.aft N13
            clear st_12
            go_wp2_with fail
            have h1 := subs_any C l e zs U un uc M w13 (hc.aft A13) sm_13
            rw [Q.out] at h1
            refine h1.mono ?_
            rintro e w14 ⟨rfl, N14⟩
            clear h1
            have A14 := A13.trans N14
            have sm_14 := sm_13.aft N14
            clear sm_13
            have sr_14 := sr_13.aft N14
            clear sr_13
            have st_14 := st_13.aft N14
            clear st_13
            go_wp2
            go_ret
            refine ⟨?_, A14⟩
            rfl
      · have rc' : ascB zs = false := by simpa using rc
        go_enter Try.func7, Try.ntmps7
        go_wp2_with fail
        have h1 := awake_any w
        refine h1.mono ?_
        rintro e w1 ⟨rfl, N1⟩
        clear h1
        have A1 := N1
        go_wp2_with fail
        have h1 := record_any A n c xs w1 (ha.aft A1)
        rw [ra] at h1
        refine h1.mono ?_
        rintro e w2 ⟨rfl, q2⟩
        have N2 := quiet_aft q2
        clear q2
        clear h1
        have A2 := A1.trans N2
        go_wp2_with fail
        have h1 := record_any B m d ys w2 (hb.aft A2)
        rw [rb] at h1
        refine h1.mono ?_
        rintro e w3 ⟨rfl, q3⟩
        have N3 := quiet_aft q3
        clear q3
        clear h1
        have A3 := A2.trans N3
        go_wp2_with fail
        have h1 := record_any C l e zs w3 (hc.aft A3)
        rw [rc'] at h1
        refine h1.mono ?_
        rintro e w4 ⟨rfl, q4⟩
        have N4 := quiet_aft q4
        clear q4
        clear h1
        have A4 := A3.trans N4
        go_wp2
        go_ret
        refine ⟨?_, A4⟩
        rfl
    · have rb' : ascB ys = false := by simpa using rb
      go_enter Try.func7, Try.ntmps7
      go_wp2_with fail
      have h1 := awake_any w
      refine h1.mono ?_
      rintro e w1 ⟨rfl, N1⟩
      clear h1
      have A1 := N1
      go_wp2_with fail
      have h1 := record_any A n c xs w1 (ha.aft A1)
      rw [ra] at h1
      refine h1.mono ?_
      rintro e w2 ⟨rfl, q2⟩
      have N2 := quiet_aft q2
      clear q2
      clear h1
      have A2 := A1.trans N2
      go_wp2_with fail
      have h1 := record_any B m d ys w2 (hb.aft A2)
      rw [rb'] at h1
      refine h1.mono ?_
      rintro e w3 ⟨rfl, q3⟩
      have N3 := quiet_aft q3
      clear q3
      clear h1
      have A3 := A2.trans N3
      go_wp2
      go_ret
      refine ⟨?_, A3⟩
      rfl
  · have ra' : ascB xs = false := by simpa using ra
    go_enter Try.func7, Try.ntmps7
    go_wp2_with fail
    have h1 := awake_any w
    refine h1.mono ?_
    rintro e w1 ⟨rfl, N1⟩
    clear h1
    have A1 := N1
    go_wp2_with fail
    have h1 := record_any A n c xs w1 (ha.aft A1)
    rw [ra'] at h1
    refine h1.mono ?_
    rintro e w2 ⟨rfl, q2⟩
    have N2 := quiet_aft q2
    clear q2
    clear h1
    have A2 := A1.trans N2
    go_wp2
    go_ret
    refine ⟨?_, A2⟩
    rfl

theorem own : ownKnob Try.prog.godebug = none := by kernel_rfl
theorem laidOut : laidOutB Try.prog = true := by kernel_rfl
theorem bytesF : Try.prog.bytesOf 29 = 32 := by kernel_rfl

set_option maxRecDepth 100000 in
theorem contract (H : Type) (enc : TypeId × Value → H) (W : World) (base : Nat) (args : Array Value) (ds gs : List (DataW H)) (before : List MemPlace)
    (hval : ∀ (j : Nat) t v, Try.f7.params[j]? = some t → args[j]? = some v → Value.okWide Try.prog W .any base t v)
    (hW : DataW.Whole enc Try.prog Try.f7.params.toList Rows.featureMeetsSpec.vars false W args.toList ds gs before) (hsz0 : (DataW.weightsEach Try.prog (Try.f7.params.toList ++ Rows.featureMeetsSpec.plain.varTypes Try.prog) (ds ++ gs)).all (· ≤ reachBytes) = true) :
    Calls Try.prog 7 args W fun e W' => ∃ v, e = .returned v ∧ Rows.featureMeetsSpec.post enc Try.prog Try.f7 false true false false W args v W' := by
  have hW' := hW
  obtain ⟨p, q, hA0, hV, rfl, hfz, hnd⟩ := hW
  have hA : DataW.TrodAll enc Try.prog W 0 (fun _ => true) true Try.f7.params.toList args.toList ds p := hA0
  have hsz := hsz0
  rw [Try.params7] at hA hval hsz
  obtain ⟨v0, vs0, d0, ds0, p0, q0, hargs, rfl, rfl, h0, r0⟩ := trodAll_cons hA
  obtain ⟨v1, vs1, d1, ds1, p1, q1, rfl, rfl, rfl, h1, r1⟩ := trodAll_cons r0
  obtain ⟨v2, vs2, d2, ds2, p2, q2, rfl, rfl, rfl, h2, r2⟩ := trodAll_cons r1
  obtain ⟨rfl, rfl, rfl⟩ := trodAll_nil r2
  obtain rfl : args = #[v0, v1, v2] := by cases args; simp_all
  obtain ⟨rfl, rfl⟩ := trodVars_none hV
  obtain ⟨a0, len0, cap0, rfl⟩ := okWide_slice Try.underlying22 (hval 0 22 v0 rfl rfl)
  have lt0 : ∀ x ∈ p0, x.block < W.heap.size := by obtain ⟨m, hm⟩ := h0; exact DataW.trod_lt m _ _ _ hm
  obtain ⟨xs0, s0, z0, b0⟩ := feats_of h0 (Nat.le_refl _) (fun el sp e => by have := sized_slice hsz (j := 0) (t := 22) (e := 29) rfl (by rw [e]; rfl) Try.underlying22; rwa [bytesF] at this)
  obtain ⟨a1, len1, cap1, rfl⟩ := okWide_slice Try.underlying22 (hval 1 22 v1 rfl rfl)
  have lt1 : ∀ x ∈ p1, x.block < W.heap.size := by obtain ⟨m, hm⟩ := h1; exact DataW.trod_lt m _ _ _ hm
  obtain ⟨xs1, s1, z1, b1⟩ := feats_of h1 (Nat.le_refl _) (fun el sp e => by have := sized_slice hsz (j := 1) (t := 22) (e := 29) rfl (by rw [e]; rfl) Try.underlying22; rwa [bytesF] at this)
  obtain ⟨a2, len2, cap2, rfl⟩ := okWide_slice Try.underlying22 (hval 2 22 v2 rfl rfl)
  have lt2 : ∀ x ∈ p2, x.block < W.heap.size := by obtain ⟨m, hm⟩ := h2; exact DataW.trod_lt m _ _ _ hm
  obtain ⟨xs2, s2, z2, b2⟩ := feats_of h2 (Nat.le_refl _) (fun el sp e => by have := sized_slice hsz (j := 2) (t := 22) (e := 29) rfl (by rw [e]; rfl) Try.underlying22; rwa [bytesF] at this)
  clear hA0
  refine (walk a0 len0 cap0 xs0 a1 len1 cap1 xs1 a2 len2 cap2 xs2 W s0 z0 b0 s1 z1 b1 s2 z2 b2).mono fun e W' ⟨he, bel⟩ => ?_
  subst he
  exact ⟨_, rfl, _, _, _, [], _, [], hW', trodAll_mk1 (shut_bool Try.underlying4 _), (trodAll_cons_mk (Below.trod laidOut (by kernel_rfl) (of_decide_eq_true (by kernel_rfl)) h0 bel lt0) (trodAll_cons_mk (Below.trod laidOut (by kernel_rfl) (of_decide_eq_true (by kernel_rfl)) h1 bel lt1) (trodAll_cons_mk (Below.trod laidOut (by kernel_rfl) (of_decide_eq_true (by kernel_rfl)) h2 bel lt2) trodAll_mk0))), rfl, Below.frame bel _, fun h => by cases h⟩

set_option maxRecDepth 100000 in
theorem lifted (os : Os) (started : os.Started) (H : Type) (enc : TypeId × Value → H) :
    ReturnsInHanded {} Try.checked os 7 .any (Rows.featureMeetsSpec.pre6 enc Try.prog Try.f7 Rows.featureMeetsRow.domain false) (Rows.featureMeetsSpec.post enc Try.prog Try.f7 false true false false) := by
  refine returnsInHanded_of_change_sized (C := Try.checked) own started (by kernel_rfl) Try.func7
    (ChangeSpec.witness6 (enc := enc) (C := Try.checked) false ⟨#[], #[.slice none 0 0, .slice none 0 0, .slice none 0 0], []⟩ 8 (by kernel_rfl) (by kernel_rfl) (by kernel_rfl) (by kernel_rfl)) ?_
  intro W base args ds gs before hval hW _ hsz _
  exact contract H enc W base args ds gs before hval hW hsz

theorem proved : Rows.FeatureMeetsSaid :=
  OpenClaim.holds_of_wide 7 Try.f7 rfl rfl rfl rfl rfl rfl rfl ⟨rfl, rfl, rfl, rfl, rfl⟩ rfl rfl rfl rfl rfl (by kernel_rfl) Try.func7 (by kernel_rfl)
    (of_decide_eq_true (by kernel_rfl)) (by unfold Func.isWrapper; rw [if_neg (of_decide_eq_false (by kernel_rfl))]; exact ⟨rfl, rfl⟩)
    (fun os started H enc _ => lifted os started H enc)
#print axioms proved
end Go.Proofs.Ythmehnigpnhnbab.lawMeets
