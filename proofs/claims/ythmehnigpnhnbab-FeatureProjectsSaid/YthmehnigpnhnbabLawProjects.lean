/-
  For every record and list of names, Project returns the features with these names, Without the others, and Unify of the two returns the record: the law FeatureProjects returns true. Conditions: none (every list of features and every list of strings, of any size that an argument can have).
-/
import Derived.Test.YthmehnigpnhnbabFeatAwake
import Derived.Test.YthmehnigpnhnbabFeatFrame
import Derived.Test.YthmehnigpnhnbabFeatFilter
import Derived.Test.YthmehnigpnhnbabFeatStrs
import Derived.Test.YthmehnigpnhnbabRows
namespace Go.Proofs.Ythmehnigpnhnbab.lawProjects
open Go.ChangeShapes Go.WideShapes Go.ChangeAt Go.RowKit
open FeatPlain

theorem parts {xs : List Ft} (p : Ft → Bool) (h : Asc xs) : unify (xs.filter p) (xs.filter fun f => !(p f)) = some xs :=
  unify_eq_some (h.sublist List.filter_sublist) (h.sublist List.filter_sublist) h fun f => by
    rw [List.mem_filter, List.mem_filter]
    cases p f <;> simp
theorem lens {xs : List Ft} (p : Ft → Bool) : (xs.filter p).length + (xs.filter fun f => !(p f)).length = xs.length := by
  induction xs with
  | nil => rfl
  | cons f l ih => rw [List.filter_cons, List.filter_cons]; cases p f <;> simp <;> omega
theorem sel_true (ss : List ByteArray) (xs : List Ft) : xs.filter (selB ss true) = xs.filter fun f => inB ss f.1 := by
  congr 1; funext f; unfold selB; cases inB ss f.1 <;> rfl
theorem sel_false (ss : List ByteArray) (xs : List Ft) : xs.filter (selB ss false) = xs.filter fun f => !(inB ss f.1) := by
  congr 1; funext f; unfold selB; cases inB ss f.1 <;> rfl

set_option maxRecDepth 100000 in
set_option maxHeartbeats 3200000 in
theorem walk (A : Option Addr) (n c : Nat) (xs : List Ft) (B : Option Addr) (m d : Nat) (ss : List ByteArray) (w : World)
    (ha : Sl w A n c xs) (za : Sized xs) (ba : c * 32 ≤ reachBytes) (hb : Ss w B m d ss) (zb : ∀ s ∈ ss, s.size ≤ maxLen) (_ : d * 16 ≤ reachBytes) :
    Calls Try.prog 8 #[.slice A n c, .slice B m d] w (BoolPost w true) := by
  have la := ha.le
  unfold reachBytes at ba
  by_cases ra : ascB xs = true
  · have aa := (ascB_iff xs).1 ra
    have R1 := parts (fun f => inB ss f.1) aa
    have R2 := lens (xs := xs) (fun f => inB ss f.1)
    have R3 := sel_true ss xs
    have R4 := sel_false ss xs
    generalize hM : (xs.filter fun f => inB ss f.1) = M at R1 R2 R3
    generalize hN : (xs.filter fun f => !(inB ss f.1)) = N at R1 R2 R4
    rw [ha.len] at R2
    have P1 := Lib.hid R1
    have P2 := Lib.hid R2
    have P3 := Lib.hid R3
    have P4 := Lib.hid R4
    have P5 := Lib.hid hM
    have P6 := Lib.hid hN
    clear R1 R2 R3 R4 hM hN
    go_enter Try.func8, Try.ntmps8
    go_wp2_with fail
    have h1 := awake_any w
    refine h1.mono ?_
    rintro e w1 ⟨rfl, N1⟩
    clear h1
    have A1 := N1
    go_wp2_with fail
    have h1 := record_any A n c xs w1 (ha.aft A1)
    rw [ra] at h1
    refine h1.mono ?_
    rintro e w2 ⟨rfl, q2⟩
    have N2 := quiet_aft q2
    clear q2
    clear h1
    have A2 := A1.trans N2
    go_wp2_with fail
    have h1 := project_any A n c xs B m d ss w2 (ha.aft A2) za (hb.aft A2) zb (by omega)
    rw [P5.out] at h1
    refine h1.mono ?_
    rintro e w3 ⟨⟨U, un, uc, rfl, sm_3⟩, N3⟩
    clear h1
    have A3 := A2.trans N3
    go_wp2_with fail
    have h1 := without_any A n c xs B m d ss w3 (ha.aft A3) za (hb.aft A3) zb (by omega)
    rw [P6.out] at h1
    refine h1.mono ?_
    rintro e w4 ⟨⟨V, vn, vc, rfl, sr_4⟩, N4⟩
    clear h1
    have A4 := A3.trans N4
    have sm_4 := sm_3.aft N4
    clear sm_3
    go_wp2_with fail
    have h1 := unify_any U un uc M V vn vc N w4 sm_4 sr_4 (by have e1 := sm_4.len; have e2 := sr_4.len; have e3 := P2.out; omega)
    refine h1.mono ?_
    rintro e w5 ⟨N5, hr⟩
    clear h1
    have A5 := A4.trans N5
    have sm_5 := sm_4.aft N5
    clear sm_4
    have sr_5 := sr_4.aft N5
    clear sr_4
    rw [P1.out] at hr
    obtain ⟨T, tn, tc, rfl, st_5⟩ := hr
    go_wp2_with fail
    have h1 := refSelect_any A n c xs B m d ss true w5 (ha.aft A5) (hb.aft A5) (by omega)
    rw [P3.out] at h1
    refine h1.mono ?_
    rintro e w6 ⟨⟨S, sn, sc, rfl, ss_6⟩, N6⟩
    clear h1
    have A6 := A5.trans N6
    have sm_6 := sm_5.aft N6
    clear sm_5
    have sr_6 := sr_5.aft N6
    clear sr_5
    have st_6 := st_5.aft N6
    clear st_5
    go_wp2_with fail
    have h1 := same_any U un uc M S sn sc M w6 sm_6 ss_6
    rw [decide_eq_true (rfl : M = M)] at h1
    refine h1.mono ?_
    rintro e w7 ⟨rfl, q7⟩
    have N7 := quiet_aft q7
    clear q7
    clear h1
    have A7 := A6.trans N7
    have sm_7 := sm_6.aft N7
    clear sm_6
    have sr_7 := sr_6.aft N7
    clear sr_6
    have st_7 := st_6.aft N7
    clear st_6
    have ss_7 := ss_6.aft N7
    clear ss_6
    go_wp2_with fail
    have h1 := refSelect_any A n c xs B m d ss false w7 (ha.aft A7) (hb.aft A7) (by omega)
    rw [P4.out] at h1
    refine h1.mono ?_
    rintro e w8 ⟨⟨Q, qn, qc, rfl, sq_8⟩, N8⟩
    clear h1
    have A8 := A7.trans N8
    have sm_8 := sm_7.aft N8
    clear sm_7
    have sr_8 := sr_7.aft N8
    clear sr_7
    have st_8 := st_7.aft N8
    clear st_7
    have ss_8 := ss_7.aft N8
    clear ss_7
    go_wp2_with fail
    have h1 := same_any V vn vc N Q qn qc N w8 sr_8 sq_8
    rw [decide_eq_true (rfl : N = N)] at h1
    refine h1.mono ?_
    rintro e w9 ⟨rfl, q9⟩
    have N9 := quiet_aft q9
    clear q9
    clear h1
    have A9 := A8.trans N9
    have sm_9 := sm_8.aft N9
    clear sm_8
    have sr_9 := sr_8.aft N9
    clear sr_8
    have st_9 := st_8.aft N9
    clear st_8
    have ss_9 := ss_8.aft N9
    clear ss_8
    have sq_9 := sq_8.aft N9
    clear sq_8
    go_wp2_with fail
    have h1 := same_any T tn tc xs A n c xs w9 st_9 (ha.aft A9)
    rw [decide_eq_true (rfl : xs = xs)] at h1
    refine h1.mono ?_
    rintro e w10 ⟨rfl, q10⟩
    have N10 := quiet_aft q10
    clear q10
    clear h1
    have A10 := A9.trans N10
    have sm_10 := sm_9.aft N10
    clear sm_9
    have sr_10 := sr_9.aft N10
    clear sr_9
    have st_10 := st_9.aft N10
    clear st_9
    have ss_10 := ss_9.aft N10
    clear ss_9
    have sq_10 := sq_9.aft N10
    clear sq_9
    go_wp2
    go_ret
    refine ⟨?_, A10⟩
    rfl
  · have ra' : ascB xs = false := by simpa using ra
    go_enter Try.func8, Try.ntmps8
    go_wp2_with fail
    have h1 := awake_any w
    refine h1.mono ?_
    rintro e w1 ⟨rfl, N1⟩
    clear h1
    have A1 := N1
    go_wp2_with fail
    have h1 := record_any A n c xs w1 (ha.aft A1)
    rw [ra'] at h1
    refine h1.mono ?_
    rintro e w2 ⟨rfl, q2⟩
    have N2 := quiet_aft q2
    clear q2
    clear h1
    have A2 := A1.trans N2
    go_wp2
    go_ret
    refine ⟨?_, A2⟩
    rfl

theorem own : ownKnob Try.prog.godebug = none := by kernel_rfl
theorem laidOut : laidOutB Try.prog = true := by kernel_rfl
theorem bytesF : Try.prog.bytesOf 29 = 32 := by kernel_rfl
theorem bytesT : Try.prog.bytesOf 9 = 16 := by kernel_rfl

set_option maxRecDepth 100000 in
theorem contract (H : Type) (enc : TypeId × Value → H) (W : World) (base : Nat) (args : Array Value) (ds gs : List (DataW H)) (before : List MemPlace)
    (hval : ∀ (j : Nat) t v, Try.f8.params[j]? = some t → args[j]? = some v → Value.okWide Try.prog W .any base t v)
    (hW : DataW.Whole enc Try.prog Try.f8.params.toList Rows.featureProjectsSpec.vars false W args.toList ds gs before) (hsz0 : (DataW.weightsEach Try.prog (Try.f8.params.toList ++ Rows.featureProjectsSpec.plain.varTypes Try.prog) (ds ++ gs)).all (· ≤ reachBytes) = true) :
    Calls Try.prog 8 args W fun e W' => ∃ v, e = .returned v ∧ Rows.featureProjectsSpec.post enc Try.prog Try.f8 false true false false W args v W' := by
  have hW' := hW
  obtain ⟨p, q, hA0, hV, rfl, hfz, hnd⟩ := hW
  have hA : DataW.TrodAll enc Try.prog W 0 (fun _ => true) true Try.f8.params.toList args.toList ds p := hA0
  have hsz := hsz0
  rw [Try.params8] at hA hval hsz
  obtain ⟨v0, vs0, d0, ds0, p0, q0, hargs, rfl, rfl, h0, r0⟩ := trodAll_cons hA
  obtain ⟨v1, vs1, d1, ds1, p1, q1, rfl, rfl, rfl, h1, r1⟩ := trodAll_cons r0
  obtain ⟨rfl, rfl, rfl⟩ := trodAll_nil r1
  obtain rfl : args = #[v0, v1] := by cases args; simp_all
  obtain ⟨rfl, rfl⟩ := trodVars_none hV
  obtain ⟨a0, len0, cap0, rfl⟩ := okWide_slice Try.underlying22 (hval 0 22 v0 rfl rfl)
  have lt0 : ∀ x ∈ p0, x.block < W.heap.size := by obtain ⟨m, hm⟩ := h0; exact DataW.trod_lt m _ _ _ hm
  obtain ⟨xs0, s0, z0, b0⟩ := feats_of h0 (Nat.le_refl _) (fun el sp e => by have := sized_slice hsz (j := 0) (t := 22) (e := 29) rfl (by rw [e]; rfl) Try.underlying22; rwa [bytesF] at this)
  obtain ⟨a1, len1, cap1, rfl⟩ := okWide_slice Try.underlying36 (hval 1 36 v1 rfl rfl)
  have lt1 : ∀ x ∈ p1, x.block < W.heap.size := by obtain ⟨m, hm⟩ := h1; exact DataW.trod_lt m _ _ _ hm
  obtain ⟨xs1, s1, z1, b1⟩ := strs_of h1 (Nat.le_refl _) (fun el sp e => by have := sized_slice hsz (j := 1) (t := 36) (e := 9) rfl (by rw [e]; rfl) Try.underlying36; rwa [bytesT] at this)
  clear hA0
  refine (walk a0 len0 cap0 xs0 a1 len1 cap1 xs1 W s0 z0 b0 s1 z1 b1).mono fun e W' ⟨he, bel⟩ => ?_
  subst he
  exact ⟨_, rfl, _, _, _, [], _, [], hW', trodAll_mk1 (shut_bool Try.underlying4 _), (trodAll_cons_mk (Below.trod laidOut (by kernel_rfl) (of_decide_eq_true (by kernel_rfl)) h0 bel lt0) (trodAll_cons_mk (Below.trod laidOut (by kernel_rfl) (of_decide_eq_true (by kernel_rfl)) h1 bel lt1) trodAll_mk0)), rfl, Below.frame bel _, fun h => by cases h⟩

set_option maxRecDepth 100000 in
theorem lifted (os : Os) (started : os.Started) (H : Type) (enc : TypeId × Value → H) :
    ReturnsInHanded {} Try.checked os 8 .any (Rows.featureProjectsSpec.pre6 enc Try.prog Try.f8 Rows.featureProjectsRow.domain false) (Rows.featureProjectsSpec.post enc Try.prog Try.f8 false true false false) := by
  refine returnsInHanded_of_change_sized (C := Try.checked) own started (by kernel_rfl) Try.func8
    (ChangeSpec.witness6 (enc := enc) (C := Try.checked) false ⟨#[], #[.slice none 0 0, .slice none 0 0], []⟩ 8 (by kernel_rfl) (by kernel_rfl) (by kernel_rfl) (by kernel_rfl)) ?_
  intro W base args ds gs before hval hW _ hsz _
  exact contract H enc W base args ds gs before hval hW hsz

theorem proved : Rows.FeatureProjectsSaid :=
  OpenClaim.holds_of_wide 8 Try.f8 rfl rfl rfl rfl rfl rfl rfl ⟨rfl, rfl, rfl, rfl, rfl⟩ rfl rfl rfl rfl rfl (by kernel_rfl) Try.func8 (by kernel_rfl)
    (of_decide_eq_true (by kernel_rfl)) (by unfold Func.isWrapper; rw [if_neg (of_decide_eq_false (by kernel_rfl))]; exact ⟨rfl, rfl⟩)
    (fun os started H enc _ => lifted os started H enc)
#print axioms proved
end Go.Proofs.Ythmehnigpnhnbab.lawProjects
