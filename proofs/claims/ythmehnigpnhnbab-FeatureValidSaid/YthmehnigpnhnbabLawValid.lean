/-
  For every list of features, Valid reports whether it is a valid record; for every record and name, Get returns the feature's value or false: the law FeatureValid returns true. Conditions: none (every list of features and every string, of any size that an argument can have).
-/
import Derived.Test.YthmehnigpnhnbabFeatAwake
import Derived.Test.YthmehnigpnhnbabFeatFrame
import Derived.Test.YthmehnigpnhnbabFeatGet
import Derived.Test.YthmehnigpnhnbabRows
namespace Go.Proofs.Ythmehnigpnhnbab.lawValid
open Go.ChangeShapes Go.WideShapes Go.ChangeAt Go.RowKit
open Go.ChangeMaps (open_string shut_string)
open FeatPlain

set_option maxRecDepth 100000 in
set_option maxHeartbeats 3200000 in
theorem walk (A : Option Addr) (n c : Nat) (xs : List Ft) (nm : ByteArray) (w : World) (ha : Sl w A n c xs) (hz : Sized xs) (_ : c * 32 ≤ reachBytes) (_ : nm.size ≤ maxLen) :
    Calls Try.prog 3 #[.slice A n c, .string nm] w (BoolPost w true) := by
  have hn := ha.max
  have hnc := ha.le
  have hlen := Lib.hid ha.len
  by_cases ra : ascB xs = true
  · cases hi : idx xs nm with
    | none =>
      have HI := Lib.hid hi
      clear hi
      go_enter Try.func3, Try.ntmps3
      go_wp2_with fail
      have h1 := awake_any w
      refine h1.mono ?_
      rintro e w1 ⟨rfl, N1⟩
      clear h1
      have A1 := N1
      go_wp2_with fail
      have h1 := valid_any A n c xs w1 (ha.aft A1) hz
      refine h1.mono ?_
      rintro e w2 ⟨rfl, N2⟩
      clear h1
      have A2 := A1.trans N2
      go_wp2_with fail
      have h1 := refValid_any A n c xs w2 (ha.aft A2) hz
      refine h1.mono ?_
      rintro e w3 ⟨rfl, q3⟩
      have N3 := quiet_aft q3
      clear q3
      clear h1
      have A3 := A2.trans N3
      have hbb : (validB xs != validB xs) = false := by simp
      go_wp2_with fail
      have h1 := record_any A n c xs w3 (ha.aft A3)
      rw [ra] at h1
      refine h1.mono ?_
      rintro e w4 ⟨rfl, q4⟩
      have N4 := quiet_aft q4
      clear q4
      clear h1
      have A4 := A3.trans N4
      go_wp2_with fail
      have h1 := get_any A n c xs nm w4 (ha.aft A4)
      refine h1.mono ?_
      rintro e w5 ⟨N5, hr⟩
      clear h1
      have A5 := A4.trans N5
      rw [HI.out] at hr
      obtain rfl := hr
      go_wp2_with fail
      have h1 := index_any A n c xs nm w5 (ha.aft A5)
      rw [HI.out] at h1
      refine h1.mono ?_
      rintro e w' ⟨rfl, rfl⟩
      clear h1
      go_wp2
      go_ret
      refine ⟨?_, A5⟩
      rfl
    | some k =>
      obtain ⟨g, hg, hgn⟩ := idx_some hi
      have hlt : k < n := by rw [← hlen.out]; exact (List.getElem?_eq_some_iff.1 hg).1
      obtain ⟨b, off, g', rfl, hg', g1, g2⟩ := ha.at_ hlt
      rw [hg] at hg'
      cases hg'
      have HI := Lib.hid hi
      have HG := Lib.hid hg
      have hkk : (0 : Int) ≤ (k : Int) := by omega
      clear hi hg hgn g1
      go_enter Try.func3, Try.ntmps3
      go_wp2_with fail
      have h1 := awake_any w
      refine h1.mono ?_
      rintro e w1 ⟨rfl, N1⟩
      clear h1
      have A1 := N1
      go_wp2_with fail
      have h1 := valid_any _ n c xs w1 (ha.aft A1) hz
      refine h1.mono ?_
      rintro e w2 ⟨rfl, N2⟩
      clear h1
      have A2 := A1.trans N2
      go_wp2_with fail
      have h1 := refValid_any _ n c xs w2 (ha.aft A2) hz
      refine h1.mono ?_
      rintro e w3 ⟨rfl, q3⟩
      have N3 := quiet_aft q3
      clear q3
      clear h1
      have A3 := A2.trans N3
      have hbb : (validB xs != validB xs) = false := by simp
      go_wp2_with fail
      have h1 := record_any _ n c xs w3 (ha.aft A3)
      rw [ra] at h1
      refine h1.mono ?_
      rintro e w4 ⟨rfl, q4⟩
      have N4 := quiet_aft q4
      clear q4
      clear h1
      have A4 := A3.trans N4
      go_wp2_with fail
      have h1 := get_any _ n c xs nm w4 (ha.aft A4)
      refine h1.mono ?_
      rintro e w5 ⟨N5, hr⟩
      clear h1
      have A5 := A4.trans N5
      rw [HI.out] at hr
      obtain ⟨g', hg', rfl⟩ := hr
      rw [HG.out] at hg'
      cases hg'
      go_wp2_with fail
      have h1 := index_any _ n c xs nm w5 (ha.aft A5)
      rw [HI.out] at h1
      refine h1.mono ?_
      rintro e w' ⟨rfl, rfl⟩
      clear h1
      have d2 := A5.cell g2
      go_wp2
      go_ret
      refine ⟨?_, A5⟩
      rfl
  · have ra' : ascB xs = false := by simpa using ra
    go_enter Try.func3, Try.ntmps3
    go_wp2_with fail
    have h1 := awake_any w
    refine h1.mono ?_
    rintro e w1 ⟨rfl, N1⟩
    clear h1
    have A1 := N1
    go_wp2_with fail
    have h1 := valid_any A n c xs w1 (ha.aft A1) hz
    refine h1.mono ?_
    rintro e w2 ⟨rfl, N2⟩
    clear h1
    have A2 := A1.trans N2
    go_wp2_with fail
    have h1 := refValid_any A n c xs w2 (ha.aft A2) hz
    refine h1.mono ?_
    rintro e w3 ⟨rfl, q3⟩
    have N3 := quiet_aft q3
    clear q3
    clear h1
    have A3 := A2.trans N3
    have hbb : (validB xs != validB xs) = false := by simp
    go_wp2_with fail
    have h1 := record_any A n c xs w3 (ha.aft A3)
    rw [ra'] at h1
    refine h1.mono ?_
    rintro e w4 ⟨rfl, q4⟩
    have N4 := quiet_aft q4
    clear q4
    clear h1
    have A4 := A3.trans N4
    go_wp2
    go_ret
    refine ⟨?_, A4⟩
    rfl

theorem own : ownKnob Try.prog.godebug = none := by kernel_rfl
theorem laidOut : laidOutB Try.prog = true := by kernel_rfl
theorem bytesF : Try.prog.bytesOf 29 = 32 := by kernel_rfl

set_option maxRecDepth 100000 in
theorem contract (H : Type) (enc : TypeId × Value → H) (W : World) (base : Nat) (args : Array Value) (ds gs : List (DataW H)) (before : List MemPlace)
    (hval : ∀ (j : Nat) t v, Try.f3.params[j]? = some t → args[j]? = some v → Value.okWide Try.prog W .any base t v)
    (hW : DataW.Whole enc Try.prog Try.f3.params.toList Rows.featureValidSpec.vars false W args.toList ds gs before) (hsz0 : (DataW.weightsEach Try.prog (Try.f3.params.toList ++ Rows.featureValidSpec.plain.varTypes Try.prog) (ds ++ gs)).all (· ≤ reachBytes) = true) :
    Calls Try.prog 3 args W fun e W' => ∃ v, e = .returned v ∧ Rows.featureValidSpec.post enc Try.prog Try.f3 false true false false W args v W' := by
  have hW' := hW
  obtain ⟨p, q, hA0, hV, rfl, hfz, hnd⟩ := hW
  have hA : DataW.TrodAll enc Try.prog W 0 (fun _ => true) true Try.f3.params.toList args.toList ds p := hA0
  have hsz := hsz0
  rw [Try.params3] at hA hval hsz
  obtain ⟨v0, vs0, d0, ds0, p0, q0, hargs, rfl, rfl, h0, r0⟩ := trodAll_cons hA
  obtain ⟨v1, vs1, d1, ds1, p1, q1, rfl, rfl, rfl, h1, r1⟩ := trodAll_cons r0
  obtain ⟨rfl, rfl, rfl⟩ := trodAll_nil r1
  obtain rfl : args = #[v0, v1] := by cases args; simp_all
  obtain ⟨rfl, rfl⟩ := trodVars_none hV
  obtain ⟨a0, len0, cap0, rfl⟩ := okWide_slice Try.underlying22 (hval 0 22 v0 rfl rfl)
  have lt0 : ∀ x ∈ p0, x.block < W.heap.size := by obtain ⟨m, hm⟩ := h0; exact DataW.trod_lt m _ _ _ hm
  obtain ⟨xs0, s0, z0, b0⟩ := feats_of h0 (Nat.le_refl _) (fun el sp e => by have := sized_slice hsz (j := 0) (t := 22) (e := 29) rfl (by rw [e]; rfl) Try.underlying22; rwa [bytesF] at this)
  obtain ⟨xs1, rfl, rfl, rfl, z1⟩ := open_string Try.underlying9 (hval 1 9 v1 rfl rfl) h1
  clear hA0
  refine (walk a0 len0 cap0 xs0 xs1 W s0 z0 b0 z1).mono fun e W' ⟨he, bel⟩ => ?_
  subst he
  exact ⟨_, rfl, _, _, _, [], _, [], hW', trodAll_mk1 (shut_bool Try.underlying4 _), (trodAll_cons_mk (Below.trod laidOut (by kernel_rfl) (of_decide_eq_true (by kernel_rfl)) h0 bel lt0) (trodAll_cons_mk (shut_string Try.underlying9 z1) trodAll_mk0)), rfl, Below.frame bel _, fun h => by cases h⟩

set_option maxRecDepth 100000 in
theorem lifted (os : Os) (started : os.Started) (H : Type) (enc : TypeId × Value → H) :
    ReturnsInHanded {} Try.checked os 3 .any (Rows.featureValidSpec.pre6 enc Try.prog Try.f3 Rows.featureValidRow.domain false) (Rows.featureValidSpec.post enc Try.prog Try.f3 false true false false) := by
  refine returnsInHanded_of_change_sized (C := Try.checked) own started (by kernel_rfl) Try.func3
    (ChangeSpec.witness6 (enc := enc) (C := Try.checked) false ⟨#[], #[.slice none 0 0, .string .empty], []⟩ 8 (by kernel_rfl) (by kernel_rfl) (by kernel_rfl) (by kernel_rfl)) ?_
  intro W base args ds gs before hval hW _ hsz _
  exact contract H enc W base args ds gs before hval hW hsz

theorem proved : Rows.FeatureValidSaid :=
  OpenClaim.holds_of_wide 3 Try.f3 rfl rfl rfl rfl rfl rfl rfl ⟨rfl, rfl, rfl, rfl, rfl⟩ rfl rfl rfl rfl rfl (by kernel_rfl) Try.func3 (by kernel_rfl)
    (of_decide_eq_true (by kernel_rfl)) (by unfold Func.isWrapper; rw [if_neg (of_decide_eq_false (by kernel_rfl))]; exact ⟨rfl, rfl⟩)
    (fun os started H enc _ => lifted os started H enc)
#print axioms proved
end Go.Proofs.Ythmehnigpnhnbab.lawValid
