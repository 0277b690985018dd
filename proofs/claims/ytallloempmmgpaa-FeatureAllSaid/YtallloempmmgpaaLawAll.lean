/-
  For all dimensions, All yields exactly the specified records in the specified order, and the iteration stops when it is told to: the law FeatureAll returns true. Conditions: none (every list of dimensions, of any size that an argument can have, and every number).
-/
import Derived.Test.YtallloempmmgpaaFeatAwake
import Derived.Test.YtallloempmmgpaaFeatFrame
import Derived.Test.YtallloempmmgpaaAllFrame
import Derived.Test.YtallloempmmgpaaAllSameW
import Derived.Test.YtallloempmmgpaaAllTakeW
import Derived.Test.YtallloempmmgpaaAllRefA
import Derived.Test.YtallloempmmgpaaRows
namespace Go.Proofs.Ytallloempmmgpaa.lawAll
open Go.ChangeShapes Go.WideShapes Go.ChangeAt Go.RowKit
open FeatPlain

set_option maxRecDepth 100000 in
set_option maxHeartbeats 1600000 in
theorem walk (A : Option Addr) (n c : Nat) (ds : List Dm) (i : Int) (w : World) (ha : Dd w A n c ds) (_ : (Lit.int .i64 i).wf = true) :
    Calls Try.prog 3 #[.slice A n c, .int .i64 i] w (BoolPost w true) := by
  have hal := allD_length ds
  have hfull := Lib.hid (show (allD ds).take 5000 = allD ds from List.take_of_length_le (by omega))
  go_enter Try.func3, Try.ntmps3
  go_wp2_with fail
  refine (awake_any _).mono ?_
  rintro e0 w0 ⟨rfl, A0⟩
  go_wp2_with fail
  refine (refAll_any A n c ds _ (ha.aft A0)).mono ?_
  rintro e1 w1 ⟨⟨wa, wn, wc, rfl, hws0⟩, A1⟩
  have hwn : wn ≤ 4096 := by rw [← hws0.len]; exact hal
  have hwc := hws0.le
  have hwm := hws0.cmax
  have A01 := A0.trans A1
  have hws1 := Lib.hid hws0
  clear hws0
  go_wp2_with fail
  refine (take_any A n c ds 5000 _ (ha.aft A01) (by omega) (by omega)).mono ?_
  rintro e2 w2 ⟨⟨ta, tn, tc, rfl, hts⟩, A2⟩
  rw [hfull.out] at hts
  have hSA := sameAll_any ta tn tc _ wa wn wc _ w2 hts (hws1.out.aft A2)
  rw [show decide (allD ds = allD ds) = true from by simp] at hSA
  clear hts
  go_wp2_with fail
  refine hSA.mono ?_
  rintro e3 w3 ⟨rfl, A3⟩
  clear hSA
  have A03 := (A01.trans A2).trans A3
  have hws := Lib.hid (hws1.out.aft (A2.trans A3))
  have hwl := Lib.hid hws.out.len
  clear hws1 A2 A3
  by_cases h1 : i < 1
  · go_wp2
    go_ret
    exact ⟨rfl, A03⟩
  · by_cases h2 : (wn : Int) < i
    · go_wp2
      go_ret
      exact ⟨rfl, A03⟩
    · obtain ⟨k, rfl⟩ : ∃ k : Nat, i = (k : Int) := ⟨i.toNat, by omega⟩
      have hk1 : 1 ≤ k := by omega
      have hkn : k ≤ wn := by omega
      have hkc : k ≤ wc := by omega
      clear h1
      have hb0 := hws.out.at_ (show 0 < wn by omega)
      obtain ⟨wb, wo, _, _, _, _, rfl, _⟩ := hb0
      go_wp2
      refine wp_region_held_drew (S := fun _ => True) (by kernel_rfl) (trivial) (fun hHeld => ?_)
      refine take_on (i := 0) (v := ?v1) rfl (by kernel_rfl) (by kernel_rfl) (by kernel_rfl) (fun _ _ _ h => h) (by rfl) (by assumption) ?y1 ?_
      case y1 => (intro w hSw; (try dsimp only at hSw); go_simp; (try with_reducible rfl))
      try simp only [Act.put, List.setIfInBounds_toArray, List.set_cons_zero, List.set_cons_succ]
      refine take_on (i := 1) (v := ?v2) rfl (by kernel_rfl) (by kernel_rfl) (by kernel_rfl) (fun _ _ _ h => h) (by rfl) (by assumption) ?y2 ?_
      case y2 => (intro w hSw; (try dsimp only at hSw); go_simp; (try with_reducible rfl))
      try simp only [Act.put, List.setIfInBounds_toArray, List.set_cons_zero, List.set_cons_succ]
      refine take_on (i := 3) (v := ?v3) rfl (by kernel_rfl) (by kernel_rfl) (by kernel_rfl) (fun _ _ _ h => h) (by rfl) (by assumption) ?y3 ?_
      case y3 => (intro w hSw; (try dsimp only at hSw); go_simp; (try with_reducible rfl))
      try simp only [Act.put, List.setIfInBounds_toArray, List.set_cons_zero, List.set_cons_succ]
      refine take_on (i := 4) (v := ?v4) rfl (by kernel_rfl) (by kernel_rfl) (by kernel_rfl) (fun _ _ _ h => h) (by rfl) (by assumption) ?y4 ?_
      case y4 => (intro w hSw; (try dsimp only at hSw); go_simp; (try with_reducible rfl))
      try simp only [Act.put, List.setIfInBounds_toArray, List.set_cons_zero, List.set_cons_succ]
      refine take_on (i := 5) (v := ?v5) rfl (by kernel_rfl) (by kernel_rfl) (by kernel_rfl) (fun _ _ _ h => h) (by rfl) (by assumption) ?y5 ?_
      case y5 => (intro w hSw; (try dsimp only at hSw); go_simp; (try with_reducible rfl))
      try simp only [Act.put, List.setIfInBounds_toArray, List.set_cons_zero, List.set_cons_succ]
      refine one_ready (i := 2) rfl (by kernel_rfl) (by rfl) (fun K hK => ?_)
      go_simp
      refine (take_any A n c ds k w3.drew (ha.aft A03.drew) hk1 (by omega)).mono ?_
      rintro e1 w4 ⟨⟨ta, tn, tc, rfl, hts⟩, hA4⟩
      refine hK.out _ _ (trivial) (fun hHeld => ?_)
      clear hK K
      try simp only [Act.put, List.setIfInBounds_toArray, List.set_cons_zero, List.set_cons_succ]
      refine one_ready (i := 6) rfl (by kernel_rfl) (by rfl) (fun K hK => ?_)
      go_simp
      have hSA := sameAll_any ta tn tc _ (some ⟨wb, wo, none⟩) k wc _ w4 hts ((hws.out.first hkn).aft ((Aft.refl w3).drew.trans hA4))
      rw [show decide ((allD ds).take k = (allD ds).take k) = true from by simp] at hSA
      refine hSA.mono ?_
      rintro e3 w5 ⟨rfl, hA5⟩
      refine hK.out _ _ (trivial) (fun hHeld => ?_)
      clear hK K
      try simp only [Act.put, List.setIfInBounds_toArray, List.set_cons_zero, List.set_cons_succ]
      refine take_on (i := 7) (v := ?v8) rfl (by kernel_rfl) (by kernel_rfl) (by kernel_rfl) (fun _ _ _ h => h) (by rfl) (by assumption) ?y8 ?_
      case y8 => (intro w hSw; (try dsimp only at hSw); go_simp; (try with_reducible rfl))
      try simp only [Act.put, List.setIfInBounds_toArray, List.set_cons_zero, List.set_cons_succ]
      refine wpAnyH_done (by kernel_rfl) ?_ _
      go_wp2
      go_ret
      exact ⟨rfl, (A03.drew.trans hA4).trans hA5⟩


theorem own : ownKnob Try.prog.godebug = none := by kernel_rfl
theorem laidOut : laidOutB Try.prog = true := by kernel_rfl

set_option maxRecDepth 100000 in
theorem contract (H : Type) (enc : TypeId × Value → H) (W : World) (base : Nat) (args : Array Value) (ds gs : List (DataW H)) (before : List MemPlace)
    (hval : ∀ (j : Nat) t v, Try.f3.params[j]? = some t → args[j]? = some v → Value.okWide Try.prog W .any base t v)
    (hW : DataW.Whole enc Try.prog Try.f3.params.toList Rows.featureAllSpec.vars false W args.toList ds gs before) (hsz0 : (DataW.weightsEach Try.prog (Try.f3.params.toList ++ Rows.featureAllSpec.plain.varTypes Try.prog) (ds ++ gs)).all (· ≤ reachBytes) = true) :
    Calls Try.prog 3 args W fun e W' => ∃ v, e = .returned v ∧ Rows.featureAllSpec.post enc Try.prog Try.f3 false true false false W args v W' := by
  have hW' := hW
  obtain ⟨p, q, hA0, hV, rfl, hfz, hnd⟩ := hW
  have hA : DataW.TrodAll enc Try.prog W 0 (fun _ => true) true Try.f3.params.toList args.toList ds p := hA0
  have hsz := hsz0
  rw [Try.params3] at hA hval hsz
  obtain ⟨v0, vs0, d0, ds0, p0, q0, hargs, rfl, rfl, h0, r0⟩ := trodAll_cons hA
  obtain ⟨v1, vs1, d1, ds1, p1, q1, rfl, rfl, rfl, h1, r1⟩ := trodAll_cons r0
  obtain ⟨rfl, rfl, rfl⟩ := trodAll_nil r1
  obtain rfl : args = #[v0, v1] := by cases args; simp_all
  obtain ⟨rfl, rfl⟩ := trodVars_none hV
  obtain ⟨a0, len0, cap0, rfl⟩ := okWide_slice Try.underlying22 (hval 0 22 v0 rfl rfl)
  have lt0 : ∀ x ∈ p0, x.block < W.heap.size := by obtain ⟨m, hm⟩ := h0; exact DataW.trod_lt m _ _ _ hm
  obtain ⟨xs0, s0⟩ := dims_of h0 (fun x hx => by simpa using List.all_eq_true.1 hsz x (DataW.weights_mem_each (j := 0) (t := 22) rfl rfl x hx))
  obtain ⟨xs1, rfl, rfl, rfl, z1⟩ := open_int Try.underlying3 (hval 1 3 v1 rfl rfl) h1
  clear hA0
  refine (walk a0 len0 cap0 xs0 xs1 W s0 z1).mono fun e W' ⟨he, bel⟩ => ?_
  subst he
  exact ⟨_, rfl, _, _, _, [], _, [], hW', trodAll_mk1 (shut_bool Try.underlying4 _), (trodAll_cons_mk (Below.trod laidOut (by kernel_rfl) (of_decide_eq_true (by kernel_rfl)) h0 bel lt0) (trodAll_cons_mk (shut_int Try.underlying3 z1) trodAll_mk0)), rfl, Below.frame bel _, fun h => by cases h⟩

set_option maxRecDepth 100000 in
theorem lifted (os : Os) (started : os.Started) (H : Type) (enc : TypeId × Value → H) :
    ReturnsInHanded {} Try.checked os 3 .any (Rows.featureAllSpec.pre6 enc Try.prog Try.f3 Rows.featureAllRow.domain false) (Rows.featureAllSpec.post enc Try.prog Try.f3 false true false false) := by
  refine returnsInHanded_of_change_sized (C := Try.checked) own started (by kernel_rfl) Try.func3
    (ChangeSpec.witness6 (enc := enc) (C := Try.checked) false ⟨#[], #[.slice none 0 0, .int .i64 0], []⟩ 8 (by kernel_rfl) (by kernel_rfl) (by kernel_rfl) (by kernel_rfl)) ?_
  intro W base args ds gs before hval hW _ hsz _
  exact contract H enc W base args ds gs before hval hW hsz

theorem proved : Rows.FeatureAllSaid :=
  OpenClaim.holds_of_wide 3 Try.f3 rfl rfl rfl rfl rfl rfl rfl ⟨rfl, rfl, rfl, rfl, rfl⟩ rfl rfl rfl rfl rfl (by kernel_rfl) Try.func3 (by kernel_rfl)
    (of_decide_eq_true (by kernel_rfl)) (by unfold Func.isWrapper; rw [if_neg (of_decide_eq_false (by kernel_rfl))]; exact ⟨rfl, rfl⟩)
    (fun os started H enc _ => lifted os started H enc)
#print axioms proved
end Go.Proofs.Ytallloempmmgpaa.lawAll
