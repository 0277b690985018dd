/-
  For every year, Leap and YearDays return the specified results, and 19 consecutive years contain 7 leap years: the law LunisolarLeaps returns true. (a tied card: pruned copy of the program; the table of the months' lengths holds what its text lays).
-/
import Derived.Test.YtdeojpmimhagjabDoorLunFrame
import Derived.Test.YtdeojpmimhagjabDoorLunAwake
import Derived.Test.YtdeojpmimhagjabDoorLunRef
import Derived.Test.YtdeojpmimhagjabDoorCards
import Derived.Test.YtdeojpmimhagjabDoorTie
import Derived.Deep.DeepHandedRow
import Derived.Deep.DeepWitnessRowRef
import Derived.SevenTiedAt
namespace Go.Proofs.YtdeojpmimhagjabDoor.lawNLeaps
open Go.ChangeShapes Go.WideShapes Go.ChangeAt Go.RowKit
open LunPlain

theorem cnt19 (y : Int) : ys (y + 19) = ys y + 6936 := ys_19 y

set_option maxRecDepth 100000 in
set_option maxHeartbeats 1600000 in
theorem walk (year : Int) (w : World) (ht : Tab w) (_ : (Lit.int .i64 year).wf = true) :
    Calls Tryd.prog 3 #[.int .i64 year] w (BoolPost w true) := by
  have H1 := Lib.hid (fun w => leap_any year w)
  have H2 := Lib.hid (fun w => refLeap_any year w)
  have H3 := Lib.hid (fun w => yd_any year w)
  have H4 := Lib.hid (fun w => refYd_any year w)
  by_cases h0 : year < 0
  · generalize leapB year = q at *
    generalize yd year = D at *
    go_enter Tryd.func3, Tryd.ntmps3
    go_wp2_with fail
    refine (awake_t _ (ht.aft (Aft.refl w))).mono ?_
    rintro e v1 ⟨rfl, N1⟩
    have A2 := (Aft.refl w).trans N1
    go_wp2_with fail
    refine (H1.out _).mono ?_
    rintro e w' ⟨rfl, rfl⟩
    go_wp2_with fail
    refine (H2.out _).mono ?_
    rintro e w' ⟨rfl, rfl⟩
    go_wp2_with fail
    refine (H3.out _).mono ?_
    rintro e w' ⟨rfl, rfl⟩
    go_wp2_with fail
    refine (H4.out _).mono ?_
    rintro e w' ⟨rfl, rfl⟩
    go_wp2
    go_ret
    exact ⟨by first | rfl | simp, A2⟩
  · by_cases h1 : 1152921504606846976 < year
    · generalize leapB year = q at *
      generalize yd year = D at *
      go_enter Tryd.func3, Tryd.ntmps3
      go_wp2_with fail
      refine (awake_t _ (ht.aft (Aft.refl w))).mono ?_
      rintro e v1 ⟨rfl, N1⟩
      have A2 := (Aft.refl w).trans N1
      go_wp2_with fail
      refine (H1.out _).mono ?_
      rintro e w' ⟨rfl, rfl⟩
      go_wp2_with fail
      refine (H2.out _).mono ?_
      rintro e w' ⟨rfl, rfl⟩
      go_wp2_with fail
      refine (H3.out _).mono ?_
      rintro e w' ⟨rfl, rfl⟩
      go_wp2_with fail
      refine (H4.out _).mono ?_
      rintro e w' ⟨rfl, rfl⟩
      go_wp2
      go_ret
      exact ⟨by first | rfl | simp, A2⟩
    · have HS := Lib.hid (fun (k : Int) (hk : 0 ≤ k) => ys_succ (y := year + k) (by omega))
      have HA := Lib.hid (cnt19 year)
      have HY := Lib.hid (fun k w => yd_any (year + k) w)
      have HL := Lib.hid (fun k w => leap_any (year + k) w)
      generalize leapB year = q at *
      generalize yd year = D at *
      go_enter Tryd.func3, Tryd.ntmps3
      go_wp2_with fail
      refine (awake_t _ (ht.aft (Aft.refl w))).mono ?_
      rintro e v1 ⟨rfl, N1⟩
      have A2 := (Aft.refl w).trans N1
      go_wp2_with fail
      refine (H1.out _).mono ?_
      rintro e w' ⟨rfl, rfl⟩
      go_wp2_with fail
      refine (H2.out _).mono ?_
      rintro e w' ⟨rfl, rfl⟩
      go_wp2_with fail
      refine (H3.out _).mono ?_
      rintro e w' ⟨rfl, rfl⟩
      go_wp2_with fail
      refine (H4.out _).mono ?_
      rintro e w' ⟨rfl, rfl⟩
      go_wp2
      go_loop [3, 4, 5] (fun n s i => ∃ k C S : Int, i = .int .i64 k ∧ 0 ≤ k ∧ k ≤ 19 ∧ n = .int .i64 C ∧ s = .int .i64 S ∧ 0 ≤ C ∧ C ≤ k ∧ S = 354 * k + 30 * C ∧ ys (year + k) = ys year + S) (fun _ _ i => (19 - intOf i).toNat)
      case atStart => exact ⟨0, 0, 0, rfl, by omega, by omega, rfl, rfl, by omega, by omega, by omega, by rw [Int.add_zero, Int.add_zero]⟩
      case round =>
        obtain ⟨k, C, S, rfl, k0, k1, rfl, rfl, c0, c1, hs, hy⟩ := hrel
        have hS : 0 ≤ S ∧ S ≤ 10000 := by omega
        have HH := Lib.hid hs
        have HYY := Lib.hid hy
        clear hs hy
        by_cases hlt : k < 19
        · have HS1 := Lib.hid (HS.out k k0)
          have HYK := Lib.hid (fun w => HY.out k w)
          have HLK := Lib.hid (fun w => HL.out k w)
          rcases yd_cases (y := year + k) (by omega) with ⟨e, _, f⟩ | ⟨e, _, f⟩
          · rw [e] at HLK
            rw [f] at HYK HS1
            clear e f
            go_wp2_with fail
            refine (HYK.out _).mono ?_
            rintro e w' ⟨rfl, rfl⟩
            go_wp2_with fail
            refine (HLK.out _).mono ?_
            rintro e w' ⟨rfl, rfl⟩
            go_wp2
            go_round
            case rel => exact ⟨k + 1, C + 1, S + 384, rfl, by omega, by omega, rfl, rfl, by omega, by omega, by have := HH.out; omega, by rw [← Int.add_assoc, HS1.out, HYY.out]; omega⟩
            case measure => simp [intOf]; omega
          · rw [e] at HLK
            rw [f] at HYK HS1
            clear e f
            go_wp2_with fail
            refine (HYK.out _).mono ?_
            rintro e w' ⟨rfl, rfl⟩
            go_wp2_with fail
            refine (HLK.out _).mono ?_
            rintro e w' ⟨rfl, rfl⟩
            go_wp2
            go_round
            case rel => exact ⟨k + 1, C, S + 354, rfl, by omega, by omega, rfl, rfl, by omega, by omega, by have := HH.out; omega, by rw [← Int.add_assoc, HS1.out, HYY.out]; omega⟩
            case measure => simp [intOf]; omega
        · obtain rfl : k = 19 := by omega
          have h6 : S = 6936 := by have := HYY.out; have := HA.out; omega
          have h7 : C = 7 := by have := HH.out; omega
          subst h6 h7
          go_wp2
          go_ret
          exact ⟨by first | rfl | simp, A2⟩

theorem own : ownKnob Tryd.prog.godebug = none := by kernel_rfl
theorem laidOut : laidOutB Tryd.prog = true := by kernel_rfl

set_option maxRecDepth 100000 in
theorem contract (H : Type) (enc : TypeId × Value → H) (W : World) (base : Nat) (args : Array Value) (ds gs : List (DataW H)) (before : List MemPlace)
    (hval : ∀ (j : Nat) t v, Tryd.f3.params[j]? = some t → args[j]? = some v → Value.okWide Tryd.prog W .any base t v)
    (hW : DataW.Whole enc Tryd.prog Tryd.f3.params.toList Rows.lunisolarLeapsSpec.vars false W args.toList ds gs before) (hsz0 : (DataW.weightsEach Tryd.prog (Tryd.f3.params.toList ++ Rows.lunisolarLeapsSpec.plain.varTypes Tryd.prog) (ds ++ gs)).all (· ≤ reachBytes) = true) (hL : laidMetH Tryd.prog listed W) :
    Calls Tryd.prog 3 args W fun e W' => ∃ v, e = .returned v ∧ Rows.lunisolarLeapsSpec.post enc Tryd.prog Tryd.f3 false true false false W args v W' := by
  have hW' := hW
  obtain ⟨p, q, hA0, hV, rfl, hfz, hnd⟩ := hW
  have hA : DataW.TrodAll enc Tryd.prog W 0 (fun _ => true) true Tryd.f3.params.toList args.toList ds p := hA0
  have hsz := hsz0
  rw [Tryd.params3] at hA hval hsz
  obtain ⟨v0, vs0, d0, ds0, p0, q0, hargs, rfl, rfl, h0, r0⟩ := trodAll_cons hA
  obtain ⟨rfl, rfl, rfl⟩ := trodAll_nil r0
  obtain rfl : args = #[v0] := by cases args; simp_all
  obtain ⟨rfl, rfl⟩ := trodVars_none hV
  obtain ⟨xs0, rfl, rfl, rfl, z0⟩ := open_int Tryd.underlying3 (hval 0 3 v0 rfl rfl) h0
  clear hA0
  refine (walk xs0 W (tabs_of hL) z0).mono fun e W' ⟨he, bel⟩ => ?_
  subst he
  exact ⟨_, rfl, _, _, _, [], _, [], hW', trodAll_mk1 (shut_bool Tryd.underlying4 _), (trodAll_cons_mk (shut_int Tryd.underlying3 z0) trodAll_mk0), rfl, Below.frame bel _, fun h => by cases h⟩

theorem witness_row (os : Os) {H : Type} (enc : TypeId × Value → H) :
    (OpenSpec.ofChange Rows.lunisolarLeapsSpec).preRow enc Tryd.prog Tryd.f3 Rows.lunisolarLeapsRow.domain false Rows.lunisolarLeapsRow.laid ((laidWorld os).forCall (fun _ _ => 0) ⟨#[], #[.int .i64 0], []⟩).memory #[.int .i64 0] := by
  have hw : (DataW.whole enc Tryd.prog ((laidWorld os).forCall (fun _ _ => 0) ⟨#[], #[.int .i64 0], []⟩).memory Tryd.f3.params.toList Rows.lunisolarLeapsSpec.vars false (#[.int .i64 0] : Array Value).toList 8).map (fun x => (x.1, x.2.1)) =
      some ([.lit (.int .i64 0)], []) := by kernel_rfl
  obtain ⟨⟨x1, x2, x3⟩, hx, hx1⟩ := Option.map_eq_some_iff.1 hw
  simp only [Prod.mk.injEq] at hx1
  obtain ⟨rfl, rfl⟩ := hx1
  exact OpenSpec.preRow_of_cond 8 hx (by kernel_rfl) (fun k hk => by cases hk) (by kernel_rfl) (laid_met os _)

set_option maxRecDepth 100000 in
theorem lifted (os : Os) (started : os.Started) (H : Type) (enc : TypeId × Value → H) (F : Stop.Interp) :
    ReturnsInHanded {} Tryd.checked os 3 .any ((OpenSpec.ofChange Rows.lunisolarLeapsSpec).preRow enc Tryd.prog Tryd.f3 Rows.lunisolarLeapsRow.domain false Rows.lunisolarLeapsRow.laid) (((OpenSpec.ofChange Rows.lunisolarLeapsSpec).at F).post enc Tryd.prog Tryd.f3 false true false false) := by
  refine returnsInHanded_of_row (C := Tryd.checked) (s := (OpenSpec.ofChange Rows.lunisolarLeapsSpec)) own started (by kernel_rfl) Tryd.func3
    (witness_row_atRef (enc := enc) (C := Tryd.checked) false (laidWorld os) #[.int .i64 0] rfl (by kernel_rfl) (by kernel_rfl) (by kernel_rfl) (witness_row os enc)) ?_
  intro W base args ds gs before hval hW _ _ hsz hL _ _
  exact contract H enc W base args ds gs before hval hW hsz hL

theorem row : Rows.LunisolarLeapsSaid :=
  OpenClaim.holds_of_cond 3 Tryd.f3 rfl rfl rfl rfl rfl rfl rfl ⟨rfl, rfl, rfl, rfl, rfl⟩ rfl rfl rfl rfl rfl (by kernel_rfl) Tryd.func3 (by kernel_rfl)
    (of_decide_eq_true (by kernel_rfl)) (by unfold Func.isWrapper; rw [if_neg (of_decide_eq_false (by kernel_rfl))]; exact ⟨rfl, rfl⟩)
    (fun os started H enc _ F0 => by rw [OpenClaim.pre_eq_preRow]; exact lifted os started H enc F0)

/-- No parameter wants a stand-in; the program's own looks are off. -/
theorem plain (f : FuncId) (fn : Func) (hf : Tryd.pinned.checked.prog.funcNamed "pentaglot/pentaglotlaw18.LunisolarLeaps" = some f) (hfn : Tryd.pinned.checked.prog.funcs[f]? = some fn) :
    false = Tryd.pinned.checked.prog.looks [] ∧ ∀ (j : Nat) t, fn.params[j]? = some t → Tryd.pinned.checked.prog.wantsStandIn t = false := by
  obtain rfl : f = 3 := Option.some.inj ((show Tryd.prog.funcNamed "pentaglot/pentaglotlaw18.LunisolarLeaps" = some 3 by kernel_rfl).symm.trans hf) |>.symm
  obtain rfl : fn = Tryd.f3 := (Option.some.inj (Tryd.func3.symm.trans hfn)).symm
  refine ⟨by kernel_rfl, fun j t ht => ?_⟩
  rw [Tryd.params3] at ht
  have hm : t = 3 := by simpa using Array.mem_of_getElem? ht
  rcases hm with rfl
  · exact (show Tryd.prog.wantsStandIn 3 = false by kernel_rfl)

theorem proved : Rows.LunisolarLeapsCardSaid :=
  Claim7.holds_tied_plain_at .later [] _ _ _ _ row (fun _ h => by cases h) (by kernel_rfl) (fun _ h => by cases h) lunisolarLeaps_row_tie rfl ⟨rfl, rfl⟩ (by kernel_rfl) rfl plain (by kernel_rfl)
#print axioms proved
end Go.Proofs.YtdeojpmimhagjabDoor.lawNLeaps
