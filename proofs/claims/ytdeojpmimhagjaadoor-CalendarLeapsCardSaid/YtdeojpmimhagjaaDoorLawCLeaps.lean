/-
  Of 128 consecutive years exactly 31 are leap years: the law CalendarLeaps returns true. (a tied card: pruned copy of the program; the table of the months' lengths holds what its text lays).
-/
import Derived.Test.YtdeojpmimhagjaaDoorCalFrame
import Derived.Test.YtdeojpmimhagjaaDoorCalAwake
import Derived.Test.YtdeojpmimhagjaaDoorCards
import Derived.Test.YtdeojpmimhagjaaDoorTie
import Derived.Deep.DeepHandedRow
import Derived.Deep.DeepWitnessRowRef
import Derived.SevenTiedAt
namespace Go.Proofs.YtdeojpmimhagjaaDoor.lawCLeaps
open Go.ChangeShapes Go.WideShapes Go.ChangeAt Go.RowKit
open CalPlain

set_option maxRecDepth 100000 in
set_option maxHeartbeats 1600000 in
theorem walk (year : Int) (w : World) (ht : Tab w) (_ : (Lit.int .i64 year).wf = true) :
    Calls Tryd.prog 5 #[.int .i64 year] w (BoolPost w true) := by
  by_cases h0 : year < 0
  · go_enter Tryd.func5, Tryd.ntmps5
    go_wp2_with fail
    refine (awake_any _ (ht.aft (Aft.refl w))).mono ?_
    rintro e v1 ⟨rfl, N1⟩
    have A2 := (Aft.refl w).trans N1
    go_wp2_with fail
    refine (awake_any _ (ht.aft A2)).mono ?_
    rintro e v2 ⟨rfl, N3⟩
    have A4 := A2.trans N3
    go_wp2
    go_ret
    exact ⟨by first | rfl | simp, A4⟩
  · by_cases h1 : 1073741824 < year
    · go_enter Tryd.func5, Tryd.ntmps5
      go_wp2_with fail
      refine (awake_any _ (ht.aft (Aft.refl w))).mono ?_
      rintro e v1 ⟨rfl, N1⟩
      have A2 := (Aft.refl w).trans N1
      go_wp2_with fail
      refine (awake_any _ (ht.aft A2)).mono ?_
      rintro e v2 ⟨rfl, N3⟩
      have A4 := A2.trans N3
      go_wp2
      go_ret
      exact ⟨by first | rfl | simp, A4⟩
    · have HZ := Lib.hid (lpN_zero year)
      have HA := Lib.hid (lpN_all year)
      go_enter Tryd.func5, Tryd.ntmps5
      go_wp2_with fail
      refine (awake_any _ (ht.aft (Aft.refl w))).mono ?_
      rintro e v1 ⟨rfl, N1⟩
      have A2 := (Aft.refl w).trans N1
      go_wp2
      go_loop [3, 4] (fun s i => ∃ k : Int, i = .int .i64 k ∧ 0 ≤ k ∧ k ≤ 128 ∧ s = .int .i64 (lpN year k)) (fun _ i => (128 - intOf i).toNat)
      case atStart => exact ⟨0, rfl, by omega, by omega, by rw [HZ.out]⟩
      case round =>
        obtain ⟨k, rfl, k0, k1, rfl⟩ := hrel
        have hb := lpN_bd (y := year) (by omega) k0 k1
        by_cases hlt : k < 128
        · have HS := Lib.hid (lpN_succ (y := year) (by omega) k0)
          have HL := Lib.hid (fun w => leap_any (year + k) w)
          generalize lpN year k = n at *
          rcases lp_cases (year + k) with ⟨_, _, _, e, f⟩ | ⟨_, e, f⟩
          · rw [e] at HL
            rw [f] at HS
            clear e f
            go_wp2_with fail
            refine (HL.out _).mono ?_
            rintro e w' ⟨rfl, rfl⟩
            go_wp2
            go_round
            case rel => exact ⟨k + 1, rfl, by omega, by omega, by rw [HS.out]⟩
            case measure => simp [intOf]; omega
          · rw [e] at HL
            rw [f] at HS
            clear e f
            go_wp2_with fail
            refine (HL.out _).mono ?_
            rintro e w' ⟨rfl, rfl⟩
            go_wp2
            go_round
            case rel => exact ⟨k + 1, rfl, by omega, by omega, by rw [HS.out, Int.add_zero]⟩
            case measure => simp [intOf]; omega
        · obtain rfl : k = 128 := by omega
          rw [HA.out]
          go_wp2
          go_ret
          exact ⟨by first | rfl | simp, A2⟩

theorem own : ownKnob Tryd.prog.godebug = none := by kernel_rfl
theorem laidOut : laidOutB Tryd.prog = true := by kernel_rfl

set_option maxRecDepth 100000 in
theorem contract (H : Type) (enc : TypeId × Value → H) (W : World) (base : Nat) (args : Array Value) (ds gs : List (DataW H)) (before : List MemPlace)
    (hval : ∀ (j : Nat) t v, Tryd.f5.params[j]? = some t → args[j]? = some v → Value.okWide Tryd.prog W .any base t v)
    (hW : DataW.Whole enc Tryd.prog Tryd.f5.params.toList Rows.calendarLeapsSpec.vars false W args.toList ds gs before) (hsz0 : (DataW.weightsEach Tryd.prog (Tryd.f5.params.toList ++ Rows.calendarLeapsSpec.plain.varTypes Tryd.prog) (ds ++ gs)).all (· ≤ reachBytes) = true) (hL : laidMetH Tryd.prog listed W) :
    Calls Tryd.prog 5 args W fun e W' => ∃ v, e = .returned v ∧ Rows.calendarLeapsSpec.post enc Tryd.prog Tryd.f5 false true false false W args v W' := by
  have hW' := hW
  obtain ⟨p, q, hA0, hV, rfl, hfz, hnd⟩ := hW
  have hA : DataW.TrodAll enc Tryd.prog W 0 (fun _ => true) true Tryd.f5.params.toList args.toList ds p := hA0
  have hsz := hsz0
  rw [Tryd.params5] at hA hval hsz
  obtain ⟨v0, vs0, d0, ds0, p0, q0, hargs, rfl, rfl, h0, r0⟩ := trodAll_cons hA
  obtain ⟨rfl, rfl, rfl⟩ := trodAll_nil r0
  obtain rfl : args = #[v0] := by cases args; simp_all
  obtain ⟨rfl, rfl⟩ := trodVars_none hV
  obtain ⟨xs0, rfl, rfl, rfl, z0⟩ := open_int Tryd.underlying3 (hval 0 3 v0 rfl rfl) h0
  clear hA0
  refine (walk xs0 W (tabs_of hL) z0).mono fun e W' ⟨he, bel⟩ => ?_
  subst he
  exact ⟨_, rfl, _, _, _, [], _, [], hW', trodAll_mk1 (shut_bool Tryd.underlying4 _), (trodAll_cons_mk (shut_int Tryd.underlying3 z0) trodAll_mk0), rfl, Below.frame bel _, fun h => by cases h⟩

theorem witness_row (os : Os) {H : Type} (enc : TypeId × Value → H) :
    (OpenSpec.ofChange Rows.calendarLeapsSpec).preRow enc Tryd.prog Tryd.f5 Rows.calendarLeapsRow.domain false Rows.calendarLeapsRow.laid ((laidWorld os).forCall (fun _ _ => 0) ⟨#[], #[.int .i64 0], []⟩).memory #[.int .i64 0] := by
  have hw : (DataW.whole enc Tryd.prog ((laidWorld os).forCall (fun _ _ => 0) ⟨#[], #[.int .i64 0], []⟩).memory Tryd.f5.params.toList Rows.calendarLeapsSpec.vars false (#[.int .i64 0] : Array Value).toList 8).map (fun x => (x.1, x.2.1)) =
      some ([.lit (.int .i64 0)], []) := by kernel_rfl
  obtain ⟨⟨x1, x2, x3⟩, hx, hx1⟩ := Option.map_eq_some_iff.1 hw
  simp only [Prod.mk.injEq] at hx1
  obtain ⟨rfl, rfl⟩ := hx1
  exact OpenSpec.preRow_of_cond 8 hx (by kernel_rfl) (fun k hk => by cases hk) (by kernel_rfl) (laid_met os _)

set_option maxRecDepth 100000 in
theorem lifted (os : Os) (started : os.Started) (H : Type) (enc : TypeId × Value → H) (F : Stop.Interp) :
    ReturnsInHanded {} Tryd.checked os 5 .any ((OpenSpec.ofChange Rows.calendarLeapsSpec).preRow enc Tryd.prog Tryd.f5 Rows.calendarLeapsRow.domain false Rows.calendarLeapsRow.laid) (((OpenSpec.ofChange Rows.calendarLeapsSpec).at F).post enc Tryd.prog Tryd.f5 false true false false) := by
  refine returnsInHanded_of_row (C := Tryd.checked) (s := (OpenSpec.ofChange Rows.calendarLeapsSpec)) own started (by kernel_rfl) Tryd.func5
    (witness_row_atRef (enc := enc) (C := Tryd.checked) false (laidWorld os) #[.int .i64 0] rfl (by kernel_rfl) (by kernel_rfl) (by kernel_rfl) (witness_row os enc)) ?_
  intro W base args ds gs before hval hW _ _ hsz hL _ _
  exact contract H enc W base args ds gs before hval hW hsz hL

theorem row : Rows.CalendarLeapsSaid :=
  OpenClaim.holds_of_cond 5 Tryd.f5 rfl rfl rfl rfl rfl rfl rfl ⟨rfl, rfl, rfl, rfl, rfl⟩ rfl rfl rfl rfl rfl (by kernel_rfl) Tryd.func5 (by kernel_rfl)
    (of_decide_eq_true (by kernel_rfl)) (by unfold Func.isWrapper; rw [if_neg (of_decide_eq_false (by kernel_rfl))]; exact ⟨rfl, rfl⟩)
    (fun os started H enc _ F0 => by rw [OpenClaim.pre_eq_preRow]; exact lifted os started H enc F0)

/-- No parameter wants a stand-in; the program's own looks are off. -/
theorem plain (f : FuncId) (fn : Func) (hf : Tryd.pinned.checked.prog.funcNamed "pentaglot/pentaglotlaw17.CalendarLeaps" = some f) (hfn : Tryd.pinned.checked.prog.funcs[f]? = some fn) :
    false = Tryd.pinned.checked.prog.looks [] ∧ ∀ (j : Nat) t, fn.params[j]? = some t → Tryd.pinned.checked.prog.wantsStandIn t = false := by
  obtain rfl : f = 5 := Option.some.inj ((show Tryd.prog.funcNamed "pentaglot/pentaglotlaw17.CalendarLeaps" = some 5 by kernel_rfl).symm.trans hf) |>.symm
  obtain rfl : fn = Tryd.f5 := (Option.some.inj (Tryd.func5.symm.trans hfn)).symm
  refine ⟨by kernel_rfl, fun j t ht => ?_⟩
  rw [Tryd.params5] at ht
  have hm : t = 3 := by simpa using Array.mem_of_getElem? ht
  rcases hm with rfl
  · exact (show Tryd.prog.wantsStandIn 3 = false by kernel_rfl)

theorem proved : Rows.CalendarLeapsCardSaid :=
  Claim7.holds_tied_plain_at .later [] _ _ _ _ row (fun _ h => by cases h) (by kernel_rfl) (fun _ h => by cases h) calendarLeaps_row_tie rfl ⟨rfl, rfl⟩ (by kernel_rfl) rfl plain (by kernel_rfl)
#print axioms proved
end Go.Proofs.YtdeojpmimhagjaaDoor.lawCLeaps
