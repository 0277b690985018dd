/-
  For every year, Months returns the first days of its months in order, and the lengths of these months add up to YearDays: the law LunisolarMonths returns true. (a tied card: pruned copy of the program; the table of the months' lengths holds what its text lays).
-/
import Derived.Test.YtdeojpmimhagjabDoorLunFrame
import Derived.Test.YtdeojpmimhagjabDoorLunAwake
import Derived.Test.YtdeojpmimhagjabDoorLunRef
import Derived.Test.YtdeojpmimhagjabDoorCards
import Derived.Test.YtdeojpmimhagjabDoorTie
import Derived.Deep.DeepHandedRow
import Derived.Deep.DeepWitnessRowRef
import Derived.SevenTiedAt
namespace Go.Proofs.YtdeojpmimhagjabDoor.lawNMonths
open Go.ChangeShapes Go.WideShapes Go.ChangeAt Go.RowKit
open LunPlain

set_option maxRecDepth 100000 in
set_option maxHeartbeats 1600000 in
theorem walk (year : Int) (w : World) (ht : Tab w) (_ : (Lit.int .i64 year).wf = true) :
    Calls Tryd.prog 5 #[.int .i64 year] w (BoolPost w true) := by
  by_cases h0 : year < 0
  · have H1 := Lib.hid (fun w => Months_any year w)
    have H2 := Lib.hid (fun w => refMonths_any year w)
    have H3 := Lib.hid (fun w => yd_any year w)
    rw [yd_neg h0] at H3
    go_enter Tryd.func5, Tryd.ntmps5
    go_wp2_with fail
    refine (awake_t _ (ht.aft (Aft.refl w))).mono ?_
    rintro e v1 ⟨rfl, N1⟩
    have A2 := (Aft.refl w).trans N1
    go_wp2_with fail
    refine (H1.out _).mono ?_
    rintro e v2 ⟨A, cp, rfl, hms, N2⟩
    rw [if_pos h0] at hms ⊢
    have hcp := hms.le
    have hcm := hms.cmax
    have HM := Lib.hid hms
    clear hms
    have A2 := A2.trans N2
    go_wp2
    go_loopw [4, 5] (fun s i wr => s = .int .i64 0 ∧ i = .int .i64 0 ∧ Aft v2 wr) (fun _ _ _ => 0)
    case atStart => exact ⟨rfl, rfl, Aft.refl _⟩
    case round =>
      obtain ⟨rfl, rfl, haf⟩ := hrel
      go_wp2_with fail
      refine (H2.out _).mono ?_
      rintro e v3 ⟨B, cp2, rfl, hms2, N3⟩
      rw [if_pos h0] at hms2 ⊢
      have hcp2 := hms2.le
      have hcm2 := hms2.cmax
      have HS := Lib.hid (refSame_any A B 0 cp cp2 year (leapB year) v3 ((HM.out.aft haf).aft N3) hms2)
      clear hms2
      go_wp2_with fail
      refine HS.out.mono ?_
      rintro e v4 ⟨rfl, N4⟩
      go_wp2_with fail
      refine (H3.out _).mono ?_
      rintro e w' ⟨rfl, rfl⟩
      go_wp2
      go_ret
      exact ⟨by first | rfl | simp, ((A2.trans haf).trans N3).trans N4⟩
  · have H1 := Lib.hid (fun w => Months_any year w)
    have H2 := Lib.hid (fun w => refMonths_any year w)
    have H3 := Lib.hid (fun w => yd_any year w)
    have hcy := ck_year (y := year) (by omega)
    rw [← hcy] at H3
    clear hcy
    have HZ := Lib.hid (ck_zero (leapB year))
    have HE := Lib.hid (fun (j : Nat) hj => md_ent (y := year) (by omega) (j := j) hj)
    have HSC := Lib.hid (fun (j : Nat) (hj : (j : Int) < nm (leapB year)) => ck_succ (leapB year) (k := (j : Int)) (by omega) hj)
    have hkk := nmN_nm (leapB year)
    have hnb := nm_bd (leapB year)
    rw [← hkk] at H3
    go_enter Tryd.func5, Tryd.ntmps5
    go_wp2_with fail
    refine (awake_t _ (ht.aft (Aft.refl w))).mono ?_
    rintro e v1 ⟨rfl, N1⟩
    have A2 := (Aft.refl w).trans N1
    have HT := Lib.hid (ht.aft A2)
    go_wp2_with fail
    refine (H1.out _).mono ?_
    rintro e v2 ⟨A, cp, rfl, hms, N2⟩
    rw [if_neg (show ¬ year < 0 by omega)] at hms ⊢
    have hcp := hms.le
    have hcm := hms.cmax
    have HM := Lib.hid hms
    have HKK := Lib.hid hkk
    have hnmle : nmN (leapB year) ≤ 13 := by omega
    have HSM := Lib.hid (fun B cp2 w a b => refSame_any A B (nmN (leapB year)) cp cp2 year (leapB year) w a b)
    have HT2 := Lib.hid (HT.out.aft N2)
    clear hms hkk
    have A2 := A2.trans N2
    generalize hNN : nmN (leapB year) = NN at *
    have HNN := Lib.hid hNN
    clear hNN
    go_wp2
    go_loopw [4, 5] (fun s i wr => ∃ j : Nat, j ≤ NN ∧ i = .int .i64 (j : Int) ∧ s = .int .i64 (ck (leapB year) j) ∧ Aft v2 wr) (fun _ i _ => NN - (intOf i).toNat)
    case atStart => exact ⟨0, Nat.zero_le _, rfl, by rw [show ((0 : Nat) : Int) = 0 from rfl, HZ.out], Aft.refl _⟩
    case round =>
      obtain ⟨j, hj, rfl, rfl, haf⟩ := hrel
      by_cases hlt : j < NN
      · obtain ⟨bl, off, rfl, d0, d1, d2, d3, d4⟩ := (HM.out.aft haf).cells j hlt
        have hjn : (j : Int) < nm (leapB year) := by have := HKK.out; omega
        have hji : (j : Int) < (NN : Int) := by omega
        have he := HE.out j hjn
        have HS1 := Lib.hid (HSC.out j hjn)
        have hck := ck_bd (leapB year) (k := (j : Int)) (by omega) (by omega)
        have hmb := md_bd (mo (leapB year) j) (ml (leapB year) j)
        have HMJ := Lib.hid (fun w ht => MonthDays_any 2 year (mo (leapB year) j) 1 (ml (leapB year) j) w ht)
        rw [he] at HMJ
        have HTT := Lib.hid (HT2.out.aft haf)
        clear he
        generalize md (mo (leapB year) j) (ml (leapB year) j) = MD at *
        generalize mo (leapB year) j = MM at *
        generalize ml (leapB year) j = LL at *
        generalize ck (leapB year) j = q at *
        go_wp2_with fail
        refine (HMJ.out _ HTT.out).mono ?_
        rintro e v5 ⟨rfl, N5⟩
        go_wp2
        go_roundw
        case rel => exact ⟨j + 1, by omega, by go_num, by rw [show ((j + 1 : Nat) : Int) = (j : Int) + 1 by omega, HS1.out], haf.trans N5⟩
        case measure => simp [intOf]; omega
      · obtain rfl : j = NN := by omega
        generalize ck (leapB year) j = q at *
        go_wp2_with fail
        refine (H2.out _).mono ?_
        rintro e v3 ⟨B, cp2, rfl, hms2, N3⟩
        rw [if_neg (show ¬ year < 0 by omega), HNN.out] at hms2 ⊢
        have hcp2 := hms2.le
        have hcm2 := hms2.cmax
        have HS := Lib.hid (HSM.out B cp2 v3 ((HM.out.aft haf).aft N3) hms2)
        clear hms2
        go_wp2_with fail
        refine HS.out.mono ?_
        rintro e v4 ⟨rfl, N4⟩
        go_wp2_with fail
        refine (H3.out _).mono ?_
        rintro e w' ⟨rfl, rfl⟩
        go_wp2
        go_ret
        exact ⟨by first | rfl | simp, ((A2.trans haf).trans N3).trans N4⟩

theorem own : ownKnob Tryd.prog.godebug = none := by kernel_rfl
theorem laidOut : laidOutB Tryd.prog = true := by kernel_rfl

set_option maxRecDepth 100000 in
theorem contract (H : Type) (enc : TypeId × Value → H) (W : World) (base : Nat) (args : Array Value) (ds gs : List (DataW H)) (before : List MemPlace)
    (hval : ∀ (j : Nat) t v, Tryd.f5.params[j]? = some t → args[j]? = some v → Value.okWide Tryd.prog W .any base t v)
    (hW : DataW.Whole enc Tryd.prog Tryd.f5.params.toList Rows.lunisolarMonthsSpec.vars false W args.toList ds gs before) (hsz0 : (DataW.weightsEach Tryd.prog (Tryd.f5.params.toList ++ Rows.lunisolarMonthsSpec.plain.varTypes Tryd.prog) (ds ++ gs)).all (· ≤ reachBytes) = true) (hL : laidMetH Tryd.prog listed W) :
    Calls Tryd.prog 5 args W fun e W' => ∃ v, e = .returned v ∧ Rows.lunisolarMonthsSpec.post enc Tryd.prog Tryd.f5 false true false false W args v W' := by
  have hW' := hW
  obtain ⟨p, q, hA0, hV, rfl, hfz, hnd⟩ := hW
  have hA : DataW.TrodAll enc Tryd.prog W 0 (fun _ => true) true Tryd.f5.params.toList args.toList ds p := hA0
  have hsz := hsz0
  rw [Tryd.params5] at hA hval hsz
  obtain ⟨v0, vs0, d0, ds0, p0, q0, hargs, rfl, rfl, h0, r0⟩ := trodAll_cons hA
  obtain ⟨rfl, rfl, rfl⟩ := trodAll_nil r0
  obtain rfl : args = #[v0] := by cases args; simp_all
  obtain ⟨rfl, rfl⟩ := trodVars_none hV
  obtain ⟨xs0, rfl, rfl, rfl, z0⟩ := open_int Tryd.underlying3 (hval 0 3 v0 rfl rfl) h0
  clear hA0
  refine (walk xs0 W (tabs_of hL) z0).mono fun e W' ⟨he, bel⟩ => ?_
  subst he
  exact ⟨_, rfl, _, _, _, [], _, [], hW', trodAll_mk1 (shut_bool Tryd.underlying4 _), (trodAll_cons_mk (shut_int Tryd.underlying3 z0) trodAll_mk0), rfl, Below.frame bel _, fun h => by cases h⟩

theorem witness_row (os : Os) {H : Type} (enc : TypeId × Value → H) :
    (OpenSpec.ofChange Rows.lunisolarMonthsSpec).preRow enc Tryd.prog Tryd.f5 Rows.lunisolarMonthsRow.domain false Rows.lunisolarMonthsRow.laid ((laidWorld os).forCall (fun _ _ => 0) ⟨#[], #[.int .i64 0], []⟩).memory #[.int .i64 0] := by
  have hw : (DataW.whole enc Tryd.prog ((laidWorld os).forCall (fun _ _ => 0) ⟨#[], #[.int .i64 0], []⟩).memory Tryd.f5.params.toList Rows.lunisolarMonthsSpec.vars false (#[.int .i64 0] : Array Value).toList 8).map (fun x => (x.1, x.2.1)) =
      some ([.lit (.int .i64 0)], []) := by kernel_rfl
  obtain ⟨⟨x1, x2, x3⟩, hx, hx1⟩ := Option.map_eq_some_iff.1 hw
  simp only [Prod.mk.injEq] at hx1
  obtain ⟨rfl, rfl⟩ := hx1
  exact OpenSpec.preRow_of_cond 8 hx (by kernel_rfl) (fun k hk => by cases hk) (by kernel_rfl) (laid_met os _)

set_option maxRecDepth 100000 in
theorem lifted (os : Os) (started : os.Started) (H : Type) (enc : TypeId × Value → H) (F : Stop.Interp) :
    ReturnsInHanded {} Tryd.checked os 5 .any ((OpenSpec.ofChange Rows.lunisolarMonthsSpec).preRow enc Tryd.prog Tryd.f5 Rows.lunisolarMonthsRow.domain false Rows.lunisolarMonthsRow.laid) (((OpenSpec.ofChange Rows.lunisolarMonthsSpec).at F).post enc Tryd.prog Tryd.f5 false true false false) := by
  refine returnsInHanded_of_row (C := Tryd.checked) (s := (OpenSpec.ofChange Rows.lunisolarMonthsSpec)) own started (by kernel_rfl) Tryd.func5
    (witness_row_atRef (enc := enc) (C := Tryd.checked) false (laidWorld os) #[.int .i64 0] rfl (by kernel_rfl) (by kernel_rfl) (by kernel_rfl) (witness_row os enc)) ?_
  intro W base args ds gs before hval hW _ _ hsz hL _ _
  exact contract H enc W base args ds gs before hval hW hsz hL

theorem row : Rows.LunisolarMonthsSaid :=
  OpenClaim.holds_of_cond 5 Tryd.f5 rfl rfl rfl rfl rfl rfl rfl ⟨rfl, rfl, rfl, rfl, rfl⟩ rfl rfl rfl rfl rfl (by kernel_rfl) Tryd.func5 (by kernel_rfl)
    (of_decide_eq_true (by kernel_rfl)) (by unfold Func.isWrapper; rw [if_neg (of_decide_eq_false (by kernel_rfl))]; exact ⟨rfl, rfl⟩)
    (fun os started H enc _ F0 => by rw [OpenClaim.pre_eq_preRow]; exact lifted os started H enc F0)

/-- No parameter wants a stand-in; the program's own looks are off. -/
theorem plain (f : FuncId) (fn : Func) (hf : Tryd.pinned.checked.prog.funcNamed "pentaglot/pentaglotlaw18.LunisolarMonths" = some f) (hfn : Tryd.pinned.checked.prog.funcs[f]? = some fn) :
    false = Tryd.pinned.checked.prog.looks [] ∧ ∀ (j : Nat) t, fn.params[j]? = some t → Tryd.pinned.checked.prog.wantsStandIn t = false := by
  obtain rfl : f = 5 := Option.some.inj ((show Tryd.prog.funcNamed "pentaglot/pentaglotlaw18.LunisolarMonths" = some 5 by kernel_rfl).symm.trans hf) |>.symm
  obtain rfl : fn = Tryd.f5 := (Option.some.inj (Tryd.func5.symm.trans hfn)).symm
  refine ⟨by kernel_rfl, fun j t ht => ?_⟩
  rw [Tryd.params5] at ht
  have hm : t = 3 := by simpa using Array.mem_of_getElem? ht
  rcases hm with rfl
  · exact (show Tryd.prog.wantsStandIn 3 = false by kernel_rfl)

theorem proved : Rows.LunisolarMonthsCardSaid :=
  Claim7.holds_tied_plain_at .later [] _ _ _ _ row (fun _ h => by cases h) (by kernel_rfl) (fun _ h => by cases h) lunisolarMonths_row_tie rfl ⟨rfl, rfl⟩ (by kernel_rfl) rfl plain (by kernel_rfl)
#print axioms proved
end Go.Proofs.YtdeojpmimhagjabDoor.lawNMonths
