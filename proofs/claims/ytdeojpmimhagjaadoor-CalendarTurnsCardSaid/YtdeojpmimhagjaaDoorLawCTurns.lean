/-
  Number and name both advance each day, and the same pair returns after 260 days and not before: the law CalendarTurns returns true. (a tied card: pruned copy of the program; the table of the months' lengths holds what its text lays).
-/
import Derived.Test.YtdeojpmimhagjaaDoorCalFrame
import Derived.Test.YtdeojpmimhagjaaDoorCalAwake
import Derived.Test.YtdeojpmimhagjaaDoorCards
import Derived.Test.YtdeojpmimhagjaaDoorTie
import Derived.Deep.DeepHandedRow
import Derived.Deep.DeepWitnessRowRef
import Derived.SevenTiedAt
namespace Go.Proofs.YtdeojpmimhagjaaDoor.lawCTurns
open Go.ChangeShapes Go.WideShapes Go.ChangeAt Go.RowKit
open CalPlain

set_option maxRecDepth 100000 in
set_option maxHeartbeats 1600000 in
theorem walk (n k : Int) (w : World) (ht : Tab w) (_ : (Lit.int .i64 n).wf = true)(_ : (Lit.int .i64 k).wf = true) :
    Calls Tryd.prog 13 #[.int .i64 n, .int .i64 k] w (BoolPost w true) := by
  by_cases h0 : n < 0
  · go_enter Tryd.func13, Tryd.ntmps13
    go_wp2_with fail
    refine (awake_any _ (ht.aft (Aft.refl w))).mono ?_
    rintro e v1 ⟨rfl, N1⟩
    have A2 := (Aft.refl w).trans N1
    go_wp2_with fail
    refine (awake_any _ (ht.aft A2)).mono ?_
    rintro e v2 ⟨rfl, N3⟩
    have A4 := A2.trans N3
    go_wp2
    go_ret
    exact ⟨by first | rfl | simp, A4⟩
  · by_cases h1 : 999738 < n
    · go_enter Tryd.func13, Tryd.ntmps13
      go_wp2_with fail
      refine (awake_any _ (ht.aft (Aft.refl w))).mono ?_
      rintro e v1 ⟨rfl, N1⟩
      have A2 := (Aft.refl w).trans N1
      go_wp2_with fail
      refine (awake_any _ (ht.aft A2)).mono ?_
      rintro e v2 ⟨rfl, N3⟩
      have A4 := A2.trans N3
      go_wp2
      go_ret
      exact ⟨by first | rfl | simp, A4⟩
    · by_cases h2 : k < 1
      · go_enter Tryd.func13, Tryd.ntmps13
        go_wp2_with fail
        refine (awake_any _ (ht.aft (Aft.refl w))).mono ?_
        rintro e v1 ⟨rfl, N1⟩
        have A2 := (Aft.refl w).trans N1
        go_wp2_with fail
        refine (awake_any _ (ht.aft A2)).mono ?_
        rintro e v2 ⟨rfl, N3⟩
        have A4 := A2.trans N3
        go_wp2
        go_ret
        exact ⟨by first | rfl | simp, A4⟩
      · by_cases h3 : 260 < k
        · go_enter Tryd.func13, Tryd.ntmps13
          go_wp2_with fail
          refine (awake_any _ (ht.aft (Aft.refl w))).mono ?_
          rintro e v1 ⟨rfl, N1⟩
          have A2 := (Aft.refl w).trans N1
          go_wp2_with fail
          refine (awake_any _ (ht.aft A2)).mono ?_
          rintro e v2 ⟨rfl, N3⟩
          have A4 := A2.trans N3
          go_wp2
          go_ret
          exact ⟨by first | rfl | simp, A4⟩
        · have H1 := Lib.hid (fun w => CycleDate_any n w)
          have H2 := Lib.hid (fun w => CycleDate_any (n + 1) w)
          have H3 := Lib.hid (fun w => CycleDate_any (n + k) w)
          obtain ⟨e0, e1, e2, e3, e4⟩ := cy_in (n := n) (by omega) (by omega)
          rw [e0, e1, e2, e3, e4] at H1
          clear e0 e1 e2 e3 e4
          obtain ⟨e0, e1, e2, e3, e4⟩ := cy_in (n := (n + 1)) (by omega) (by omega)
          rw [e0, e1, e2, e3, e4] at H2
          clear e0 e1 e2 e3 e4
          obtain ⟨e0, e1, e2, e3, e4⟩ := cy_in (n := (n + k)) (by omega) (by omega)
          rw [e0, e1, e2, e3, e4] at H3
          clear e0 e1 e2 e3 e4
          have g1 : ((n + 1) % 13 + 1 == (n % 13 + 1) % 13 + 1) = true := by simp <;> omega
          have g2 : ((n + 1) % 20 == (n % 20 + 1) % 20) = true := by simp <;> omega
          have g3 : (((n + k) % 13 + 1 == n % 13 + 1) = true ∧ ((n + k) % 20 == n % 20) = true ∧ (k == 260) = true) ∨ (((n + k) % 13 + 1 == n % 13 + 1) = false ∧ (k == 260) = false) ∨ (((n + k) % 13 + 1 == n % 13 + 1) = true ∧ ((n + k) % 20 == n % 20) = false ∧ (k == 260) = false) := by
            by_cases e : (n + k) % 13 = n % 13
            · by_cases f : (n + k) % 20 = n % 20
              · left; simp <;> omega
              · right; right; simp <;> omega
            · right; left; simp <;> omega
          have hr1 : 0 ≤ n % 13 + 1 ∧ n % 13 + 1 ≤ 13 := by omega
          have hr2 : 0 ≤ n % 20 ∧ n % 20 ≤ 19 := by omega
          generalize (n + 1) % 13 + 1 = pb2 at *
          generalize (n + k) % 13 + 1 = pc2 at *
          generalize n % 13 + 1 = pa2 at *
          generalize (n + 1) % 20 = pb3 at *
          generalize (n + k) % 20 = pc3 at *
          generalize n % 20 = pa3 at *
          generalize n / 260 = pa1 at *
          generalize (n + 1) / 260 = pb1 at *
          generalize (n + k) / 260 = pc1 at *
          rcases g3 with ⟨g3, g4, g5⟩ | ⟨g3, g5⟩ | ⟨g3, g4, g5⟩
          all_goals
            go_enter Tryd.func13, Tryd.ntmps13
            go_wp2_with fail
            refine (awake_any _ (ht.aft (Aft.refl w))).mono ?_
            rintro e v1 ⟨rfl, N1⟩
            have A2 := (Aft.refl w).trans N1
            go_wp2_with fail
            refine (H1.out _).mono ?_
            rintro e v2 ⟨rfl, N3⟩
            have A4 := A2.trans N3
            have b5 := BoxD.new v2 3 pa1 pa2 pa3 false
            have A6 := A4.alloc (.cells #[.int .i64 3, .int .i64 pa1, .int .i64 pa2, .int .i64 pa3, .bool false] 30)
            go_wp2_with fail
            refine (H2.out _).mono ?_
            rintro e v3 ⟨rfl, N7⟩
            have A8 := A6.trans N7
            have b9 := b5.aft N7
            clear b5
            have b10 := b9.aft ((Aft.refl v3).alloc (.cells #[.int .i64 3, .int .i64 pb1, .int .i64 pb2, .int .i64 pb3, .bool false] 30))
            clear b9
            have b11 := BoxD.new v3 3 pb1 pb2 pb3 false
            have A12 := A8.alloc (.cells #[.int .i64 3, .int .i64 pb1, .int .i64 pb2, .int .i64 pb3, .bool false] 30)
            go_wp2_with fail
            refine (H3.out _).mono ?_
            rintro e v4 ⟨rfl, N13⟩
            have A14 := A12.trans N13
            have b15 := b10.aft N13
            clear b10
            have b16 := b11.aft N13
            clear b11
            have b17 := b15.aft ((Aft.refl v4).alloc (.cells #[.int .i64 3, .int .i64 pc1, .int .i64 pc2, .int .i64 pc3, .bool false] 30))
            clear b15
            have b18 := b16.aft ((Aft.refl v4).alloc (.cells #[.int .i64 3, .int .i64 pc1, .int .i64 pc2, .int .i64 pc3, .bool false] 30))
            clear b16
            have b19 := BoxD.new v4 3 pc1 pc2 pc3 false
            have A20 := A14.alloc (.cells #[.int .i64 3, .int .i64 pc1, .int .i64 pc2, .int .i64 pc3, .bool false] 30)
            obtain ⟨c21, c22, c23, c24, c25⟩ := b17.five
            clear b17
            obtain ⟨c26, c27, c28, c29, c30⟩ := b18.five
            clear b18
            obtain ⟨c31, c32, c33, c34, c35⟩ := b19.five
            clear b19
            go_wp2
            go_ret
            exact ⟨by first | rfl | simp, A20⟩

theorem own : ownKnob Tryd.prog.godebug = none := by kernel_rfl
theorem laidOut : laidOutB Tryd.prog = true := by kernel_rfl

set_option maxRecDepth 100000 in
theorem contract (H : Type) (enc : TypeId × Value → H) (W : World) (base : Nat) (args : Array Value) (ds gs : List (DataW H)) (before : List MemPlace)
    (hval : ∀ (j : Nat) t v, Tryd.f13.params[j]? = some t → args[j]? = some v → Value.okWide Tryd.prog W .any base t v)
    (hW : DataW.Whole enc Tryd.prog Tryd.f13.params.toList Rows.calendarTurnsSpec.vars false W args.toList ds gs before) (hsz0 : (DataW.weightsEach Tryd.prog (Tryd.f13.params.toList ++ Rows.calendarTurnsSpec.plain.varTypes Tryd.prog) (ds ++ gs)).all (· ≤ reachBytes) = true) (hL : laidMetH Tryd.prog listed W) :
    Calls Tryd.prog 13 args W fun e W' => ∃ v, e = .returned v ∧ Rows.calendarTurnsSpec.post enc Tryd.prog Tryd.f13 false true false false W args v W' := by
  have hW' := hW
  obtain ⟨p, q, hA0, hV, rfl, hfz, hnd⟩ := hW
  have hA : DataW.TrodAll enc Tryd.prog W 0 (fun _ => true) true Tryd.f13.params.toList args.toList ds p := hA0
  have hsz := hsz0
  rw [Tryd.params13] at hA hval hsz
  obtain ⟨v0, vs0, d0, ds0, p0, q0, hargs, rfl, rfl, h0, r0⟩ := trodAll_cons hA
  obtain ⟨v1, vs1, d1, ds1, p1, q1, rfl, rfl, rfl, h1, r1⟩ := trodAll_cons r0
  obtain ⟨rfl, rfl, rfl⟩ := trodAll_nil r1
  obtain rfl : args = #[v0, v1] := by cases args; simp_all
  obtain ⟨rfl, rfl⟩ := trodVars_none hV
  obtain ⟨xs0, rfl, rfl, rfl, z0⟩ := open_int Tryd.underlying3 (hval 0 3 v0 rfl rfl) h0
  obtain ⟨xs1, rfl, rfl, rfl, z1⟩ := open_int Tryd.underlying3 (hval 1 3 v1 rfl rfl) h1
  clear hA0
  refine (walk xs0 xs1 W (tabs_of hL) z0 z1).mono fun e W' ⟨he, bel⟩ => ?_
  subst he
  exact ⟨_, rfl, _, _, _, [], _, [], hW', trodAll_mk1 (shut_bool Tryd.underlying4 _), (trodAll_cons_mk (shut_int Tryd.underlying3 z0) (trodAll_cons_mk (shut_int Tryd.underlying3 z1) trodAll_mk0)), rfl, Below.frame bel _, fun h => by cases h⟩

theorem witness_row (os : Os) {H : Type} (enc : TypeId × Value → H) :
    (OpenSpec.ofChange Rows.calendarTurnsSpec).preRow enc Tryd.prog Tryd.f13 Rows.calendarTurnsRow.domain false Rows.calendarTurnsRow.laid ((laidWorld os).forCall (fun _ _ => 0) ⟨#[], #[.int .i64 0, .int .i64 0], []⟩).memory #[.int .i64 0, .int .i64 0] := by
  have hw : (DataW.whole enc Tryd.prog ((laidWorld os).forCall (fun _ _ => 0) ⟨#[], #[.int .i64 0, .int .i64 0], []⟩).memory Tryd.f13.params.toList Rows.calendarTurnsSpec.vars false (#[.int .i64 0, .int .i64 0] : Array Value).toList 8).map (fun x => (x.1, x.2.1)) =
      some ([.lit (.int .i64 0), .lit (.int .i64 0)], []) := by kernel_rfl
  obtain ⟨⟨x1, x2, x3⟩, hx, hx1⟩ := Option.map_eq_some_iff.1 hw
  simp only [Prod.mk.injEq] at hx1
  obtain ⟨rfl, rfl⟩ := hx1
  exact OpenSpec.preRow_of_cond 8 hx (by kernel_rfl) (fun k hk => by cases hk) (by kernel_rfl) (laid_met os _)

set_option maxRecDepth 100000 in
theorem lifted (os : Os) (started : os.Started) (H : Type) (enc : TypeId × Value → H) (F : Stop.Interp) :
    ReturnsInHanded {} Tryd.checked os 13 .any ((OpenSpec.ofChange Rows.calendarTurnsSpec).preRow enc Tryd.prog Tryd.f13 Rows.calendarTurnsRow.domain false Rows.calendarTurnsRow.laid) (((OpenSpec.ofChange Rows.calendarTurnsSpec).at F).post enc Tryd.prog Tryd.f13 false true false false) := by
  refine returnsInHanded_of_row (C := Tryd.checked) (s := (OpenSpec.ofChange Rows.calendarTurnsSpec)) own started (by kernel_rfl) Tryd.func13
    (witness_row_atRef (enc := enc) (C := Tryd.checked) false (laidWorld os) #[.int .i64 0, .int .i64 0] rfl (by kernel_rfl) (by kernel_rfl) (by kernel_rfl) (witness_row os enc)) ?_
  intro W base args ds gs before hval hW _ _ hsz hL _ _
  exact contract H enc W base args ds gs before hval hW hsz hL

theorem row : Rows.CalendarTurnsSaid :=
  OpenClaim.holds_of_cond 13 Tryd.f13 rfl rfl rfl rfl rfl rfl rfl ⟨rfl, rfl, rfl, rfl, rfl⟩ rfl rfl rfl rfl rfl (by kernel_rfl) Tryd.func13 (by kernel_rfl)
    (of_decide_eq_true (by kernel_rfl)) (by unfold Func.isWrapper; rw [if_neg (of_decide_eq_false (by kernel_rfl))]; exact ⟨rfl, rfl⟩)
    (fun os started H enc _ F0 => by rw [OpenClaim.pre_eq_preRow]; exact lifted os started H enc F0)

/-- No parameter wants a stand-in; the program's own looks are off. -/
theorem plain (f : FuncId) (fn : Func) (hf : Tryd.pinned.checked.prog.funcNamed "pentaglot/pentaglotlaw17.CalendarTurns" = some f) (hfn : Tryd.pinned.checked.prog.funcs[f]? = some fn) :
    false = Tryd.pinned.checked.prog.looks [] ∧ ∀ (j : Nat) t, fn.params[j]? = some t → Tryd.pinned.checked.prog.wantsStandIn t = false := by
  obtain rfl : f = 13 := Option.some.inj ((show Tryd.prog.funcNamed "pentaglot/pentaglotlaw17.CalendarTurns" = some 13 by kernel_rfl).symm.trans hf) |>.symm
  obtain rfl : fn = Tryd.f13 := (Option.some.inj (Tryd.func13.symm.trans hfn)).symm
  refine ⟨by kernel_rfl, fun j t ht => ?_⟩
  rw [Tryd.params13] at ht
  have hm : t = 3 ∨ t = 3 := by simpa using Array.mem_of_getElem? ht
  rcases hm with rfl | rfl
  · exact (show Tryd.prog.wantsStandIn 3 = false by kernel_rfl)
  · exact (show Tryd.prog.wantsStandIn 3 = false by kernel_rfl)

theorem proved : Rows.CalendarTurnsCardSaid :=
  Claim7.holds_tied_plain_at .later [] _ _ _ _ row (fun _ h => by cases h) (by kernel_rfl) (fun _ h => by cases h) calendarTurns_row_tie rfl ⟨rfl, rfl⟩ (by kernel_rfl) rfl plain (by kernel_rfl)
#print axioms proved
end Go.Proofs.YtdeojpmimhagjaaDoor.lawCTurns
