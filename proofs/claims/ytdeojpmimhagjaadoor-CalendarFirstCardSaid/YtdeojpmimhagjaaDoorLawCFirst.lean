/-
  The day that Next returns has the number and the name, and is at most 260 days later; asking again from that day gives the same 260 days later: the law CalendarFirst returns true. (a tied card: pruned copy of the program; the table of the months' lengths holds what its text lays).
-/
import Derived.Test.YtdeojpmimhagjaaDoorCalFrame
import Derived.Test.YtdeojpmimhagjaaDoorCalAwake
import Derived.Test.YtdeojpmimhagjaaDoorCalNext
import Derived.Test.YtdeojpmimhagjaaDoorCards
import Derived.Test.YtdeojpmimhagjaaDoorTie
import Derived.Deep.DeepHandedRow
import Derived.Deep.DeepWitnessRowRef
import Derived.SevenTiedAt
namespace Go.Proofs.YtdeojpmimhagjaaDoor.lawCFirst
open Go.ChangeShapes Go.WideShapes Go.ChangeAt Go.RowKit
open CalPlain

set_option maxRecDepth 100000 in
set_option maxHeartbeats 1600000 in
theorem walk (u v s : Int) (w : World) (ht : Tab w) (_ : (Lit.int .i64 u).wf = true)(_ : (Lit.int .i64 v).wf = true)(_ : (Lit.int .i64 s).wf = true) :
    Calls Tryd.prog 15 #[.int .i64 u, .int .i64 v, .int .i64 s] w (BoolPost w true) := by
  have H1 := Lib.hid (fun w => Next_any u v s w)
  have HD := Lib.hid (show (∃ r : Int, nextV u v s = (r, 0) ∧ s < r ∧ r ≤ s + 260 ∧ 0 ≤ r ∧ r ≤ 999999 ∧ r % 13 + 1 = u ∧ r % 20 = v ∧ (nextV u v r = (r + 260, 0) ∨ (nextV u v r = (0, 2) ∧ 999739 < r))) ∨ (∃ E2 : Int, E2 ≠ 0 ∧ nextV u v s = (0, E2)) by
    by_cases h : pairB u v = false ∨ s < -1
    · exact .inr ⟨1, by decide, nextV_bad h⟩
    · have hp : pairB u v = true := by
        cases hq : pairB u v
        · exact absurd (Or.inl hq) h
        · rfl
      have hs : ¬ s < -1 := fun k => h (Or.inr k)
      by_cases h2 : 999999 ≤ s
      · exact .inr ⟨2, by decide, nextV_far hp hs h2⟩
      · by_cases h3 : nx (u - 1) v (s + 1) ≤ 999999
        · obtain ⟨p1, p2, p3, p4⟩ := pair_yes hp
          have hg := nx_ge (u - 1) v (s + 1)
          obtain ⟨a1, a2⟩ := nx_pair (s := s + 1) (show 0 ≤ u - 1 by omega) (show u - 1 < 13 by omega) p3 p4
          refine .inl ⟨_, nextV_ok hp hs h2 h3, by omega, by omega, by omega, h3, by omega, a2, ?_⟩
          generalize nx (u - 1) v (s + 1) = r at *
          by_cases h4 : 999999 ≤ r
          · exact .inr ⟨nextV_far hp (by omega) h4, by omega⟩
          · have hr : nx (u - 1) v (r + 1) = r + 260 := by
              have h5 := nx_ge (u - 1) v (r + 1)
              obtain ⟨c1, c2⟩ := nx_pair (s := r + 1) (show 0 ≤ u - 1 by omega) (show u - 1 < 13 by omega) p3 p4
              generalize nx (u - 1) v (r + 1) = t at *
              omega
            by_cases h6 : r + 260 ≤ 999999
            · left
              have h7 := nextV_ok (u := u) (v := v) (s := r) hp (by omega) h4 (by rw [hr]; exact h6)
              rw [hr] at h7
              exact h7
            · exact .inr ⟨nextV_big hp (by omega) h4 (by rw [hr]; exact h6), by omega⟩
        · exact .inr ⟨2, by decide, nextV_big hp hs h2 h3⟩)
  rcases HD.out with ⟨r, hv, r0, r1, r2, r3, r4, r5, r6⟩ | ⟨E2, hE2, hv⟩
  · clear HD
    rw [hv] at H1
    dsimp only at H1
    have H2 := Lib.hid (fun w => CycleDate_any r w)
    have H3 := Lib.hid (fun w => Next_any u v r w)
    obtain ⟨e0, e1, e2, e3, e4⟩ := cy_in r2 r3
    rw [e0, e1, e2, e3, e4, r4, r5] at H2
    clear e0 e1 e2 e3 e4 r4 r5 hv
    rcases r6 with hn2 | ⟨hn2, r7⟩
    · rw [hn2] at H3
      dsimp only at H3
      go_enter Tryd.func15, Tryd.ntmps15
      go_wp2_with fail
      refine (H1.out _).mono ?_
      rintro e v1 ⟨rfl, N1⟩
      have A2 := (Aft.refl w).trans N1
      go_wp2_with fail
      refine (awake_any _ (ht.aft A2)).mono ?_
      rintro e v2 ⟨rfl, N3⟩
      have A4 := A2.trans N3
      go_wp2_with fail
      refine (H2.out _).mono ?_
      rintro e v3 ⟨rfl, N5⟩
      have A6 := A4.trans N5
      have b7 := BoxD.new v3 3 ((r / 260)) u v false
      have A8 := A6.alloc (.cells #[.int .i64 3, .int .i64 ((r / 260)), .int .i64 u, .int .i64 v, .bool false] 30)
      go_wp2_with fail
      refine (H3.out _).mono ?_
      rintro e v4 ⟨rfl, N9⟩
      have A10 := A8.trans N9
      have b11 := b7.aft N9
      clear b7
      obtain ⟨c12, c13, c14, c15, c16⟩ := b11.five
      clear b11
      go_wp2
      go_ret
      exact ⟨by first | rfl | (simp; done) | (simp; omega), A10⟩
    · rw [hn2] at H3
      dsimp only at H3
      go_enter Tryd.func15, Tryd.ntmps15
      go_wp2_with fail
      refine (H1.out _).mono ?_
      rintro e v1 ⟨rfl, N1⟩
      have A2 := (Aft.refl w).trans N1
      go_wp2_with fail
      refine (awake_any _ (ht.aft A2)).mono ?_
      rintro e v2 ⟨rfl, N3⟩
      have A4 := A2.trans N3
      go_wp2_with fail
      refine (H2.out _).mono ?_
      rintro e v3 ⟨rfl, N5⟩
      have A6 := A4.trans N5
      have b7 := BoxD.new v3 3 ((r / 260)) u v false
      have A8 := A6.alloc (.cells #[.int .i64 3, .int .i64 ((r / 260)), .int .i64 u, .int .i64 v, .bool false] 30)
      go_wp2_with fail
      refine (H3.out _).mono ?_
      rintro e v4 ⟨rfl, N9⟩
      have A10 := A8.trans N9
      have b11 := b7.aft N9
      clear b7
      obtain ⟨c12, c13, c14, c15, c16⟩ := b11.five
      clear b11
      go_wp2
      go_ret
      exact ⟨by first | rfl | (simp; done) | (simp; omega), A10⟩
  · clear HD
    rw [hv] at H1
    dsimp only at H1
    have hE2b : (E2 != 0) = true := by simp [hE2]
    have hE2c : (E2 == 0) = false := by simp [hE2]
    clear hv
    go_enter Tryd.func15, Tryd.ntmps15
    go_wp2_with fail
    refine (H1.out _).mono ?_
    rintro e v1 ⟨rfl, N1⟩
    have A2 := (Aft.refl w).trans N1
    go_wp2_with fail
    refine (awake_any _ (ht.aft A2)).mono ?_
    rintro e v2 ⟨rfl, N3⟩
    have A4 := A2.trans N3
    go_wp2_with fail
    refine (awake_any _ (ht.aft A4)).mono ?_
    rintro e v3 ⟨rfl, N5⟩
    have A6 := A4.trans N5
    go_wp2
    go_ret
    exact ⟨by first | rfl | simp, A6⟩

theorem own : ownKnob Tryd.prog.godebug = none := by kernel_rfl
theorem laidOut : laidOutB Tryd.prog = true := by kernel_rfl

set_option maxRecDepth 100000 in
theorem contract (H : Type) (enc : TypeId × Value → H) (W : World) (base : Nat) (args : Array Value) (ds gs : List (DataW H)) (before : List MemPlace)
    (hval : ∀ (j : Nat) t v, Tryd.f15.params[j]? = some t → args[j]? = some v → Value.okWide Tryd.prog W .any base t v)
    (hW : DataW.Whole enc Tryd.prog Tryd.f15.params.toList Rows.calendarFirstSpec.vars false W args.toList ds gs before) (hsz0 : (DataW.weightsEach Tryd.prog (Tryd.f15.params.toList ++ Rows.calendarFirstSpec.plain.varTypes Tryd.prog) (ds ++ gs)).all (· ≤ reachBytes) = true) (hL : laidMetH Tryd.prog listed W) :
    Calls Tryd.prog 15 args W fun e W' => ∃ v, e = .returned v ∧ Rows.calendarFirstSpec.post enc Tryd.prog Tryd.f15 false true false false W args v W' := by
  have hW' := hW
  obtain ⟨p, q, hA0, hV, rfl, hfz, hnd⟩ := hW
  have hA : DataW.TrodAll enc Tryd.prog W 0 (fun _ => true) true Tryd.f15.params.toList args.toList ds p := hA0
  have hsz := hsz0
  rw [Tryd.params15] at hA hval hsz
  obtain ⟨v0, vs0, d0, ds0, p0, q0, hargs, rfl, rfl, h0, r0⟩ := trodAll_cons hA
  obtain ⟨v1, vs1, d1, ds1, p1, q1, rfl, rfl, rfl, h1, r1⟩ := trodAll_cons r0
  obtain ⟨v2, vs2, d2, ds2, p2, q2, rfl, rfl, rfl, h2, r2⟩ := trodAll_cons r1
  obtain ⟨rfl, rfl, rfl⟩ := trodAll_nil r2
  obtain rfl : args = #[v0, v1, v2] := by cases args; simp_all
  obtain ⟨rfl, rfl⟩ := trodVars_none hV
  obtain ⟨xs0, rfl, rfl, rfl, z0⟩ := open_int Tryd.underlying3 (hval 0 3 v0 rfl rfl) h0
  obtain ⟨xs1, rfl, rfl, rfl, z1⟩ := open_int Tryd.underlying3 (hval 1 3 v1 rfl rfl) h1
  obtain ⟨xs2, rfl, rfl, rfl, z2⟩ := open_int Tryd.underlying3 (hval 2 3 v2 rfl rfl) h2
  clear hA0
  refine (walk xs0 xs1 xs2 W (tabs_of hL) z0 z1 z2).mono fun e W' ⟨he, bel⟩ => ?_
  subst he
  exact ⟨_, rfl, _, _, _, [], _, [], hW', trodAll_mk1 (shut_bool Tryd.underlying4 _), (trodAll_cons_mk (shut_int Tryd.underlying3 z0) (trodAll_cons_mk (shut_int Tryd.underlying3 z1) (trodAll_cons_mk (shut_int Tryd.underlying3 z2) trodAll_mk0))), rfl, Below.frame bel _, fun h => by cases h⟩

theorem witness_row (os : Os) {H : Type} (enc : TypeId × Value → H) :
    (OpenSpec.ofChange Rows.calendarFirstSpec).preRow enc Tryd.prog Tryd.f15 Rows.calendarFirstRow.domain false Rows.calendarFirstRow.laid ((laidWorld os).forCall (fun _ _ => 0) ⟨#[], #[.int .i64 0, .int .i64 0, .int .i64 0], []⟩).memory #[.int .i64 0, .int .i64 0, .int .i64 0] := by
  have hw : (DataW.whole enc Tryd.prog ((laidWorld os).forCall (fun _ _ => 0) ⟨#[], #[.int .i64 0, .int .i64 0, .int .i64 0], []⟩).memory Tryd.f15.params.toList Rows.calendarFirstSpec.vars false (#[.int .i64 0, .int .i64 0, .int .i64 0] : Array Value).toList 8).map (fun x => (x.1, x.2.1)) =
      some ([.lit (.int .i64 0), .lit (.int .i64 0), .lit (.int .i64 0)], []) := by kernel_rfl
  obtain ⟨⟨x1, x2, x3⟩, hx, hx1⟩ := Option.map_eq_some_iff.1 hw
  simp only [Prod.mk.injEq] at hx1
  obtain ⟨rfl, rfl⟩ := hx1
  exact OpenSpec.preRow_of_cond 8 hx (by kernel_rfl) (fun k hk => by cases hk) (by kernel_rfl) (laid_met os _)

set_option maxRecDepth 100000 in
theorem lifted (os : Os) (started : os.Started) (H : Type) (enc : TypeId × Value → H) (F : Stop.Interp) :
    ReturnsInHanded {} Tryd.checked os 15 .any ((OpenSpec.ofChange Rows.calendarFirstSpec).preRow enc Tryd.prog Tryd.f15 Rows.calendarFirstRow.domain false Rows.calendarFirstRow.laid) (((OpenSpec.ofChange Rows.calendarFirstSpec).at F).post enc Tryd.prog Tryd.f15 false true false false) := by
  refine returnsInHanded_of_row (C := Tryd.checked) (s := (OpenSpec.ofChange Rows.calendarFirstSpec)) own started (by kernel_rfl) Tryd.func15
    (witness_row_atRef (enc := enc) (C := Tryd.checked) false (laidWorld os) #[.int .i64 0, .int .i64 0, .int .i64 0] rfl (by kernel_rfl) (by kernel_rfl) (by kernel_rfl) (witness_row os enc)) ?_
  intro W base args ds gs before hval hW _ _ hsz hL _ _
  exact contract H enc W base args ds gs before hval hW hsz hL

theorem row : Rows.CalendarFirstSaid :=
  OpenClaim.holds_of_cond 15 Tryd.f15 rfl rfl rfl rfl rfl rfl rfl ⟨rfl, rfl, rfl, rfl, rfl⟩ rfl rfl rfl rfl rfl (by kernel_rfl) Tryd.func15 (by kernel_rfl)
    (of_decide_eq_true (by kernel_rfl)) (by unfold Func.isWrapper; rw [if_neg (of_decide_eq_false (by kernel_rfl))]; exact ⟨rfl, rfl⟩)
    (fun os started H enc _ F0 => by rw [OpenClaim.pre_eq_preRow]; exact lifted os started H enc F0)

/-- No parameter wants a stand-in; the program's own looks are off. -/
theorem plain (f : FuncId) (fn : Func) (hf : Tryd.pinned.checked.prog.funcNamed "pentaglot/pentaglotlaw17.CalendarFirst" = some f) (hfn : Tryd.pinned.checked.prog.funcs[f]? = some fn) :
    false = Tryd.pinned.checked.prog.looks [] ∧ ∀ (j : Nat) t, fn.params[j]? = some t → Tryd.pinned.checked.prog.wantsStandIn t = false := by
  obtain rfl : f = 15 := Option.some.inj ((show Tryd.prog.funcNamed "pentaglot/pentaglotlaw17.CalendarFirst" = some 15 by kernel_rfl).symm.trans hf) |>.symm
  obtain rfl : fn = Tryd.f15 := (Option.some.inj (Tryd.func15.symm.trans hfn)).symm
  refine ⟨by kernel_rfl, fun j t ht => ?_⟩
  rw [Tryd.params15] at ht
  have hm : t = 3 ∨ t = 3 ∨ t = 3 := by simpa using Array.mem_of_getElem? ht
  rcases hm with rfl | rfl | rfl
  · exact (show Tryd.prog.wantsStandIn 3 = false by kernel_rfl)
  · exact (show Tryd.prog.wantsStandIn 3 = false by kernel_rfl)
  · exact (show Tryd.prog.wantsStandIn 3 = false by kernel_rfl)

theorem proved : Rows.CalendarFirstCardSaid :=
  Claim7.holds_tied_plain_at .later [] _ _ _ _ row (fun _ h => by cases h) (by kernel_rfl) (fun _ h => by cases h) calendarFirst_row_tie rfl ⟨rfl, rfl⟩ (by kernel_rfl) rfl plain (by kernel_rfl)
#print axioms proved
end Go.Proofs.YtdeojpmimhagjaaDoor.lawCFirst
