/-
  CycleDay returns the day of a cycle date, or its error, and inverts CycleDate: the law CalendarRound returns true. (a tied card: pruned copy of the program; the table of the months' lengths holds what its text lays).
-/
import Derived.Test.YtdeojpmimhagjaaDoorCalFrame
import Derived.Test.YtdeojpmimhagjaaDoorCalAwake
import Derived.Test.YtdeojpmimhagjaaDoorCalNext
import Derived.Test.YtdeojpmimhagjaaDoorCards
import Derived.Test.YtdeojpmimhagjaaDoorTie
import Derived.Deep.DeepHandedRow
import Derived.Deep.DeepWitnessRowRef
import Derived.SevenTiedAt
namespace Go.Proofs.YtdeojpmimhagjaaDoor.lawCRound
open Go.ChangeShapes Go.WideShapes Go.ChangeAt Go.RowKit
open CalPlain

set_option maxRecDepth 100000 in
set_option maxHeartbeats 1600000 in
theorem walk (c y m d : Int) (l : Bool) (w : World) (ht : Tab w) (_ : (Lit.int .i64 c).wf = true) (_ : (Lit.int .i64 y).wf = true) (_ : (Lit.int .i64 m).wf = true) (_ : (Lit.int .i64 d).wf = true) :
    Calls Tryd.prog 12 #[(.agg #[.int .i64 c, .int .i64 y, .int .i64 m, .int .i64 d, .bool l])] w (BoolPost w true) := by
  have H1 := Lib.hid (fun w => CycleDay_any c y m d l w)
  have H2 := Lib.hid (fun w => refCycleDay_any c y m d l w)
  have HD := Lib.hid (show (∃ r : Int, cdV c y m d l = (r, 0) ∧ c = 3 ∧ l = false ∧ cyC r = 3 ∧ cyY r = y ∧ cyM r = m ∧ cyD r = d ∧ ckV r = 0) ∨ (∃ E2 : Int, E2 ≠ 0 ∧ cdV c y m d l = (0, E2)) by
    by_cases h : c = 3 ∧ l = false ∧ 0 ≤ y ∧ pairB m d = true
    · obtain ⟨rfl, rfl, h0, hp⟩ := h
      by_cases hf : 3846 < y
      · exact .inr ⟨2, by decide, cdV_far h0 hp hf⟩
      · rw [cdV_in h0 hp hf]
        have e1 : 260 * y - 1 + 1 = 260 * y := by omega
        by_cases hk : nx (m - 1) d (260 * y) ≤ 999999
        · have hv := nextV_ok (u := m) (v := d) (s := 260 * y - 1) hp (by omega) (by omega) (by rw [e1]; exact hk)
          rw [e1] at hv
          have hg := nx_ge (m - 1) d (260 * y)
          obtain ⟨a0, a1, a2⟩ := cyc_back h0 hp
          obtain ⟨b0, b1, b2, b3, b4⟩ := cy_in (n := nx (m - 1) d (260 * y)) (by omega) hk
          exact .inl ⟨_, hv, rfl, rfl, b0, b1.trans a0, b2.trans a1, b3.trans a2, b4⟩
        · exact .inr ⟨2, by decide, nextV_big hp (by omega) (by omega) (by rw [e1]; exact hk)⟩
    · exact .inr ⟨1, by decide, cdV_bad h⟩)
  rcases HD.out with ⟨r, hv, rfl, rfl, r0, r1, r2, r3, r4⟩ | ⟨E2, hE2, hv⟩
  · clear HD
    rw [hv] at H1 H2
    dsimp only at H1 H2
    have H3 := Lib.hid (fun w => CycleDate_any r w)
    rw [r0, r1, r2, r3, r4] at H3
    have hq9 := deq_refl 3 y m d false
    clear hv r0 r1 r2 r3 r4
    have b1 := BoxD.new w 3 y m d false
    have A2 := (Aft.refl w).alloc (.cells #[.int .i64 3, .int .i64 y, .int .i64 m, .int .i64 d, .bool false] 30)
    obtain ⟨c3, c4, c5, c6, c7⟩ := b1.five
    go_enter Tryd.func12, Tryd.ntmps12
    go_wp2_with fail
    refine (H1.out _).mono ?_
    rintro e v1 ⟨rfl, N8⟩
    have A9 := A2.trans N8
    have b10 := b1.aft N8
    clear b1
    obtain ⟨c11, c12, c13, c14, c15⟩ := b10.five
    go_wp2_with fail
    refine (H2.out _).mono ?_
    rintro e v2 ⟨rfl, N16⟩
    have A17 := A9.trans N16
    have b18 := b10.aft N16
    clear b10
    go_wp2_with fail
    refine (awake_any _ (ht.aft A17)).mono ?_
    rintro e v3 ⟨rfl, N19⟩
    have A20 := A17.trans N19
    have b21 := b18.aft N19
    clear b18
    go_wp2_with fail
    refine (H3.out _).mono ?_
    rintro e v4 ⟨rfl, N22⟩
    have A23 := A20.trans N22
    have b24 := b21.aft N22
    clear b21
    have b25 := b24.aft ((Aft.refl v4).alloc (.cells #[.int .i64 3, .int .i64 y, .int .i64 m, .int .i64 d, .bool false] 30))
    clear b24
    have b26 := BoxD.new v4 3 y m d false
    have A27 := A23.alloc (.cells #[.int .i64 3, .int .i64 y, .int .i64 m, .int .i64 d, .bool false] 30)
    obtain ⟨c28, c29, c30, c31, c32⟩ := b26.five
    clear b26
    obtain ⟨c33, c34, c35, c36, c37⟩ := b25.five
    clear b25
    go_wp2
    go_ret
    exact ⟨by first | rfl | simp, A27⟩
  · clear HD
    rw [hv] at H1 H2
    dsimp only at H1 H2
    have H3 := Lib.hid (fun w => CycleDate_any 0 w)
    have hE2b : (E2 != 0) = true := by simp [hE2]
    have hE2c : (E2 == 0) = false := by simp [hE2]
    clear hv
    generalize cyC 0 = c2 at *
    generalize cyY 0 = y2 at *
    generalize cyM 0 = m2 at *
    generalize cyD 0 = d2 at *
    generalize ckV 0 = g2 at *
    have b1 := BoxD.new w c y m d l
    have A2 := (Aft.refl w).alloc (.cells #[.int .i64 c, .int .i64 y, .int .i64 m, .int .i64 d, .bool l] 30)
    obtain ⟨c3, c4, c5, c6, c7⟩ := b1.five
    go_enter Tryd.func12, Tryd.ntmps12
    go_wp2_with fail
    refine (H1.out _).mono ?_
    rintro e v1 ⟨rfl, N8⟩
    have A9 := A2.trans N8
    have b10 := b1.aft N8
    clear b1
    obtain ⟨c11, c12, c13, c14, c15⟩ := b10.five
    go_wp2_with fail
    refine (H2.out _).mono ?_
    rintro e v2 ⟨rfl, N16⟩
    have A17 := A9.trans N16
    have b18 := b10.aft N16
    clear b10
    go_wp2_with fail
    refine (awake_any _ (ht.aft A17)).mono ?_
    rintro e v3 ⟨rfl, N19⟩
    have A20 := A17.trans N19
    have b21 := b18.aft N19
    clear b18
    go_wp2_with fail
    refine (H3.out _).mono ?_
    rintro e v4 ⟨rfl, N22⟩
    have A23 := A20.trans N22
    have b24 := b21.aft N22
    clear b21
    have b25 := b24.aft ((Aft.refl v4).alloc (.cells #[.int .i64 c2, .int .i64 y2, .int .i64 m2, .int .i64 d2, .bool false] 30))
    clear b24
    have b26 := BoxD.new v4 c2 y2 m2 d2 false
    have A27 := A23.alloc (.cells #[.int .i64 c2, .int .i64 y2, .int .i64 m2, .int .i64 d2, .bool false] 30)
    obtain ⟨c28, c29, c30, c31, c32⟩ := b26.five
    clear b26
    obtain ⟨c33, c34, c35, c36, c37⟩ := b25.five
    clear b25
    go_wp2
    go_ret
    exact ⟨by first | rfl | simp, A27⟩

theorem own : ownKnob Tryd.prog.godebug = none := by kernel_rfl
theorem laidOut : laidOutB Tryd.prog = true := by kernel_rfl

set_option maxRecDepth 100000 in
theorem contract (H : Type) (enc : TypeId × Value → H) (W : World) (base : Nat) (args : Array Value) (ds gs : List (DataW H)) (before : List MemPlace)
    (hval : ∀ (j : Nat) t v, Tryd.f12.params[j]? = some t → args[j]? = some v → Value.okWide Tryd.prog W .any base t v)
    (hW : DataW.Whole enc Tryd.prog Tryd.f12.params.toList Rows.calendarRoundSpec.vars false W args.toList ds gs before) (hsz0 : (DataW.weightsEach Tryd.prog (Tryd.f12.params.toList ++ Rows.calendarRoundSpec.plain.varTypes Tryd.prog) (ds ++ gs)).all (· ≤ reachBytes) = true) (hL : laidMetH Tryd.prog listed W) :
    Calls Tryd.prog 12 args W fun e W' => ∃ v, e = .returned v ∧ Rows.calendarRoundSpec.post enc Tryd.prog Tryd.f12 false true false false W args v W' := by
  have hW' := hW
  obtain ⟨p, q, hA0, hV, rfl, hfz, hnd⟩ := hW
  have hA : DataW.TrodAll enc Tryd.prog W 0 (fun _ => true) true Tryd.f12.params.toList args.toList ds p := hA0
  have hsz := hsz0
  rw [Tryd.params12] at hA hval hsz
  obtain ⟨v0, vs0, d0, ds0, p0, q0, hargs, rfl, rfl, h0, r0⟩ := trodAll_cons hA
  obtain ⟨rfl, rfl, rfl⟩ := trodAll_nil r0
  obtain rfl : args = #[v0] := by cases args; simp_all
  obtain ⟨rfl, rfl⟩ := trodVars_none hV
  have lt0 : ∀ x ∈ p0, x.block < W.heap.size := by obtain ⟨m, hm⟩ := h0; exact DataW.trod_lt m _ _ _ hm
  obtain ⟨xc0, xy0, xm0, xd0, xl0, rfl, zc0, zy0, zm0, zd0⟩ := date_of (okWide_struct Tryd.underlying30 (hval 0 30 v0 rfl rfl)) h0
  clear hA0
  refine (walk xc0 xy0 xm0 xd0 xl0 W (tabs_of hL) zc0 zy0 zm0 zd0).mono fun e W' ⟨he, bel⟩ => ?_
  subst he
  exact ⟨_, rfl, _, _, _, [], _, [], hW', trodAll_mk1 (shut_bool Tryd.underlying4 _), (trodAll_cons_mk (Below.trod laidOut (by kernel_rfl) (of_decide_eq_true (by kernel_rfl)) h0 bel lt0) trodAll_mk0), rfl, Below.frame bel _, fun h => by cases h⟩

theorem witness_row (os : Os) {H : Type} (enc : TypeId × Value → H) :
    (OpenSpec.ofChange Rows.calendarRoundSpec).preRow enc Tryd.prog Tryd.f12 Rows.calendarRoundRow.domain false Rows.calendarRoundRow.laid ((laidWorld os).forCall (fun _ _ => 0) ⟨#[], #[.agg #[.int .i64 0, .int .i64 0, .int .i64 0, .int .i64 0, .bool false]], []⟩).memory #[.agg #[.int .i64 0, .int .i64 0, .int .i64 0, .int .i64 0, .bool false]] := by
  have hw : (DataW.whole enc Tryd.prog ((laidWorld os).forCall (fun _ _ => 0) ⟨#[], #[.agg #[.int .i64 0, .int .i64 0, .int .i64 0, .int .i64 0, .bool false]], []⟩).memory Tryd.f12.params.toList Rows.calendarRoundSpec.vars false (#[.agg #[.int .i64 0, .int .i64 0, .int .i64 0, .int .i64 0, .bool false]] : Array Value).toList 8).map (fun x => (x.1, x.2.1)) =
      some ([.agg [.lit (.int .i64 0), .lit (.int .i64 0), .lit (.int .i64 0), .lit (.int .i64 0), .lit (.bool false)]], []) := by kernel_rfl
  obtain ⟨⟨x1, x2, x3⟩, hx, hx1⟩ := Option.map_eq_some_iff.1 hw
  simp only [Prod.mk.injEq] at hx1
  obtain ⟨rfl, rfl⟩ := hx1
  exact OpenSpec.preRow_of_cond 8 hx (by kernel_rfl) (fun k hk => by cases hk) (by kernel_rfl) (laid_met os _)

set_option maxRecDepth 100000 in
theorem lifted (os : Os) (started : os.Started) (H : Type) (enc : TypeId × Value → H) (F : Stop.Interp) :
    ReturnsInHanded {} Tryd.checked os 12 .any ((OpenSpec.ofChange Rows.calendarRoundSpec).preRow enc Tryd.prog Tryd.f12 Rows.calendarRoundRow.domain false Rows.calendarRoundRow.laid) (((OpenSpec.ofChange Rows.calendarRoundSpec).at F).post enc Tryd.prog Tryd.f12 false true false false) := by
  refine returnsInHanded_of_row (C := Tryd.checked) (s := (OpenSpec.ofChange Rows.calendarRoundSpec)) own started (by kernel_rfl) Tryd.func12
    (witness_row_atRef (enc := enc) (C := Tryd.checked) false (laidWorld os) #[.agg #[.int .i64 0, .int .i64 0, .int .i64 0, .int .i64 0, .bool false]] rfl (by kernel_rfl) (by kernel_rfl) (by kernel_rfl) (witness_row os enc)) ?_
  intro W base args ds gs before hval hW _ _ hsz hL _ _
  exact contract H enc W base args ds gs before hval hW hsz hL

theorem row : Rows.CalendarRoundSaid :=
  OpenClaim.holds_of_cond 12 Tryd.f12 rfl rfl rfl rfl rfl rfl rfl ⟨rfl, rfl, rfl, rfl, rfl⟩ rfl rfl rfl rfl rfl (by kernel_rfl) Tryd.func12 (by kernel_rfl)
    (of_decide_eq_true (by kernel_rfl)) (by unfold Func.isWrapper; rw [if_neg (of_decide_eq_false (by kernel_rfl))]; exact ⟨rfl, rfl⟩)
    (fun os started H enc _ F0 => by rw [OpenClaim.pre_eq_preRow]; exact lifted os started H enc F0)

/-- No parameter wants a stand-in; the program's own looks are off. -/
theorem plain (f : FuncId) (fn : Func) (hf : Tryd.pinned.checked.prog.funcNamed "pentaglot/pentaglotlaw17.CalendarRound" = some f) (hfn : Tryd.pinned.checked.prog.funcs[f]? = some fn) :
    false = Tryd.pinned.checked.prog.looks [] ∧ ∀ (j : Nat) t, fn.params[j]? = some t → Tryd.pinned.checked.prog.wantsStandIn t = false := by
  obtain rfl : f = 12 := Option.some.inj ((show Tryd.prog.funcNamed "pentaglot/pentaglotlaw17.CalendarRound" = some 12 by kernel_rfl).symm.trans hf) |>.symm
  obtain rfl : fn = Tryd.f12 := (Option.some.inj (Tryd.func12.symm.trans hfn)).symm
  refine ⟨by kernel_rfl, fun j t ht => ?_⟩
  rw [Tryd.params12] at ht
  have hm : t = 30 := by simpa using Array.mem_of_getElem? ht
  rcases hm with rfl
  · exact (show Tryd.prog.wantsStandIn 30 = false by kernel_rfl)

theorem proved : Rows.CalendarRoundCardSaid :=
  Claim7.holds_tied_plain_at .later [] _ _ _ _ row (fun _ h => by cases h) (by kernel_rfl) (fun _ h => by cases h) calendarRound_row_tie rfl ⟨rfl, rfl⟩ (by kernel_rfl) rfl plain (by kernel_rfl)
#print axioms proved
end Go.Proofs.YtdeojpmimhagjaaDoor.lawCRound
