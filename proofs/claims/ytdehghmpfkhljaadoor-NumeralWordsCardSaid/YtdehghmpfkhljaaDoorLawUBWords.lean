/-
  The words of a number, or the error: the law NumeralWords returns true. Conditions: none.
-/
import Derived.Test.YtdehghmpfkhljaaDoorNumFrame
import Derived.Test.YtdehghmpfkhljaaDoorNumLawC
import Derived.Test.YtdehghmpfkhljaaDoorNumRefW
import Derived.Test.YtdehghmpfkhljaaDoorNumRefV
import Derived.Deep.DeepHandedRow
import Derived.Deep.DeepWitnessRowRef
import Derived.Deep.RegionHeld3
namespace Go.Proofs.YtdehghmpfkhljaaDoor.lawUBWords
open Go.ChangeShapes Go.WideShapes Go.ChangeAt Go.RowKit
open Go.ChangeMaps (open_string shut_string)
open NumPlain

set_option maxRecDepth 100000 in
set_option maxHeartbeats 3200000 in
theorem walk (x : Nm) (limit : Int) (w : World) (hT : Tabs w) (hw : Nw w x) (hz : Sz x) (hzb : (Lit.int .i64 x.base).wf = true) (_ : (Lit.int .i64 x.sub).wf = true) (_ : (Lit.int .i64 limit).wf = true) :
    Calls Tryd.prog 4 #[nV x, .int .i64 limit] w (BoolPost w true) := by
  have AL : Aft w (w.alloc (.cells (nC x) 24)) := (Aft.refl w).alloc _
  have HBX := Lib.hid (Bx.new w x 24)
  have HT := Lib.hid (tabs_aft hT AL)
  have HW := Lib.hid (hw.aft AL)
  have HZ := Lib.hid hz
  have HA := Lib.hid AL
  clear hT hw hz AL
  by_cases hsm : x.dn ≤ 40 ∧ x.pn ≤ 10
  · have HSM := Lib.hid (small_yes hsm)
    clear hsm
    cases hv : validB x
    · have HV := Lib.hid hv
      clear hv
      go_enter Tryd.func4, Tryd.ntmps4
      obtain ⟨c0, c1, c2, c3, c4, c5, c6, c7⟩ := HBX.out
      go_wp2_with fail
      have h1 := small_any x (w.alloc (.cells (nC x) 24))
      rw [HSM.out] at h1
      refine h1.mono ?_
      rintro e v1 ⟨rfl, N1⟩
      clear h1
      have D1 := N1
      clear c0 c1 c2 c3 c4 c5 c6 c7
      obtain ⟨c0, c1, c2, c3, c4, c5, c6, c7⟩ := HBX.out.aft D1
      go_wp2_with fail
      have h1 := refValid_any x v1 (tabs_aft HT.out D1) (HW.out.aft D1) HZ.out hzb
      rw [HV.out] at h1
      refine h1.mono ?_
      rintro e v2 ⟨rfl, N2⟩
      clear h1
      have D2 := D1.trans N2
      clear c0 c1 c2 c3 c4 c5 c6 c7
      go_wp2_with fail
      have h1 := awake_any v2 (tabs_aft HT.out D2)
      refine h1.mono ?_
      rintro e v3 ⟨rfl, N3⟩
      clear h1
      have D3 := D2.trans N3
      go_wp2
      go_ret
      exact ⟨by first | rfl | simp, HA.out.trans D3⟩
    · have HV := Lib.hid hv
      have hx := ok_of hv
      have HX := Lib.hid hx
      clear hv hx
      go_enter Tryd.func4, Tryd.ntmps4
      obtain ⟨c0, c1, c2, c3, c4, c5, c6, c7⟩ := HBX.out
      go_wp2_with fail
      have h1 := small_any x (w.alloc (.cells (nC x) 24))
      rw [HSM.out] at h1
      refine h1.mono ?_
      rintro e v1 ⟨rfl, N1⟩
      clear h1
      have D1 := N1
      clear c0 c1 c2 c3 c4 c5 c6 c7
      obtain ⟨c0, c1, c2, c3, c4, c5, c6, c7⟩ := HBX.out.aft D1
      go_wp2_with fail
      have h1 := refValid_any x v1 (tabs_aft HT.out D1) (HW.out.aft D1) HZ.out hzb
      rw [HV.out] at h1
      refine h1.mono ?_
      rintro e v2 ⟨rfl, N2⟩
      clear h1
      have D2 := D1.trans N2
      clear c0 c1 c2 c3 c4 c5 c6 c7
      by_cases h0 : limit < 0
      · have HWV := Lib.hid (words_neg x h0)
        obtain ⟨c0, c1, c2, c3, c4, c5, c6, c7⟩ := HBX.out.aft D2
        go_wp2_with fail
        have h1 := words_any x limit v2 (tabs_aft HT.out D2) (HW.out.aft D2) HZ.out
        rw [HWV.out] at h1
        refine h1.mono ?_
        rintro e v3 ⟨⟨X1, n1, q1, rfl, r1⟩, N3⟩
        clear h1
        have D3 := D2.trans N3
        obtain rfl : n1 = 0 := r1.len.symm
        clear r1
        clear c0 c1 c2 c3 c4 c5 c6 c7
        go_wp2_with fail
        have h1 := awake_any v3 (tabs_aft HT.out D3)
        refine h1.mono ?_
        rintro e v4 ⟨rfl, N4⟩
        clear h1
        have D4 := D3.trans N4
        go_wp2
        go_ret
        exact ⟨by first | rfl | simp, HA.out.trans D4⟩
      · by_cases h9 : 9999 < limit
        · have HWV := Lib.hid (words_big HV.out h9)
          obtain ⟨c0, c1, c2, c3, c4, c5, c6, c7⟩ := HBX.out.aft D2
          go_wp2_with fail
          have h1 := words_any x limit v2 (tabs_aft HT.out D2) (HW.out.aft D2) HZ.out
          rw [HWV.out] at h1
          refine h1.mono ?_
          rintro e v3 ⟨⟨X1, n1, q1, rfl, r1⟩, N3⟩
          clear h1
          have D3 := D2.trans N3
          obtain rfl : n1 = 0 := r1.len.symm
          clear r1
          clear c0 c1 c2 c3 c4 c5 c6 c7
          go_wp2_with fail
          have h1 := awake_any v3 (tabs_aft HT.out D3)
          refine h1.mono ?_
          rintro e v4 ⟨rfl, N4⟩
          clear h1
          have D4 := D3.trans N4
          go_wp2
          go_ret
          exact ⟨by first | rfl | simp, HA.out.trans D4⟩
        · obtain ⟨j, rfl⟩ : ∃ j : Nat, limit = (j : Int) := ⟨limit.toNat, by omega⟩
          have hj9 : j ≤ 9999 := by omega
          have HWV := Lib.hid (words_ok HV.out hj9)
          have hL := len_of HW.out HV.out
          have HRW := Lib.hid (refWords_any x hL j (pow4 hL.ok hj9))
          clear hL
          obtain ⟨c0, c1, c2, c3, c4, c5, c6, c7⟩ := HBX.out.aft D2
          go_wp2_with fail
          have h1 := words_any x (j : Int) v2 (tabs_aft HT.out D2) (HW.out.aft D2) HZ.out
          rw [HWV.out] at h1
          refine h1.mono ?_
          rintro e v3 ⟨⟨X1, n1, q1, rfl, r1⟩, N3⟩
          clear h1
          have D3 := D2.trans N3
          have R1 := Lib.hid (show Rw sV v3 X1 n1 q1 (wordsB x j) from r1)
          clear r1
          clear c0 c1 c2 c3 c4 c5 c6 c7
          go_wp2_with fail
          have h1 := awake_any v3 (tabs_aft HT.out D3)
          refine h1.mono ?_
          rintro e v4 ⟨rfl, N4⟩
          clear h1
          have D4 := D3.trans N4
          obtain ⟨c0, c1, c2, c3, c4, c5, c6, c7⟩ := HBX.out.aft D4
          go_wp2_with fail
          have h1 := HRW.out v4 (HW.out.aft D4)
          refine h1.mono ?_
          rintro e v5 ⟨⟨X2, n2, q2, rfl, r2⟩, N5⟩
          clear h1
          have D5 := D4.trans N5
          have R2 := Lib.hid r2
          clear r2
          clear c0 c1 c2 c3 c4 c5 c6 c7
          go_wp2_with fail
          have h1 := texts_any X1 n1 q1 (wordsB x j) X2 n2 q2 (wordsB x j) v5 (R1.out.aft (N4.trans N5)) R2.out
          rw [decide_eq_true rfl] at h1
          refine h1.mono ?_
          rintro e v6 ⟨rfl, N6⟩
          clear h1
          have D6 := D5.trans N6
          go_wp2
          go_ret
          exact ⟨by first | rfl | simp, HA.out.trans D6⟩
  · have HSM := Lib.hid (small_no hsm)
    clear hsm
    go_enter Tryd.func4, Tryd.ntmps4
    obtain ⟨c0, c1, c2, c3, c4, c5, c6, c7⟩ := HBX.out
    go_wp2_with fail
    have h1 := small_any x (w.alloc (.cells (nC x) 24))
    rw [HSM.out] at h1
    refine h1.mono ?_
    rintro e v1 ⟨rfl, N1⟩
    clear h1
    have D1 := N1
    clear c0 c1 c2 c3 c4 c5 c6 c7
    go_wp2_with fail
    have h1 := awake_any v1 (tabs_aft HT.out D1)
    refine h1.mono ?_
    rintro e v2 ⟨rfl, N2⟩
    clear h1
    have D2 := D1.trans N2
    go_wp2
    go_ret
    exact ⟨by first | rfl | simp, HA.out.trans D2⟩

theorem own : ownKnob Tryd.prog.godebug = none := by kernel_rfl
theorem laidOut : laidOutB Tryd.prog = true := by kernel_rfl

set_option maxRecDepth 100000 in
theorem contract (H : Type) (enc : TypeId × Value → H) (W : World) (base : Nat) (args : Array Value) (ds gs : List (DataW H)) (before : List MemPlace)
    (hval : ∀ (j : Nat) t v, Tryd.f4.params[j]? = some t → args[j]? = some v → Value.okWide Tryd.prog W .any base t v)
    (hW : DataW.Whole enc Tryd.prog Tryd.f4.params.toList Rows.numeralWordsSpec.vars false W args.toList ds gs before) (hsz0 : (DataW.weightsEach Tryd.prog (Tryd.f4.params.toList ++ Rows.numeralWordsSpec.plain.varTypes Tryd.prog) (ds ++ gs)).all (· ≤ reachBytes) = true) (hL : laidMetH Tryd.prog listed W) :
    Calls Tryd.prog 4 args W fun e W' => ∃ v, e = .returned v ∧ Rows.numeralWordsSpec.post enc Tryd.prog Tryd.f4 false true false false W args v W' := by
  have hW' := hW
  obtain ⟨p, q, hA0, hV, rfl, hfz, hnd⟩ := hW
  have hA : DataW.TrodAll enc Tryd.prog W 0 (fun _ => true) true Tryd.f4.params.toList args.toList ds p := hA0
  have hsz := hsz0
  rw [Tryd.params4] at hA hval hsz
  obtain ⟨v0, vs0, d0, ds0, p0, q0, hargs, rfl, rfl, h0, r0⟩ := trodAll_cons hA
  obtain ⟨v1, vs1, d1, ds1, p1, q1, rfl, rfl, rfl, h1, r1⟩ := trodAll_cons r0
  obtain ⟨rfl, rfl, rfl⟩ := trodAll_nil r1
  obtain rfl : args = #[v0, v1] := by cases args; simp_all
  obtain ⟨rfl, rfl⟩ := trodVars_none hV
  have lt0 : ∀ x ∈ p0, x.block < W.heap.size := by obtain ⟨m, hm⟩ := h0; exact DataW.trod_lt m _ _ _ hm
  obtain ⟨xs0, rfl, sn0, sz0, zb0, zs0⟩ := sys_of (okWide_struct Tryd.underlying24 (hval 0 24 v0 rfl rfl)) h0
  obtain ⟨xs1, rfl, rfl, rfl, z1⟩ := open_int Tryd.underlying3 (hval 1 3 v1 rfl rfl) h1
  clear hA0
  refine (walk xs0 xs1 W (tabs_of hL) sn0 sz0 zb0 zs0 z1).mono fun e W' ⟨he, bel⟩ => ?_
  subst he
  exact ⟨_, rfl, _, _, _, [], _, [], hW', trodAll_mk1 (shut_bool Tryd.underlying4 _), (trodAll_cons_mk (Below.trod laidOut (by kernel_rfl) (of_decide_eq_true (by kernel_rfl)) h0 bel lt0) (trodAll_cons_mk (shut_int Tryd.underlying3 z1) trodAll_mk0)), rfl, Below.frame bel _, fun h => by cases h⟩

theorem witness_row (os : Os) {H : Type} (enc : TypeId × Value → H) :
    (OpenSpec.ofChange Rows.numeralWordsSpec).preRow enc Tryd.prog Tryd.f4 Rows.numeralWordsRow.domain false Rows.numeralWordsRow.laid ((laidWorld os).forCall (fun _ _ => 0) ⟨#[], #[.agg #[.int .i64 0, .slice none 0 0, .slice none 0 0, .bool false, .string ⟨#[]⟩, .int .i64 0, .string ⟨#[]⟩, .bool false], .int .i64 0], []⟩).memory #[.agg #[.int .i64 0, .slice none 0 0, .slice none 0 0, .bool false, .string ⟨#[]⟩, .int .i64 0, .string ⟨#[]⟩, .bool false], .int .i64 0] := by
  have hw : (DataW.whole enc Tryd.prog ((laidWorld os).forCall (fun _ _ => 0) ⟨#[], #[.agg #[.int .i64 0, .slice none 0 0, .slice none 0 0, .bool false, .string ⟨#[]⟩, .int .i64 0, .string ⟨#[]⟩, .bool false], .int .i64 0], []⟩).memory Tryd.f4.params.toList Rows.numeralWordsSpec.vars false (#[.agg #[.int .i64 0, .slice none 0 0, .slice none 0 0, .bool false, .string ⟨#[]⟩, .int .i64 0, .string ⟨#[]⟩, .bool false], .int .i64 0] : Array Value).toList 8).map (fun x => (x.1, x.2.1)) =
      some ([.agg [.lit (.int .i64 0), .nil, .nil, .lit (.bool false), .lit (.string []), .lit (.int .i64 0), .lit (.string []), .lit (.bool false)], .lit (.int .i64 0)], []) := by kernel_rfl
  obtain ⟨⟨x1, x2, x3⟩, hx, hx1⟩ := Option.map_eq_some_iff.1 hw
  simp only [Prod.mk.injEq] at hx1
  obtain ⟨rfl, rfl⟩ := hx1
  exact OpenSpec.preRow_of_cond 8 hx (by kernel_rfl) (fun k hk => by cases hk) (by kernel_rfl) (laid_met os _)

set_option maxRecDepth 100000 in
theorem lifted (os : Os) (started : os.Started) (H : Type) (enc : TypeId × Value → H) (F : Stop.Interp) :
    ReturnsInHanded {} Tryd.checked os 4 .any ((OpenSpec.ofChange Rows.numeralWordsSpec).preRow enc Tryd.prog Tryd.f4 Rows.numeralWordsRow.domain false Rows.numeralWordsRow.laid) (((OpenSpec.ofChange Rows.numeralWordsSpec).at F).post enc Tryd.prog Tryd.f4 false true false false) := by
  refine returnsInHanded_of_row (C := Tryd.checked) (s := (OpenSpec.ofChange Rows.numeralWordsSpec)) own started (by kernel_rfl) Tryd.func4
    (witness_row_atRef (enc := enc) (C := Tryd.checked) false (laidWorld os) #[.agg #[.int .i64 0, .slice none 0 0, .slice none 0 0, .bool false, .string ⟨#[]⟩, .int .i64 0, .string ⟨#[]⟩, .bool false], .int .i64 0] rfl (by kernel_rfl) (by kernel_rfl) (by kernel_rfl) (witness_row os enc)) ?_
  intro W base args ds gs before hval hW _ _ hsz hL _ _
  exact contract H enc W base args ds gs before hval hW hsz hL

theorem row : Rows.NumeralWordsSaid :=
  OpenClaim.holds_of_cond 4 Tryd.f4 rfl rfl rfl rfl rfl rfl rfl ⟨rfl, rfl, rfl, rfl, rfl⟩ rfl rfl rfl rfl rfl (by kernel_rfl) Tryd.func4 (by kernel_rfl)
    (of_decide_eq_true (by kernel_rfl)) (by unfold Func.isWrapper; rw [if_neg (of_decide_eq_false (by kernel_rfl))]; exact ⟨rfl, rfl⟩)
    (fun os started H enc _ F0 => by rw [OpenClaim.pre_eq_preRow]; exact lifted os started H enc F0)

/-- No parameter wants a stand-in; the program's own looks are off. -/
theorem plain (f : FuncId) (fn : Func) (hf : Tryd.pinned.checked.prog.funcNamed "pentaglot/pentaglotlaw15.NumeralWords" = some f) (hfn : Tryd.pinned.checked.prog.funcs[f]? = some fn) :
    false = Tryd.pinned.checked.prog.looks [] ∧ ∀ (j : Nat) t, fn.params[j]? = some t → Tryd.pinned.checked.prog.wantsStandIn t = false := by
  obtain rfl : f = 4 := Option.some.inj ((show Tryd.prog.funcNamed "pentaglot/pentaglotlaw15.NumeralWords" = some 4 by kernel_rfl).symm.trans hf) |>.symm
  obtain rfl : fn = Tryd.f4 := (Option.some.inj (Tryd.func4.symm.trans hfn)).symm
  refine ⟨by kernel_rfl, fun j t ht => ?_⟩
  rw [Tryd.params4] at ht
  have hm : t = 24 ∨ t = 3 := by simpa using Array.mem_of_getElem? ht
  rcases hm with rfl | rfl
  · exact (show Tryd.prog.wantsStandIn 24 = false by kernel_rfl)
  · exact (show Tryd.prog.wantsStandIn 3 = false by kernel_rfl)

theorem proved : Rows.NumeralWordsCardSaid :=
  Claim7.holds_tied_plain_at .later [] _ _ _ _ row (fun _ h => by cases h) (by kernel_rfl) (fun _ h => by cases h) numeralWords_row_tie rfl ⟨rfl, rfl⟩ (by kernel_rfl) rfl plain (by kernel_rfl)
#print axioms proved
end Go.Proofs.YtdehghmpfkhljaaDoor.lawUBWords
