/-
  Compare of two dates agrees with the order of their days and with the order by year, month, leap and day, or returns the first error: the law LunisolarCompares returns true. (a tied card: pruned copy of the program; the table of the months' lengths holds what its text lays).
-/
import Derived.Test.YtdeojpmimhagjabDoorLunFrame
import Derived.Test.YtdeojpmimhagjabDoorLunAwake
import Derived.Test.YtdeojpmimhagjabDoorLunRef
import Derived.Test.YtdeojpmimhagjabDoorCards
import Derived.Test.YtdeojpmimhagjabDoorTie
import Derived.Deep.DeepHandedRow
import Derived.Deep.DeepWitnessRowRef
import Derived.SevenTiedAt
namespace Go.Proofs.YtdeojpmimhagjabDoor.lawNCompares
open Go.ChangeShapes Go.WideShapes Go.ChangeAt Go.RowKit
open LunPlain

set_option maxRecDepth 100000 in
set_option maxHeartbeats 1600000 in
theorem walk (c y m d : Int) (l : Bool) (c' y' m' d' : Int) (l' : Bool) (w : World) (ht : Tab w) (_ : (Lit.int .i64 c).wf = true) (_ : (Lit.int .i64 y).wf = true) (_ : (Lit.int .i64 m).wf = true) (zd : (Lit.int .i64 d).wf = true) (_ : (Lit.int .i64 c').wf = true) (_ : (Lit.int .i64 y').wf = true) (_ : (Lit.int .i64 m').wf = true) (zd' : (Lit.int .i64 d').wf = true) :
    Calls Tryd.prog 11 #[(.agg #[.int .i64 c, .int .i64 y, .int .i64 m, .int .i64 d, .bool l]), (.agg #[.int .i64 c', .int .i64 y', .int .i64 m', .int .i64 d', .bool l'])] w (BoolPost w true) := by
  have H1 := Lib.hid (fun w ht => Compare_any c y m d l c' y' m' d' l' w ht zd zd')
  have H2 := Lib.hid (fun w => refDay_any c y m d l w)
  have H3 := Lib.hid (fun w => refDay_any c' y' m' d' l' w)
  have H4 := Lib.hid (fun w => Before_any c y m d l c' y' m' d' l' w)
  have HD := Lib.hid (show (∃ E : Int, E ≠ 0 ∧ dayV c y m l d = (0, E)) ∨ (∃ r : Int, dayV c y m l d = (r, 0) ∧ ((∃ E : Int, E ≠ 0 ∧ dayV c' y' m' l' d' = (0, E)) ∨ (∃ r' : Int, dayV c' y' m' l' d' = (r', 0) ∧ befV y m l d y' m' l' d' = cmpI r r'))) by
    by_cases h : okD c y m l d
    · obtain rfl := h.in_.1
      by_cases k : num y m l d ≤ 999999
      · refine .inr ⟨_, dayV_ok h k, ?_⟩
        by_cases h' : okD c' y' m' l' d'
        · obtain rfl := h'.in_.1
          by_cases k' : num y' m' l' d' ≤ 999999
          · exact .inr ⟨_, dayV_ok h' k', bef_num h h'⟩
          · exact .inl ⟨2, by decide, dayV_big h' k'⟩
        · exact .inl ⟨1, by decide, dayV_bad h'⟩
      · exact .inl ⟨2, by decide, dayV_big h k⟩
    · exact .inl ⟨1, by decide, dayV_bad h⟩)
  rcases HD.out with ⟨E, hE, e1⟩ | ⟨r, e1, ⟨E, hE, e2⟩ | ⟨r', e2, e3⟩⟩
  · rw [e1, cmpV_one hE] at H1
    rw [e1] at H2
    generalize dayV c' y' m' l' d' = V2 at *
    obtain ⟨r2, E2⟩ := V2
    have hEb : (E != 0) = true := by simp [hE]
    have hEc : (E == 0) = false := by simp [hE]
    clear e1 HD
    dsimp only at H1 H2 H3
    have A0 := ((Aft.refl w).alloc (.cells #[.int .i64 c, .int .i64 y, .int .i64 m, .int .i64 d, .bool l] 34)).alloc (.cells #[.int .i64 c', .int .i64 y', .int .i64 m', .int .i64 d', .bool l'] 34)
    have b0 := (BoxD.new w c y m d l).aft ((Aft.refl _).alloc (.cells #[.int .i64 c', .int .i64 y', .int .i64 m', .int .i64 d', .bool l'] 34))
    have b1 := BoxD.new' (w.alloc (.cells #[.int .i64 c, .int .i64 y, .int .i64 m, .int .i64 d, .bool l] 34)) c' y' m' d' l' (H := w.heap.size + 1) (by simp)
    go_enter Tryd.func11, Tryd.ntmps11
    go_wp2_with fail
    refine (awake_t _ (ht.aft A0)).mono ?_
    rintro e v1 ⟨rfl, N1⟩
    have A2 := A0.trans N1
    have b3 := b0.aft N1
    clear b0
    have b4 := b1.aft N1
    clear b1
    obtain ⟨c5, c6, c7, c8, c9⟩ := b3.five
    obtain ⟨c10, c11, c12, c13, c14⟩ := b4.five
    go_wp2_with fail
    refine (H1.out _ (ht.aft A2)).mono ?_
    rintro e v2 ⟨rfl, N15⟩
    have A16 := A2.trans N15
    have b17 := b3.aft N15
    clear b3
    have b18 := b4.aft N15
    clear b4
    obtain ⟨c19, c20, c21, c22, c23⟩ := b17.five
    go_wp2_with fail
    refine (H2.out _).mono ?_
    rintro e v3 ⟨rfl, N24⟩
    have A25 := A16.trans N24
    have b26 := b17.aft N24
    clear b17
    have b27 := b18.aft N24
    clear b18
    obtain ⟨c28, c29, c30, c31, c32⟩ := b27.five
    go_wp2_with fail
    refine (H3.out _).mono ?_
    rintro e v4 ⟨rfl, N33⟩
    have A34 := A25.trans N33
    have b35 := b26.aft N33
    clear b26
    have b36 := b27.aft N33
    clear b27
    go_wp2
    go_ret
    exact ⟨by first | rfl | (simp; done) | (simp; omega), A34⟩
  · rw [e1, e2, cmpV_two hE] at H1
    rw [e1] at H2
    rw [e2] at H3
    have hEb : (E != 0) = true := by simp [hE]
    have hEc : (E == 0) = false := by simp [hE]
    clear e1 e2 HD
    dsimp only at H1 H2 H3
    have A0 := ((Aft.refl w).alloc (.cells #[.int .i64 c, .int .i64 y, .int .i64 m, .int .i64 d, .bool l] 34)).alloc (.cells #[.int .i64 c', .int .i64 y', .int .i64 m', .int .i64 d', .bool l'] 34)
    have b0 := (BoxD.new w c y m d l).aft ((Aft.refl _).alloc (.cells #[.int .i64 c', .int .i64 y', .int .i64 m', .int .i64 d', .bool l'] 34))
    have b1 := BoxD.new' (w.alloc (.cells #[.int .i64 c, .int .i64 y, .int .i64 m, .int .i64 d, .bool l] 34)) c' y' m' d' l' (H := w.heap.size + 1) (by simp)
    go_enter Tryd.func11, Tryd.ntmps11
    go_wp2_with fail
    refine (awake_t _ (ht.aft A0)).mono ?_
    rintro e v1 ⟨rfl, N1⟩
    have A2 := A0.trans N1
    have b3 := b0.aft N1
    clear b0
    have b4 := b1.aft N1
    clear b1
    obtain ⟨c5, c6, c7, c8, c9⟩ := b3.five
    obtain ⟨c10, c11, c12, c13, c14⟩ := b4.five
    go_wp2_with fail
    refine (H1.out _ (ht.aft A2)).mono ?_
    rintro e v2 ⟨rfl, N15⟩
    have A16 := A2.trans N15
    have b17 := b3.aft N15
    clear b3
    have b18 := b4.aft N15
    clear b4
    obtain ⟨c19, c20, c21, c22, c23⟩ := b17.five
    go_wp2_with fail
    refine (H2.out _).mono ?_
    rintro e v3 ⟨rfl, N24⟩
    have A25 := A16.trans N24
    have b26 := b17.aft N24
    clear b17
    have b27 := b18.aft N24
    clear b18
    obtain ⟨c28, c29, c30, c31, c32⟩ := b27.five
    go_wp2_with fail
    refine (H3.out _).mono ?_
    rintro e v4 ⟨rfl, N33⟩
    have A34 := A25.trans N33
    have b35 := b26.aft N33
    clear b26
    have b36 := b27.aft N33
    clear b27
    go_wp2
    go_ret
    exact ⟨by first | rfl | (simp; done) | (simp; omega), A34⟩
  · rw [e1, e2, cmpV_ok] at H1
    rw [e1] at H2
    rw [e2] at H3
    rw [e3] at H4
    clear e1 e2 e3 HD
    dsimp only at H1 H2 H3
    have hc3 : (r < r' ∧ cmpI r r' = -1) ∨ (r' < r ∧ cmpI r r' = 1) ∨ (r = r' ∧ cmpI r r' = 0) := by
      by_cases a : r < r'
      · exact .inl ⟨a, cmp_lt a⟩
      · by_cases b : r' < r
        · exact .inr (.inl ⟨b, cmp_gt b⟩)
        · obtain rfl : r = r' := by omega
          exact .inr (.inr ⟨rfl, cmp_eq r⟩)
    rcases hc3 with ⟨a, hc⟩ | ⟨a, hc⟩ | ⟨rfl, hc⟩
    all_goals
      rw [hc] at H1 H4
      clear hc
      have A0 := ((Aft.refl w).alloc (.cells #[.int .i64 c, .int .i64 y, .int .i64 m, .int .i64 d, .bool l] 34)).alloc (.cells #[.int .i64 c', .int .i64 y', .int .i64 m', .int .i64 d', .bool l'] 34)
      have b0 := (BoxD.new w c y m d l).aft ((Aft.refl _).alloc (.cells #[.int .i64 c', .int .i64 y', .int .i64 m', .int .i64 d', .bool l'] 34))
      have b1 := BoxD.new' (w.alloc (.cells #[.int .i64 c, .int .i64 y, .int .i64 m, .int .i64 d, .bool l] 34)) c' y' m' d' l' (H := w.heap.size + 1) (by simp)
      go_enter Tryd.func11, Tryd.ntmps11
      go_wp2_with fail
      refine (awake_t _ (ht.aft A0)).mono ?_
      rintro e v1 ⟨rfl, N1⟩
      have A2 := A0.trans N1
      have b3 := b0.aft N1
      clear b0
      have b4 := b1.aft N1
      clear b1
      obtain ⟨c5, c6, c7, c8, c9⟩ := b3.five
      obtain ⟨c10, c11, c12, c13, c14⟩ := b4.five
      go_wp2_with fail
      refine (H1.out _ (ht.aft A2)).mono ?_
      rintro e v2 ⟨rfl, N15⟩
      have A16 := A2.trans N15
      have b17 := b3.aft N15
      clear b3
      have b18 := b4.aft N15
      clear b4
      obtain ⟨c19, c20, c21, c22, c23⟩ := b17.five
      go_wp2_with fail
      refine (H2.out _).mono ?_
      rintro e v3 ⟨rfl, N24⟩
      have A25 := A16.trans N24
      have b26 := b17.aft N24
      clear b17
      have b27 := b18.aft N24
      clear b18
      obtain ⟨c28, c29, c30, c31, c32⟩ := b27.five
      go_wp2_with fail
      refine (H3.out _).mono ?_
      rintro e v4 ⟨rfl, N33⟩
      have A34 := A25.trans N33
      have b35 := b26.aft N33
      clear b26
      have b36 := b27.aft N33
      clear b27
      obtain ⟨c37, c38, c39, c40, c41⟩ := b35.five
      obtain ⟨c42, c43, c44, c45, c46⟩ := b36.five
      go_wp2_with fail
      refine (H4.out _).mono ?_
      rintro e v5 ⟨rfl, N47⟩
      have A48 := A34.trans N47
      have b49 := b35.aft N47
      clear b35
      have b50 := b36.aft N47
      clear b36
      go_wp2
      go_ret
      exact ⟨by first | rfl | (simp; done) | (simp; omega), A48⟩

theorem own : ownKnob Tryd.prog.godebug = none := by kernel_rfl
theorem laidOut : laidOutB Tryd.prog = true := by kernel_rfl

set_option maxRecDepth 100000 in
theorem contract (H : Type) (enc : TypeId × Value → H) (W : World) (base : Nat) (args : Array Value) (ds gs : List (DataW H)) (before : List MemPlace)
    (hval : ∀ (j : Nat) t v, Tryd.f11.params[j]? = some t → args[j]? = some v → Value.okWide Tryd.prog W .any base t v)
    (hW : DataW.Whole enc Tryd.prog Tryd.f11.params.toList Rows.lunisolarComparesSpec.vars false W args.toList ds gs before) (hsz0 : (DataW.weightsEach Tryd.prog (Tryd.f11.params.toList ++ Rows.lunisolarComparesSpec.plain.varTypes Tryd.prog) (ds ++ gs)).all (· ≤ reachBytes) = true) (hL : laidMetH Tryd.prog listed W) :
    Calls Tryd.prog 11 args W fun e W' => ∃ v, e = .returned v ∧ Rows.lunisolarComparesSpec.post enc Tryd.prog Tryd.f11 false true false false W args v W' := by
  have hW' := hW
  obtain ⟨p, q, hA0, hV, rfl, hfz, hnd⟩ := hW
  have hA : DataW.TrodAll enc Tryd.prog W 0 (fun _ => true) true Tryd.f11.params.toList args.toList ds p := hA0
  have hsz := hsz0
  rw [Tryd.params11] at hA hval hsz
  obtain ⟨v0, vs0, d0, ds0, p0, q0, hargs, rfl, rfl, h0, r0⟩ := trodAll_cons hA
  obtain ⟨v1, vs1, d1, ds1, p1, q1, rfl, rfl, rfl, h1, r1⟩ := trodAll_cons r0
  obtain ⟨rfl, rfl, rfl⟩ := trodAll_nil r1
  obtain rfl : args = #[v0, v1] := by cases args; simp_all
  obtain ⟨rfl, rfl⟩ := trodVars_none hV
  have lt0 : ∀ x ∈ p0, x.block < W.heap.size := by obtain ⟨m, hm⟩ := h0; exact DataW.trod_lt m _ _ _ hm
  obtain ⟨xc0, xy0, xm0, xd0, xl0, rfl, zc0, zy0, zm0, zd0⟩ := date_of (okWide_struct Tryd.underlying34 (hval 0 34 v0 rfl rfl)) h0
  have lt1 : ∀ x ∈ p1, x.block < W.heap.size := by obtain ⟨m, hm⟩ := h1; exact DataW.trod_lt m _ _ _ hm
  obtain ⟨xc1, xy1, xm1, xd1, xl1, rfl, zc1, zy1, zm1, zd1⟩ := date_of (okWide_struct Tryd.underlying34 (hval 1 34 v1 rfl rfl)) h1
  clear hA0
  refine (walk xc0 xy0 xm0 xd0 xl0 xc1 xy1 xm1 xd1 xl1 W (tabs_of hL) zc0 zy0 zm0 zd0 zc1 zy1 zm1 zd1).mono fun e W' ⟨he, bel⟩ => ?_
  subst he
  exact ⟨_, rfl, _, _, _, [], _, [], hW', trodAll_mk1 (shut_bool Tryd.underlying4 _), (trodAll_cons_mk (Below.trod laidOut (by kernel_rfl) (of_decide_eq_true (by kernel_rfl)) h0 bel lt0) (trodAll_cons_mk (Below.trod laidOut (by kernel_rfl) (of_decide_eq_true (by kernel_rfl)) h1 bel lt1) trodAll_mk0)), rfl, Below.frame bel _, fun h => by cases h⟩

theorem witness_row (os : Os) {H : Type} (enc : TypeId × Value → H) :
    (OpenSpec.ofChange Rows.lunisolarComparesSpec).preRow enc Tryd.prog Tryd.f11 Rows.lunisolarComparesRow.domain false Rows.lunisolarComparesRow.laid ((laidWorld os).forCall (fun _ _ => 0) ⟨#[], #[.agg #[.int .i64 0, .int .i64 0, .int .i64 0, .int .i64 0, .bool false], .agg #[.int .i64 0, .int .i64 0, .int .i64 0, .int .i64 0, .bool false]], []⟩).memory #[.agg #[.int .i64 0, .int .i64 0, .int .i64 0, .int .i64 0, .bool false], .agg #[.int .i64 0, .int .i64 0, .int .i64 0, .int .i64 0, .bool false]] := by
  have hw : (DataW.whole enc Tryd.prog ((laidWorld os).forCall (fun _ _ => 0) ⟨#[], #[.agg #[.int .i64 0, .int .i64 0, .int .i64 0, .int .i64 0, .bool false], .agg #[.int .i64 0, .int .i64 0, .int .i64 0, .int .i64 0, .bool false]], []⟩).memory Tryd.f11.params.toList Rows.lunisolarComparesSpec.vars false (#[.agg #[.int .i64 0, .int .i64 0, .int .i64 0, .int .i64 0, .bool false], .agg #[.int .i64 0, .int .i64 0, .int .i64 0, .int .i64 0, .bool false]] : Array Value).toList 8).map (fun x => (x.1, x.2.1)) =
      some ([.agg [.lit (.int .i64 0), .lit (.int .i64 0), .lit (.int .i64 0), .lit (.int .i64 0), .lit (.bool false)], .agg [.lit (.int .i64 0), .lit (.int .i64 0), .lit (.int .i64 0), .lit (.int .i64 0), .lit (.bool false)]], []) := by kernel_rfl
  obtain ⟨⟨x1, x2, x3⟩, hx, hx1⟩ := Option.map_eq_some_iff.1 hw
  simp only [Prod.mk.injEq] at hx1
  obtain ⟨rfl, rfl⟩ := hx1
  exact OpenSpec.preRow_of_cond 8 hx (by kernel_rfl) (fun k hk => by cases hk) (by kernel_rfl) (laid_met os _)

set_option maxRecDepth 100000 in
theorem lifted (os : Os) (started : os.Started) (H : Type) (enc : TypeId × Value → H) (F : Stop.Interp) :
    ReturnsInHanded {} Tryd.checked os 11 .any ((OpenSpec.ofChange Rows.lunisolarComparesSpec).preRow enc Tryd.prog Tryd.f11 Rows.lunisolarComparesRow.domain false Rows.lunisolarComparesRow.laid) (((OpenSpec.ofChange Rows.lunisolarComparesSpec).at F).post enc Tryd.prog Tryd.f11 false true false false) := by
  refine returnsInHanded_of_row (C := Tryd.checked) (s := (OpenSpec.ofChange Rows.lunisolarComparesSpec)) own started (by kernel_rfl) Tryd.func11
    (witness_row_atRef (enc := enc) (C := Tryd.checked) false (laidWorld os) #[.agg #[.int .i64 0, .int .i64 0, .int .i64 0, .int .i64 0, .bool false], .agg #[.int .i64 0, .int .i64 0, .int .i64 0, .int .i64 0, .bool false]] rfl (by kernel_rfl) (by kernel_rfl) (by kernel_rfl) (witness_row os enc)) ?_
  intro W base args ds gs before hval hW _ _ hsz hL _ _
  exact contract H enc W base args ds gs before hval hW hsz hL

theorem row : Rows.LunisolarComparesSaid :=
  OpenClaim.holds_of_cond 11 Tryd.f11 rfl rfl rfl rfl rfl rfl rfl ⟨rfl, rfl, rfl, rfl, rfl⟩ rfl rfl rfl rfl rfl (by kernel_rfl) Tryd.func11 (by kernel_rfl)
    (of_decide_eq_true (by kernel_rfl)) (by unfold Func.isWrapper; rw [if_neg (of_decide_eq_false (by kernel_rfl))]; exact ⟨rfl, rfl⟩)
    (fun os started H enc _ F0 => by rw [OpenClaim.pre_eq_preRow]; exact lifted os started H enc F0)

/-- No parameter wants a stand-in; the program's own looks are off. -/
theorem plain (f : FuncId) (fn : Func) (hf : Tryd.pinned.checked.prog.funcNamed "pentaglot/pentaglotlaw18.LunisolarCompares" = some f) (hfn : Tryd.pinned.checked.prog.funcs[f]? = some fn) :
    false = Tryd.pinned.checked.prog.looks [] ∧ ∀ (j : Nat) t, fn.params[j]? = some t → Tryd.pinned.checked.prog.wantsStandIn t = false := by
  obtain rfl : f = 11 := Option.some.inj ((show Tryd.prog.funcNamed "pentaglot/pentaglotlaw18.LunisolarCompares" = some 11 by kernel_rfl).symm.trans hf) |>.symm
  obtain rfl : fn = Tryd.f11 := (Option.some.inj (Tryd.func11.symm.trans hfn)).symm
  refine ⟨by kernel_rfl, fun j t ht => ?_⟩
  rw [Tryd.params11] at ht
  have hm : t = 34 ∨ t = 34 := by simpa using Array.mem_of_getElem? ht
  rcases hm with rfl | rfl
  · exact (show Tryd.prog.wantsStandIn 34 = false by kernel_rfl)
  · exact (show Tryd.prog.wantsStandIn 34 = false by kernel_rfl)

theorem proved : Rows.LunisolarComparesCardSaid :=
  Claim7.holds_tied_plain_at .later [] _ _ _ _ row (fun _ h => by cases h) (by kernel_rfl) (fun _ h => by cases h) lunisolarCompares_row_tie rfl ⟨rfl, rfl⟩ (by kernel_rfl) rfl plain (by kernel_rfl)
#print axioms proved
end Go.Proofs.YtdeojpmimhagjabDoor.lawNCompares
