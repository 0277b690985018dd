/-
  The day of the solar date of a day is that day, and the date of the day of a date is that date: the law CalendarInverts returns true. (a tied card: pruned copy of the program; the table of the months' lengths holds what its text lays).
-/
import Derived.Test.YtdeojpmimhagjaaDoorCalFrame
import Derived.Test.YtdeojpmimhagjaaDoorCalAwake
import Derived.Test.YtdeojpmimhagjaaDoorCalDay
import Derived.Test.YtdeojpmimhagjaaDoorCards
import Derived.Test.YtdeojpmimhagjaaDoorTie
import Derived.Deep.DeepHandedRow
import Derived.Deep.DeepWitnessRowRef
import Derived.SevenTiedAt
namespace Go.Proofs.YtdeojpmimhagjaaDoor.lawCInverts
open Go.ChangeShapes Go.WideShapes Go.ChangeAt Go.RowKit
open CalPlain

set_option maxRecDepth 100000 in
set_option maxHeartbeats 1600000 in
theorem walk (n : Int) (c y m d : Int) (l : Bool) (w : World) (ht : Tab w) (_ : (Lit.int .i64 n).wf = true) (_ : (Lit.int .i64 c).wf = true) (_ : (Lit.int .i64 y).wf = true) (_ : (Lit.int .i64 m).wf = true) (zd : (Lit.int .i64 d).wf = true) :
    Calls Tryd.prog 9 #[.int .i64 n, (.agg #[.int .i64 c, .int .i64 y, .int .i64 m, .int .i64 d, .bool l])] w (BoolPost w true) := by
  have H1 := Lib.hid (fun w ht => SolarDate_any n w ht)
  have H2 := Lib.hid (fun w ht => SolarDay_any c y m d l w ht zd)
  have hen : ckV n = 0 ∨ (ckV n ≠ 0 ∧ ¬ (0 ≤ n ∧ n ≤ 999999)) := by
    unfold ckV
    by_cases h1 : n < 0
    · right; rw [if_pos h1]; omega
    · rw [if_neg h1]
      by_cases h2 : 999999 < n
      · right; rw [if_pos h2]; omega
      · left; rw [if_neg h2]
  generalize hE : ckV n = E at *
  have HE := Lib.hid hE
  clear hE
  have HD := Lib.hid (show (c = 1 ∧ l = false ∧ (okD y m d ∧ num y m d ≤ 999999) ∧ sdV c y m d l = (num y m d, 0)) ∨ (∃ E2 : Int, E2 ≠ 0 ∧ sdV c y m d l = (0, E2)) by
    by_cases h : c = 1 ∧ l = false ∧ okD y m d
    · obtain ⟨rfl, rfl, hok⟩ := h
      by_cases k : num y m d ≤ 999999
      · exact .inl ⟨rfl, rfl, ⟨hok, k⟩, sdV_ok hok k⟩
      · exact .inr ⟨2, by decide, sdV_big hok k⟩
    · exact .inr ⟨1, by decide, sdV_bad h⟩)
  have b1 := BoxD.new w c y m d l
  have A2 := (Aft.refl w).alloc (.cells #[.int .i64 c, .int .i64 y, .int .i64 m, .int .i64 d, .bool l] 30)
  go_enter Tryd.func9, Tryd.ntmps9
  go_wp2_with fail
  refine (awake_any _ (ht.aft A2)).mono ?_
  rintro e v1 ⟨rfl, N3⟩
  have A4 := A2.trans N3
  have b5 := b1.aft N3
  clear b1
  go_wp2_with fail
  refine (H1.out _ (ht.aft A4)).mono ?_
  rintro e v2 ⟨c', y', m', d', rfl, hs, N6⟩
  try rw [HE.out]
  have A7 := A4.trans N6
  have b8 := b5.aft N6
  clear b5
  have b9 := b8.aft ((Aft.refl v2).alloc (.cells #[.int .i64 c', .int .i64 y', .int .i64 m', .int .i64 d', .bool false] 30))
  clear b8
  have b10 := BoxD.new v2 c' y' m' d' false
  have A11 := A7.alloc (.cells #[.int .i64 c', .int .i64 y', .int .i64 m', .int .i64 d', .bool false] 30)
  rcases hen with he0 | ⟨he1, he2⟩
  · subst he0
    obtain ⟨h0, h1, rfl, hok', hn'⟩ : 0 ≤ n ∧ n ≤ 999999 ∧ c' = 1 ∧ okD y' m' d' ∧ num y' m' d' = n := by
      rcases hs with h | h
      · exact h
      · have := HE.out; unfold ckV at this; exfalso; apply h.1; split at this <;> (try split at this) <;> omega
    clear hs
    have hwd : (Lit.int .i64 d').wf = true := by
      have := hok'.1; have := hok'.2; have := mdays_bd y' m'
      simp [Lit.wf, IntKind.min, IntKind.max, IntKind.bits, IntKind.signed]; omega
    have hs1 := sdV_ok hok' (by omega)
    rw [hn'] at hs1
    have H3 := Lib.hid (fun w ht => SolarDay_any 1 y' m' d' false w ht hwd)
    rw [hs1] at H3
    dsimp only at H3
    clear hs1 hn' hok' hwd
    obtain ⟨c12, c13, c14, c15, c16⟩ := b10.five
    clear b10
    go_wp2_with fail
    refine (H3.out _ (ht.aft A11)).mono ?_
    rintro e v3 ⟨rfl, N17⟩
    have A18 := A11.trans N17
    have b19 := b9.aft N17
    clear b9
    rcases HD.out with ⟨rfl, rfl, hok, hk⟩ | ⟨E2, hE2, hk⟩
    · have HOK := Lib.hid hok
      have hnk := SolIs.of hok.1 hok.2
      have HNK := Lib.hid hnk
      have hce : ckV (num y m d) = 0 := by rcases hnk with h | h <;> first | exact ckV_ok h.1 h.2.1 | (exact absurd h.2.1 (by omega))
      have HCE := Lib.hid hce
      rw [hk] at H2
      have hq9 := deq_refl 1 y m d false
      clear hok hnk hce hk
      generalize num y m d = r at *
      dsimp only at H2
      obtain ⟨c20, c21, c22, c23, c24⟩ := b19.five
      go_wp2_with fail
      refine (H2.out _ (ht.aft A18)).mono ?_
      rintro e v4 ⟨rfl, N25⟩
      have A26 := A18.trans N25
      have b27 := b19.aft N25
      clear b19
      go_wp2_with fail
      refine (SolarDate_any r _ (ht.aft A26)).mono ?_
      rintro e v5 ⟨c3, y3, m3, d3, rfl, hs3, N28⟩
      obtain ⟨rfl, rfl, rfl, rfl⟩ := HNK.out.unique hs3
      rw [HCE.out]
      clear hs3
      have A29 := A26.trans N28
      have b30 := b27.aft N28
      clear b27
      have b31 := b30.aft ((Aft.refl v5).alloc (.cells #[.int .i64 1, .int .i64 y, .int .i64 m, .int .i64 d, .bool false] 30))
      clear b30
      have b32 := BoxD.new v5 1 y m d false
      have A33 := A29.alloc (.cells #[.int .i64 1, .int .i64 y, .int .i64 m, .int .i64 d, .bool false] 30)
      obtain ⟨c34, c35, c36, c37, c38⟩ := b32.five
      clear b32
      obtain ⟨c39, c40, c41, c42, c43⟩ := b31.five
      clear b31
      go_wp2
      go_ret
      exact ⟨by first | rfl | simp, A33⟩
    · rw [hk] at H2
      clear hk
      dsimp only at H2
      have hE2b : (E2 != 0) = true := by simp [hE2]
      have hE2c : (E2 == 0) = false := by simp [hE2]
      obtain ⟨c20, c21, c22, c23, c24⟩ := b19.five
      clear b19
      go_wp2_with fail
      refine (H2.out _ (ht.aft A18)).mono ?_
      rintro e v4 ⟨rfl, N25⟩
      have A26 := A18.trans N25
      go_wp2
      go_ret
      exact ⟨by first | rfl | simp, A26⟩
  · clear hs
    have he1b : (E == 0) = false := by simp [he1]
    have he1c : (E != 0) = true := by simp [he1]
    rcases HD.out with ⟨rfl, rfl, hok, hk⟩ | ⟨E2, hE2, hk⟩
    · have HOK := Lib.hid hok
      have hnk := SolIs.of hok.1 hok.2
      have HNK := Lib.hid hnk
      have hce : ckV (num y m d) = 0 := by rcases hnk with h | h <;> first | exact ckV_ok h.1 h.2.1 | (exact absurd h.2.1 (by omega))
      have HCE := Lib.hid hce
      rw [hk] at H2
      have hq9 := deq_refl 1 y m d false
      clear hok hnk hce hk
      generalize num y m d = r at *
      dsimp only at H2
      obtain ⟨c12, c13, c14, c15, c16⟩ := b9.five
      go_wp2_with fail
      refine (H2.out _ (ht.aft A11)).mono ?_
      rintro e v3 ⟨rfl, N17⟩
      have A18 := A11.trans N17
      have b19 := b9.aft N17
      clear b9
      have b20 := b10.aft N17
      clear b10
      go_wp2_with fail
      refine (SolarDate_any r _ (ht.aft A18)).mono ?_
      rintro e v4 ⟨c3, y3, m3, d3, rfl, hs3, N21⟩
      obtain ⟨rfl, rfl, rfl, rfl⟩ := HNK.out.unique hs3
      rw [HCE.out]
      clear hs3
      have A22 := A18.trans N21
      have b23 := b19.aft N21
      clear b19
      have b24 := b20.aft N21
      clear b20
      have b25 := b23.aft ((Aft.refl v4).alloc (.cells #[.int .i64 1, .int .i64 y, .int .i64 m, .int .i64 d, .bool false] 30))
      clear b23
      have b26 := b24.aft ((Aft.refl v4).alloc (.cells #[.int .i64 1, .int .i64 y, .int .i64 m, .int .i64 d, .bool false] 30))
      clear b24
      have b27 := BoxD.new v4 1 y m d false
      have A28 := A22.alloc (.cells #[.int .i64 1, .int .i64 y, .int .i64 m, .int .i64 d, .bool false] 30)
      obtain ⟨c29, c30, c31, c32, c33⟩ := b27.five
      clear b27
      obtain ⟨c34, c35, c36, c37, c38⟩ := b25.five
      clear b25
      go_wp2
      go_ret
      exact ⟨by first | rfl | simp, A28⟩
    · rw [hk] at H2
      clear hk
      dsimp only at H2
      have hE2b : (E2 != 0) = true := by simp [hE2]
      have hE2c : (E2 == 0) = false := by simp [hE2]
      obtain ⟨c12, c13, c14, c15, c16⟩ := b9.five
      clear b9
      go_wp2_with fail
      refine (H2.out _ (ht.aft A11)).mono ?_
      rintro e v3 ⟨rfl, N17⟩
      have A18 := A11.trans N17
      have b19 := b10.aft N17
      clear b10
      go_wp2
      go_ret
      exact ⟨by first | rfl | simp, A18⟩

theorem own : ownKnob Tryd.prog.godebug = none := by kernel_rfl
theorem laidOut : laidOutB Tryd.prog = true := by kernel_rfl

set_option maxRecDepth 100000 in
theorem contract (H : Type) (enc : TypeId × Value → H) (W : World) (base : Nat) (args : Array Value) (ds gs : List (DataW H)) (before : List MemPlace)
    (hval : ∀ (j : Nat) t v, Tryd.f9.params[j]? = some t → args[j]? = some v → Value.okWide Tryd.prog W .any base t v)
    (hW : DataW.Whole enc Tryd.prog Tryd.f9.params.toList Rows.calendarInvertsSpec.vars false W args.toList ds gs before) (hsz0 : (DataW.weightsEach Tryd.prog (Tryd.f9.params.toList ++ Rows.calendarInvertsSpec.plain.varTypes Tryd.prog) (ds ++ gs)).all (· ≤ reachBytes) = true) (hL : laidMetH Tryd.prog listed W) :
    Calls Tryd.prog 9 args W fun e W' => ∃ v, e = .returned v ∧ Rows.calendarInvertsSpec.post enc Tryd.prog Tryd.f9 false true false false W args v W' := by
  have hW' := hW
  obtain ⟨p, q, hA0, hV, rfl, hfz, hnd⟩ := hW
  have hA : DataW.TrodAll enc Tryd.prog W 0 (fun _ => true) true Tryd.f9.params.toList args.toList ds p := hA0
  have hsz := hsz0
  rw [Tryd.params9] at hA hval hsz
  obtain ⟨v0, vs0, d0, ds0, p0, q0, hargs, rfl, rfl, h0, r0⟩ := trodAll_cons hA
  obtain ⟨v1, vs1, d1, ds1, p1, q1, rfl, rfl, rfl, h1, r1⟩ := trodAll_cons r0
  obtain ⟨rfl, rfl, rfl⟩ := trodAll_nil r1
  obtain rfl : args = #[v0, v1] := by cases args; simp_all
  obtain ⟨rfl, rfl⟩ := trodVars_none hV
  obtain ⟨xs0, rfl, rfl, rfl, z0⟩ := open_int Tryd.underlying3 (hval 0 3 v0 rfl rfl) h0
  have lt1 : ∀ x ∈ p1, x.block < W.heap.size := by obtain ⟨m, hm⟩ := h1; exact DataW.trod_lt m _ _ _ hm
  obtain ⟨xc1, xy1, xm1, xd1, xl1, rfl, zc1, zy1, zm1, zd1⟩ := date_of (okWide_struct Tryd.underlying30 (hval 1 30 v1 rfl rfl)) h1
  clear hA0
  refine (walk xs0 xc1 xy1 xm1 xd1 xl1 W (tabs_of hL) z0 zc1 zy1 zm1 zd1).mono fun e W' ⟨he, bel⟩ => ?_
  subst he
  exact ⟨_, rfl, _, _, _, [], _, [], hW', trodAll_mk1 (shut_bool Tryd.underlying4 _), (trodAll_cons_mk (shut_int Tryd.underlying3 z0) (trodAll_cons_mk (Below.trod laidOut (by kernel_rfl) (of_decide_eq_true (by kernel_rfl)) h1 bel lt1) trodAll_mk0)), rfl, Below.frame bel _, fun h => by cases h⟩

theorem witness_row (os : Os) {H : Type} (enc : TypeId × Value → H) :
    (OpenSpec.ofChange Rows.calendarInvertsSpec).preRow enc Tryd.prog Tryd.f9 Rows.calendarInvertsRow.domain false Rows.calendarInvertsRow.laid ((laidWorld os).forCall (fun _ _ => 0) ⟨#[], #[.int .i64 0, .agg #[.int .i64 0, .int .i64 0, .int .i64 0, .int .i64 0, .bool false]], []⟩).memory #[.int .i64 0, .agg #[.int .i64 0, .int .i64 0, .int .i64 0, .int .i64 0, .bool false]] := by
  have hw : (DataW.whole enc Tryd.prog ((laidWorld os).forCall (fun _ _ => 0) ⟨#[], #[.int .i64 0, .agg #[.int .i64 0, .int .i64 0, .int .i64 0, .int .i64 0, .bool false]], []⟩).memory Tryd.f9.params.toList Rows.calendarInvertsSpec.vars false (#[.int .i64 0, .agg #[.int .i64 0, .int .i64 0, .int .i64 0, .int .i64 0, .bool false]] : Array Value).toList 8).map (fun x => (x.1, x.2.1)) =
      some ([.lit (.int .i64 0), .agg [.lit (.int .i64 0), .lit (.int .i64 0), .lit (.int .i64 0), .lit (.int .i64 0), .lit (.bool false)]], []) := by kernel_rfl
  obtain ⟨⟨x1, x2, x3⟩, hx, hx1⟩ := Option.map_eq_some_iff.1 hw
  simp only [Prod.mk.injEq] at hx1
  obtain ⟨rfl, rfl⟩ := hx1
  exact OpenSpec.preRow_of_cond 8 hx (by kernel_rfl) (fun k hk => by cases hk) (by kernel_rfl) (laid_met os _)

set_option maxRecDepth 100000 in
theorem lifted (os : Os) (started : os.Started) (H : Type) (enc : TypeId × Value → H) (F : Stop.Interp) :
    ReturnsInHanded {} Tryd.checked os 9 .any ((OpenSpec.ofChange Rows.calendarInvertsSpec).preRow enc Tryd.prog Tryd.f9 Rows.calendarInvertsRow.domain false Rows.calendarInvertsRow.laid) (((OpenSpec.ofChange Rows.calendarInvertsSpec).at F).post enc Tryd.prog Tryd.f9 false true false false) := by
  refine returnsInHanded_of_row (C := Tryd.checked) (s := (OpenSpec.ofChange Rows.calendarInvertsSpec)) own started (by kernel_rfl) Tryd.func9
    (witness_row_atRef (enc := enc) (C := Tryd.checked) false (laidWorld os) #[.int .i64 0, .agg #[.int .i64 0, .int .i64 0, .int .i64 0, .int .i64 0, .bool false]] rfl (by kernel_rfl) (by kernel_rfl) (by kernel_rfl) (witness_row os enc)) ?_
  intro W base args ds gs before hval hW _ _ hsz hL _ _
  exact contract H enc W base args ds gs before hval hW hsz hL

theorem row : Rows.CalendarInvertsSaid :=
  OpenClaim.holds_of_cond 9 Tryd.f9 rfl rfl rfl rfl rfl rfl rfl ⟨rfl, rfl, rfl, rfl, rfl⟩ rfl rfl rfl rfl rfl (by kernel_rfl) Tryd.func9 (by kernel_rfl)
    (of_decide_eq_true (by kernel_rfl)) (by unfold Func.isWrapper; rw [if_neg (of_decide_eq_false (by kernel_rfl))]; exact ⟨rfl, rfl⟩)
    (fun os started H enc _ F0 => by rw [OpenClaim.pre_eq_preRow]; exact lifted os started H enc F0)

/-- No parameter wants a stand-in; the program's own looks are off. -/
theorem plain (f : FuncId) (fn : Func) (hf : Tryd.pinned.checked.prog.funcNamed "pentaglot/pentaglotlaw17.CalendarInverts" = some f) (hfn : Tryd.pinned.checked.prog.funcs[f]? = some fn) :
    false = Tryd.pinned.checked.prog.looks [] ∧ ∀ (j : Nat) t, fn.params[j]? = some t → Tryd.pinned.checked.prog.wantsStandIn t = false := by
  obtain rfl : f = 9 := Option.some.inj ((show Tryd.prog.funcNamed "pentaglot/pentaglotlaw17.CalendarInverts" = some 9 by kernel_rfl).symm.trans hf) |>.symm
  obtain rfl : fn = Tryd.f9 := (Option.some.inj (Tryd.func9.symm.trans hfn)).symm
  refine ⟨by kernel_rfl, fun j t ht => ?_⟩
  rw [Tryd.params9] at ht
  have hm : t = 3 ∨ t = 30 := by simpa using Array.mem_of_getElem? ht
  rcases hm with rfl | rfl
  · exact (show Tryd.prog.wantsStandIn 3 = false by kernel_rfl)
  · exact (show Tryd.prog.wantsStandIn 30 = false by kernel_rfl)

theorem proved : Rows.CalendarInvertsCardSaid :=
  Claim7.holds_tied_plain_at .later [] _ _ _ _ row (fun _ h => by cases h) (by kernel_rfl) (fun _ h => by cases h) calendarInverts_row_tie rfl ⟨rfl, rfl⟩ (by kernel_rfl) rfl plain (by kernel_rfl)
#print axioms proved
end Go.Proofs.YtdeojpmimhagjaaDoor.lawCInverts
