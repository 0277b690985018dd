/-
  Day inverts Date for every day, and Date inverts Day for every date that has a day: the law LunisolarInverts returns true. (a tied card: pruned copy of the program; the table of the months' lengths holds what its text lays).
-/
import Derived.Test.YtdeojpmimhagjabDoorLunFrame
import Derived.Test.YtdeojpmimhagjabDoorLunAwake
import Derived.Test.YtdeojpmimhagjabDoorLunRef
import Derived.Test.YtdeojpmimhagjabDoorCards
import Derived.Test.YtdeojpmimhagjabDoorTie
import Derived.Deep.DeepHandedRow
import Derived.Deep.DeepWitnessRowRef
import Derived.SevenTiedAt
namespace Go.Proofs.YtdeojpmimhagjabDoor.lawNInverts
open Go.ChangeShapes Go.WideShapes Go.ChangeAt Go.RowKit
open LunPlain

set_option maxRecDepth 100000 in
set_option maxHeartbeats 1600000 in
theorem walk (n : Int) (c y m d : Int) (l : Bool) (w : World) (ht : Tab w) (_ : (Lit.int .i64 n).wf = true) (_ : (Lit.int .i64 c).wf = true) (_ : (Lit.int .i64 y).wf = true) (_ : (Lit.int .i64 m).wf = true) (zd : (Lit.int .i64 d).wf = true) :
    Calls Tryd.prog 9 #[.int .i64 n, (.agg #[.int .i64 c, .int .i64 y, .int .i64 m, .int .i64 d, .bool l])] w (BoolPost w true) := by
  have H2 := Lib.hid (fun w ht => Day_any c y m d l w ht zd)
  have HDY := Lib.hid (fun n w => day_any n w)
  have HD := Lib.hid (show (c = 2 ∧ okD 2 y m l d ∧ num y m l d ≤ 999999 ∧ dayV c y m l d = (num y m l d, 0)) ∨ (∃ E2 : Int, E2 ≠ 0 ∧ dayV c y m l d = (0, E2)) by
    by_cases h : okD c y m l d
    · obtain rfl := h.in_.1
      by_cases k : num y m l d ≤ 999999
      · exact .inl ⟨rfl, h, k, dayV_ok h k⟩
      · exact .inr ⟨2, by decide, dayV_big h k⟩
    · exact .inr ⟨1, by decide, dayV_bad h⟩)
  by_cases h : 0 ≤ n ∧ n ≤ 999999
  · have HDN := Lib.hid (fun w => HDY.out n w)
    rw [decide_eq_true h] at HDN
    have b1 := BoxD.new w c y m d l
    have A2 := (Aft.refl w).alloc (.cells #[.int .i64 c, .int .i64 y, .int .i64 m, .int .i64 d, .bool l] 34)
    go_enter Tryd.func9, Tryd.ntmps9
    go_wp2_with fail
    refine (awake_t _ (ht.aft A2)).mono ?_
    rintro e v1 ⟨rfl, N3⟩
    have A4 := A2.trans N3
    have b5 := b1.aft N3
    clear b1
    go_wp2_with fail
    refine (HDN.out _).mono ?_
    rintro e w' ⟨rfl, rfl⟩
    go_wp2_with fail
    refine (Date_t n _ (ht.aft A4)).mono ?_
    rintro e v2 ⟨c1, y1, m1, d1, l1, rfl, hs, N6⟩
    obtain ⟨_, _, rfl, hok1, hn1⟩ : 0 ≤ n ∧ n ≤ 999999 ∧ c1 = 2 ∧ okD 2 y1 m1 l1 d1 ∧ num y1 m1 l1 d1 = n := by
      rcases hs with h | h
      · exact h
      · exact absurd (by omega) h.1
    rw [err_in (n := n) (by omega) (by omega)]
    clear hs
    have hwd : (Lit.int .i64 d1).wf = true := by
      have := hok1.1; have := hok1.in_.2.2; have := md_bd m1 l1
      simp [Lit.wf, IntKind.min, IntKind.max, IntKind.bits, IntKind.signed]; omega
    have hs1 := dayV_ok hok1 (by omega)
    rw [hn1] at hs1
    have H3 := Lib.hid (fun w ht => Day_any 2 y1 m1 d1 l1 w ht hwd)
    rw [hs1] at H3
    dsimp only at H3
    clear hs1 hn1 hok1 hwd
    have A7 := A4.trans N6
    have b8 := b5.aft N6
    clear b5
    have b9 := b8.aft ((Aft.refl v2).alloc (.cells #[.int .i64 2, .int .i64 y1, .int .i64 m1, .int .i64 d1, .bool l1] 34))
    clear b8
    have b10 := BoxD.new v2 2 y1 m1 d1 l1
    have A11 := A7.alloc (.cells #[.int .i64 2, .int .i64 y1, .int .i64 m1, .int .i64 d1, .bool l1] 34)
    obtain ⟨c12, c13, c14, c15, c16⟩ := b10.five
    clear b10
    go_wp2_with fail
    refine (H3.out _ (ht.aft A11)).mono ?_
    rintro e v3 ⟨rfl, N17⟩
    have A18 := A11.trans N17
    have b19 := b9.aft N17
    clear b9
    rcases HD.out with ⟨rfl, hok, hk0, hk⟩ | ⟨E2, hE2, hk⟩
    · have HNK := Lib.hid (LunIs.of hok hk0)
      have hrg : 0 ≤ num y m l d ∧ num y m l d ≤ 999999 := by rcases HNK.out with g | g <;> first | exact ⟨g.1, g.2.1⟩ | exact absurd g.2.1 (by omega)
      have HCE := Lib.hid (err_in hrg.1 hrg.2)
      rw [hk] at H2
      have hq9 := deq_refl 2 y m d l
      clear hok hk hk0
      generalize num y m l d = r at *
      have HDR := Lib.hid (fun w => HDY.out r w)
      rw [decide_eq_true hrg] at HDR
      dsimp only at H2
      obtain ⟨c20, c21, c22, c23, c24⟩ := b19.five
      go_wp2_with fail
      refine (H2.out _ (ht.aft A18)).mono ?_
      rintro e v4 ⟨rfl, N25⟩
      have A26 := A18.trans N25
      have b27 := b19.aft N25
      clear b19
      go_wp2_with fail
      refine (Date_t r _ (ht.aft A26)).mono ?_
      rintro e v5 ⟨c3, y3, m3, d3, l3, rfl, hs3, N28⟩
      obtain ⟨rfl, rfl, rfl, rfl, rfl⟩ := HNK.out.unique hs3
      rw [HCE.out]
      clear hs3
      have A29 := A26.trans N28
      have b30 := b27.aft N28
      clear b27
      have b31 := b30.aft ((Aft.refl v5).alloc (.cells #[.int .i64 2, .int .i64 y, .int .i64 m, .int .i64 d, .bool l] 34))
      clear b30
      have b32 := BoxD.new v5 2 y m d l
      have A33 := A29.alloc (.cells #[.int .i64 2, .int .i64 y, .int .i64 m, .int .i64 d, .bool l] 34)
      go_wp2_with fail
      refine (HDR.out _).mono ?_
      rintro e w' ⟨rfl, rfl⟩
      obtain ⟨c34, c35, c36, c37, c38⟩ := b32.five
      clear b32
      obtain ⟨c39, c40, c41, c42, c43⟩ := b31.five
      clear b31
      go_wp2
      go_ret
      exact ⟨by first | rfl | simp, A33⟩
    · rw [hk] at H2
      clear hk
      dsimp only at H2
      have hE2b : (E2 != 0) = true := by simp [hE2]
      have hE2c : (E2 == 0) = false := by simp [hE2]
      obtain ⟨c20, c21, c22, c23, c24⟩ := b19.five
      clear b19
      go_wp2_with fail
      refine (H2.out _ (ht.aft A18)).mono ?_
      rintro e v4 ⟨rfl, N25⟩
      have A26 := A18.trans N25
      go_wp2
      go_ret
      exact ⟨by first | rfl | simp, A26⟩
  · have HDN := Lib.hid (fun w => HDY.out n w)
    rw [decide_eq_false h] at HDN
    have b1 := BoxD.new w c y m d l
    have A2 := (Aft.refl w).alloc (.cells #[.int .i64 c, .int .i64 y, .int .i64 m, .int .i64 d, .bool l] 34)
    go_enter Tryd.func9, Tryd.ntmps9
    go_wp2_with fail
    refine (awake_t _ (ht.aft A2)).mono ?_
    rintro e v1 ⟨rfl, N3⟩
    have A4 := A2.trans N3
    have b5 := b1.aft N3
    clear b1
    go_wp2_with fail
    refine (HDN.out _).mono ?_
    rintro e w' ⟨rfl, rfl⟩
    rcases HD.out with ⟨rfl, hok, hk0, hk⟩ | ⟨E2, hE2, hk⟩
    · have HNK := Lib.hid (LunIs.of hok hk0)
      have hrg : 0 ≤ num y m l d ∧ num y m l d ≤ 999999 := by rcases HNK.out with g | g <;> first | exact ⟨g.1, g.2.1⟩ | exact absurd g.2.1 (by omega)
      have HCE := Lib.hid (err_in hrg.1 hrg.2)
      rw [hk] at H2
      have hq9 := deq_refl 2 y m d l
      clear hok hk hk0
      generalize num y m l d = r at *
      have HDR := Lib.hid (fun w => HDY.out r w)
      rw [decide_eq_true hrg] at HDR
      dsimp only at H2
      obtain ⟨c6, c7, c8, c9, c10⟩ := b5.five
      go_wp2_with fail
      refine (H2.out _ (ht.aft A4)).mono ?_
      rintro e v2 ⟨rfl, N11⟩
      have A12 := A4.trans N11
      have b13 := b5.aft N11
      clear b5
      go_wp2_with fail
      refine (Date_t r _ (ht.aft A12)).mono ?_
      rintro e v3 ⟨c3, y3, m3, d3, l3, rfl, hs3, N14⟩
      obtain ⟨rfl, rfl, rfl, rfl, rfl⟩ := HNK.out.unique hs3
      rw [HCE.out]
      clear hs3
      have A15 := A12.trans N14
      have b16 := b13.aft N14
      clear b13
      have b17 := b16.aft ((Aft.refl v3).alloc (.cells #[.int .i64 2, .int .i64 y, .int .i64 m, .int .i64 d, .bool l] 34))
      clear b16
      have b18 := BoxD.new v3 2 y m d l
      have A19 := A15.alloc (.cells #[.int .i64 2, .int .i64 y, .int .i64 m, .int .i64 d, .bool l] 34)
      go_wp2_with fail
      refine (HDR.out _).mono ?_
      rintro e w' ⟨rfl, rfl⟩
      obtain ⟨c20, c21, c22, c23, c24⟩ := b18.five
      clear b18
      obtain ⟨c25, c26, c27, c28, c29⟩ := b17.five
      clear b17
      go_wp2
      go_ret
      exact ⟨by first | rfl | simp, A19⟩
    · rw [hk] at H2
      clear hk
      dsimp only at H2
      have hE2b : (E2 != 0) = true := by simp [hE2]
      have hE2c : (E2 == 0) = false := by simp [hE2]
      obtain ⟨c6, c7, c8, c9, c10⟩ := b5.five
      clear b5
      go_wp2_with fail
      refine (H2.out _ (ht.aft A4)).mono ?_
      rintro e v2 ⟨rfl, N11⟩
      have A12 := A4.trans N11
      go_wp2
      go_ret
      exact ⟨by first | rfl | simp, A12⟩

theorem own : ownKnob Tryd.prog.godebug = none := by kernel_rfl
theorem laidOut : laidOutB Tryd.prog = true := by kernel_rfl

set_option maxRecDepth 100000 in
theorem contract (H : Type) (enc : TypeId × Value → H) (W : World) (base : Nat) (args : Array Value) (ds gs : List (DataW H)) (before : List MemPlace)
    (hval : ∀ (j : Nat) t v, Tryd.f9.params[j]? = some t → args[j]? = some v → Value.okWide Tryd.prog W .any base t v)
    (hW : DataW.Whole enc Tryd.prog Tryd.f9.params.toList Rows.lunisolarInvertsSpec.vars false W args.toList ds gs before) (hsz0 : (DataW.weightsEach Tryd.prog (Tryd.f9.params.toList ++ Rows.lunisolarInvertsSpec.plain.varTypes Tryd.prog) (ds ++ gs)).all (· ≤ reachBytes) = true) (hL : laidMetH Tryd.prog listed W) :
    Calls Tryd.prog 9 args W fun e W' => ∃ v, e = .returned v ∧ Rows.lunisolarInvertsSpec.post enc Tryd.prog Tryd.f9 false true false false W args v W' := by
  have hW' := hW
  obtain ⟨p, q, hA0, hV, rfl, hfz, hnd⟩ := hW
  have hA : DataW.TrodAll enc Tryd.prog W 0 (fun _ => true) true Tryd.f9.params.toList args.toList ds p := hA0
  have hsz := hsz0
  rw [Tryd.params9] at hA hval hsz
  obtain ⟨v0, vs0, d0, ds0, p0, q0, hargs, rfl, rfl, h0, r0⟩ := trodAll_cons hA
  obtain ⟨v1, vs1, d1, ds1, p1, q1, rfl, rfl, rfl, h1, r1⟩ := trodAll_cons r0
  obtain ⟨rfl, rfl, rfl⟩ := trodAll_nil r1
  obtain rfl : args = #[v0, v1] := by cases args; simp_all
  obtain ⟨rfl, rfl⟩ := trodVars_none hV
  obtain ⟨xs0, rfl, rfl, rfl, z0⟩ := open_int Tryd.underlying3 (hval 0 3 v0 rfl rfl) h0
  have lt1 : ∀ x ∈ p1, x.block < W.heap.size := by obtain ⟨m, hm⟩ := h1; exact DataW.trod_lt m _ _ _ hm
  obtain ⟨xc1, xy1, xm1, xd1, xl1, rfl, zc1, zy1, zm1, zd1⟩ := date_of (okWide_struct Tryd.underlying34 (hval 1 34 v1 rfl rfl)) h1
  clear hA0
  refine (walk xs0 xc1 xy1 xm1 xd1 xl1 W (tabs_of hL) z0 zc1 zy1 zm1 zd1).mono fun e W' ⟨he, bel⟩ => ?_
  subst he
  exact ⟨_, rfl, _, _, _, [], _, [], hW', trodAll_mk1 (shut_bool Tryd.underlying4 _), (trodAll_cons_mk (shut_int Tryd.underlying3 z0) (trodAll_cons_mk (Below.trod laidOut (by kernel_rfl) (of_decide_eq_true (by kernel_rfl)) h1 bel lt1) trodAll_mk0)), rfl, Below.frame bel _, fun h => by cases h⟩

theorem witness_row (os : Os) {H : Type} (enc : TypeId × Value → H) :
    (OpenSpec.ofChange Rows.lunisolarInvertsSpec).preRow enc Tryd.prog Tryd.f9 Rows.lunisolarInvertsRow.domain false Rows.lunisolarInvertsRow.laid ((laidWorld os).forCall (fun _ _ => 0) ⟨#[], #[.int .i64 0, .agg #[.int .i64 0, .int .i64 0, .int .i64 0, .int .i64 0, .bool false]], []⟩).memory #[.int .i64 0, .agg #[.int .i64 0, .int .i64 0, .int .i64 0, .int .i64 0, .bool false]] := by
  have hw : (DataW.whole enc Tryd.prog ((laidWorld os).forCall (fun _ _ => 0) ⟨#[], #[.int .i64 0, .agg #[.int .i64 0, .int .i64 0, .int .i64 0, .int .i64 0, .bool false]], []⟩).memory Tryd.f9.params.toList Rows.lunisolarInvertsSpec.vars false (#[.int .i64 0, .agg #[.int .i64 0, .int .i64 0, .int .i64 0, .int .i64 0, .bool false]] : Array Value).toList 8).map (fun x => (x.1, x.2.1)) =
      some ([.lit (.int .i64 0), .agg [.lit (.int .i64 0), .lit (.int .i64 0), .lit (.int .i64 0), .lit (.int .i64 0), .lit (.bool false)]], []) := by kernel_rfl
  obtain ⟨⟨x1, x2, x3⟩, hx, hx1⟩ := Option.map_eq_some_iff.1 hw
  simp only [Prod.mk.injEq] at hx1
  obtain ⟨rfl, rfl⟩ := hx1
  exact OpenSpec.preRow_of_cond 8 hx (by kernel_rfl) (fun k hk => by cases hk) (by kernel_rfl) (laid_met os _)

set_option maxRecDepth 100000 in
theorem lifted (os : Os) (started : os.Started) (H : Type) (enc : TypeId × Value → H) (F : Stop.Interp) :
    ReturnsInHanded {} Tryd.checked os 9 .any ((OpenSpec.ofChange Rows.lunisolarInvertsSpec).preRow enc Tryd.prog Tryd.f9 Rows.lunisolarInvertsRow.domain false Rows.lunisolarInvertsRow.laid) (((OpenSpec.ofChange Rows.lunisolarInvertsSpec).at F).post enc Tryd.prog Tryd.f9 false true false false) := by
  refine returnsInHanded_of_row (C := Tryd.checked) (s := (OpenSpec.ofChange Rows.lunisolarInvertsSpec)) own started (by kernel_rfl) Tryd.func9
    (witness_row_atRef (enc := enc) (C := Tryd.checked) false (laidWorld os) #[.int .i64 0, .agg #[.int .i64 0, .int .i64 0, .int .i64 0, .int .i64 0, .bool false]] rfl (by kernel_rfl) (by kernel_rfl) (by kernel_rfl) (witness_row os enc)) ?_
  intro W base args ds gs before hval hW _ _ hsz hL _ _
  exact contract H enc W base args ds gs before hval hW hsz hL

theorem row : Rows.LunisolarInvertsSaid :=
  OpenClaim.holds_of_cond 9 Tryd.f9 rfl rfl rfl rfl rfl rfl rfl ⟨rfl, rfl, rfl, rfl, rfl⟩ rfl rfl rfl rfl rfl (by kernel_rfl) Tryd.func9 (by kernel_rfl)
    (of_decide_eq_true (by kernel_rfl)) (by unfold Func.isWrapper; rw [if_neg (of_decide_eq_false (by kernel_rfl))]; exact ⟨rfl, rfl⟩)
    (fun os started H enc _ F0 => by rw [OpenClaim.pre_eq_preRow]; exact lifted os started H enc F0)

/-- No parameter wants a stand-in; the program's own looks are off. -/
theorem plain (f : FuncId) (fn : Func) (hf : Tryd.pinned.checked.prog.funcNamed "pentaglot/pentaglotlaw18.LunisolarInverts" = some f) (hfn : Tryd.pinned.checked.prog.funcs[f]? = some fn) :
    false = Tryd.pinned.checked.prog.looks [] ∧ ∀ (j : Nat) t, fn.params[j]? = some t → Tryd.pinned.checked.prog.wantsStandIn t = false := by
  obtain rfl : f = 9 := Option.some.inj ((show Tryd.prog.funcNamed "pentaglot/pentaglotlaw18.LunisolarInverts" = some 9 by kernel_rfl).symm.trans hf) |>.symm
  obtain rfl : fn = Tryd.f9 := (Option.some.inj (Tryd.func9.symm.trans hfn)).symm
  refine ⟨by kernel_rfl, fun j t ht => ?_⟩
  rw [Tryd.params9] at ht
  have hm : t = 3 ∨ t = 34 := by simpa using Array.mem_of_getElem? ht
  rcases hm with rfl | rfl
  · exact (show Tryd.prog.wantsStandIn 3 = false by kernel_rfl)
  · exact (show Tryd.prog.wantsStandIn 34 = false by kernel_rfl)

theorem proved : Rows.LunisolarInvertsCardSaid :=
  Claim7.holds_tied_plain_at .later [] _ _ _ _ row (fun _ h => by cases h) (by kernel_rfl) (fun _ h => by cases h) lunisolarInverts_row_tie rfl ⟨rfl, rfl⟩ (by kernel_rfl) rfl plain (by kernel_rfl)
#print axioms proved
end Go.Proofs.YtdeojpmimhagjabDoor.lawNInverts
