/-
  The date 6936 days later has the same month, day and leap in a year that is 19 greater: the law LunisolarRepeats returns true. (a tied card: pruned copy of the program; the table of the months' lengths holds what its text lays).
-/
import Derived.Test.YtdeojpmimhagjabDoorLunFrame
import Derived.Test.YtdeojpmimhagjabDoorLunAwake
import Derived.Test.YtdeojpmimhagjabDoorLunRef
import Derived.Test.YtdeojpmimhagjabDoorCards
import Derived.Test.YtdeojpmimhagjabDoorTie
import Derived.Deep.DeepHandedRow
import Derived.Deep.DeepWitnessRowRef
import Derived.SevenTiedAt
namespace Go.Proofs.YtdeojpmimhagjabDoor.lawNRepeats
open Go.ChangeShapes Go.WideShapes Go.ChangeAt Go.RowKit
open LunPlain

set_option maxRecDepth 100000 in
set_option maxHeartbeats 1600000 in
theorem walk (n : Int) (w : World) (ht : Tab w) (_ : (Lit.int .i64 n).wf = true) :
    Calls Tryd.prog 12 #[.int .i64 n] w (BoolPost w true) := by
  by_cases h0 : n < 0
  · go_enter Tryd.func12, Tryd.ntmps12
    go_wp2_with fail
    refine (awake_t _ (ht.aft (Aft.refl w))).mono ?_
    rintro e v1 ⟨rfl, N1⟩
    have A2 := (Aft.refl w).trans N1
    go_wp2
    go_ret
    exact ⟨by first | rfl | simp, A2⟩
  · by_cases h1 : 993063 < n
    · go_enter Tryd.func12, Tryd.ntmps12
      go_wp2_with fail
      refine (awake_t _ (ht.aft (Aft.refl w))).mono ?_
      rintro e v1 ⟨rfl, N1⟩
      have A2 := (Aft.refl w).trans N1
      go_wp2
      go_ret
      exact ⟨by first | rfl | simp, A2⟩
    · go_enter Tryd.func12, Tryd.ntmps12
      go_wp2_with fail
      refine (awake_t _ (ht.aft (Aft.refl w))).mono ?_
      rintro e v1 ⟨rfl, N1⟩
      have A2 := (Aft.refl w).trans N1
      go_wp2_with fail
      refine (Date_t n _ (ht.aft A2)).mono ?_
      rintro e v2 ⟨c1, y1, m1, d1, l1, rfl, hs, N3⟩
      obtain ⟨_, _, rfl, hok1, hn1⟩ : 0 ≤ n ∧ n ≤ 999999 ∧ c1 = 2 ∧ okD 2 y1 m1 l1 d1 ∧ num y1 m1 l1 d1 = n := by
        rcases hs with h | h
        · exact h
        · exact absurd h.1 (by omega)
      rw [err_in (n := n) (by omega) (by omega)]
      clear hs
      have hok2 := num_19 hok1
      rw [hn1] at hok2
      have hyy := ys_ge hok1.in_.2.1.1
      have hyr := (num_range hok1).1
      have hy19 : 0 ≤ y1 ∧ y1 ≤ 999999 := by have := hok1.in_.2.1.1; omega
      have HK := Lib.hid hok2
      clear hok1 hok2 hn1 hyy hyr
      have A4 := A2.trans N3
      have b5 := BoxD.new v2 2 y1 m1 d1 l1
      have A6 := A4.alloc (.cells #[.int .i64 2, .int .i64 y1, .int .i64 m1, .int .i64 d1, .bool l1] 34)
      go_wp2_with fail
      refine (Date_t (n + 6936) _ (ht.aft A6)).mono ?_
      rintro e v3 ⟨c2, y2, m2, d2, l2, rfl, hs, N7⟩
      obtain ⟨_, _, rfl, hok3, hn3⟩ : 0 ≤ n + 6936 ∧ n + 6936 ≤ 999999 ∧ c2 = 2 ∧ okD 2 y2 m2 l2 d2 ∧ num y2 m2 l2 d2 = n + 6936 := by
        rcases hs with h | h
        · exact h
        · exact absurd h.1 (by omega)
      rw [err_in (n := n + 6936) (by omega) (by omega)]
      clear hs
      obtain ⟨rfl, rfl, rfl, rfl⟩ := num_inj HK.out.1 hok3 (by rw [hn3, HK.out.2])
      clear hok3 hn3
      have hq := deq_refl 2 (y1 + 19) m1 d1 l1
      have A8 := A6.trans N7
      have b9 := b5.aft N7
      clear b5
      have b10 := b9.aft ((Aft.refl v3).alloc (.cells #[.int .i64 2, .int .i64 (y1 + 19), .int .i64 m1, .int .i64 d1, .bool l1] 34))
      clear b9
      have b11 := BoxD.new v3 2 (y1 + 19) m1 d1 l1
      have A12 := A8.alloc (.cells #[.int .i64 2, .int .i64 (y1 + 19), .int .i64 m1, .int .i64 d1, .bool l1] 34)
      have hsz := A4.size
      have hs2 := N7.size
      rw [World.size_alloc] at hs2
      have hne : ¬ v2.heap.size = v3.heap.size := by omega
      have hne2 : ¬ v3.heap.size = v2.heap.size := by omega
      have f0 := b10.frozen 0; have f1 := b10.frozen 1; have f2 := b10.frozen 2; have f3 := b10.frozen 3; have f4 := b10.frozen 4
      obtain ⟨c13, c14, c15, c16, c17⟩ := b10.five
      clear b10
      obtain ⟨c18, c19, c20, c21, c22⟩ := b11.five
      clear b11
      go_wp2
      go_ret
      exact ⟨by first | rfl | simp, A12.setCell (show w.heap.size ≤ v2.heap.size by omega) _⟩

theorem own : ownKnob Tryd.prog.godebug = none := by kernel_rfl
theorem laidOut : laidOutB Tryd.prog = true := by kernel_rfl

set_option maxRecDepth 100000 in
theorem contract (H : Type) (enc : TypeId × Value → H) (W : World) (base : Nat) (args : Array Value) (ds gs : List (DataW H)) (before : List MemPlace)
    (hval : ∀ (j : Nat) t v, Tryd.f12.params[j]? = some t → args[j]? = some v → Value.okWide Tryd.prog W .any base t v)
    (hW : DataW.Whole enc Tryd.prog Tryd.f12.params.toList Rows.lunisolarRepeatsSpec.vars false W args.toList ds gs before) (hsz0 : (DataW.weightsEach Tryd.prog (Tryd.f12.params.toList ++ Rows.lunisolarRepeatsSpec.plain.varTypes Tryd.prog) (ds ++ gs)).all (· ≤ reachBytes) = true) (hL : laidMetH Tryd.prog listed W) :
    Calls Tryd.prog 12 args W fun e W' => ∃ v, e = .returned v ∧ Rows.lunisolarRepeatsSpec.post enc Tryd.prog Tryd.f12 false true false false W args v W' := by
  have hW' := hW
  obtain ⟨p, q, hA0, hV, rfl, hfz, hnd⟩ := hW
  have hA : DataW.TrodAll enc Tryd.prog W 0 (fun _ => true) true Tryd.f12.params.toList args.toList ds p := hA0
  have hsz := hsz0
  rw [Tryd.params12] at hA hval hsz
  obtain ⟨v0, vs0, d0, ds0, p0, q0, hargs, rfl, rfl, h0, r0⟩ := trodAll_cons hA
  obtain ⟨rfl, rfl, rfl⟩ := trodAll_nil r0
  obtain rfl : args = #[v0] := by cases args; simp_all
  obtain ⟨rfl, rfl⟩ := trodVars_none hV
  obtain ⟨xs0, rfl, rfl, rfl, z0⟩ := open_int Tryd.underlying3 (hval 0 3 v0 rfl rfl) h0
  clear hA0
  refine (walk xs0 W (tabs_of hL) z0).mono fun e W' ⟨he, bel⟩ => ?_
  subst he
  exact ⟨_, rfl, _, _, _, [], _, [], hW', trodAll_mk1 (shut_bool Tryd.underlying4 _), (trodAll_cons_mk (shut_int Tryd.underlying3 z0) trodAll_mk0), rfl, Below.frame bel _, fun h => by cases h⟩

theorem witness_row (os : Os) {H : Type} (enc : TypeId × Value → H) :
    (OpenSpec.ofChange Rows.lunisolarRepeatsSpec).preRow enc Tryd.prog Tryd.f12 Rows.lunisolarRepeatsRow.domain false Rows.lunisolarRepeatsRow.laid ((laidWorld os).forCall (fun _ _ => 0) ⟨#[], #[.int .i64 0], []⟩).memory #[.int .i64 0] := by
  have hw : (DataW.whole enc Tryd.prog ((laidWorld os).forCall (fun _ _ => 0) ⟨#[], #[.int .i64 0], []⟩).memory Tryd.f12.params.toList Rows.lunisolarRepeatsSpec.vars false (#[.int .i64 0] : Array Value).toList 8).map (fun x => (x.1, x.2.1)) =
      some ([.lit (.int .i64 0)], []) := by kernel_rfl
  obtain ⟨⟨x1, x2, x3⟩, hx, hx1⟩ := Option.map_eq_some_iff.1 hw
  simp only [Prod.mk.injEq] at hx1
  obtain ⟨rfl, rfl⟩ := hx1
  exact OpenSpec.preRow_of_cond 8 hx (by kernel_rfl) (fun k hk => by cases hk) (by kernel_rfl) (laid_met os _)

set_option maxRecDepth 100000 in
theorem lifted (os : Os) (started : os.Started) (H : Type) (enc : TypeId × Value → H) (F : Stop.Interp) :
    ReturnsInHanded {} Tryd.checked os 12 .any ((OpenSpec.ofChange Rows.lunisolarRepeatsSpec).preRow enc Tryd.prog Tryd.f12 Rows.lunisolarRepeatsRow.domain false Rows.lunisolarRepeatsRow.laid) (((OpenSpec.ofChange Rows.lunisolarRepeatsSpec).at F).post enc Tryd.prog Tryd.f12 false true false false) := by
  refine returnsInHanded_of_row (C := Tryd.checked) (s := (OpenSpec.ofChange Rows.lunisolarRepeatsSpec)) own started (by kernel_rfl) Tryd.func12
    (witness_row_atRef (enc := enc) (C := Tryd.checked) false (laidWorld os) #[.int .i64 0] rfl (by kernel_rfl) (by kernel_rfl) (by kernel_rfl) (witness_row os enc)) ?_
  intro W base args ds gs before hval hW _ _ hsz hL _ _
  exact contract H enc W base args ds gs before hval hW hsz hL

theorem row : Rows.LunisolarRepeatsSaid :=
  OpenClaim.holds_of_cond 12 Tryd.f12 rfl rfl rfl rfl rfl rfl rfl ⟨rfl, rfl, rfl, rfl, rfl⟩ rfl rfl rfl rfl rfl (by kernel_rfl) Tryd.func12 (by kernel_rfl)
    (of_decide_eq_true (by kernel_rfl)) (by unfold Func.isWrapper; rw [if_neg (of_decide_eq_false (by kernel_rfl))]; exact ⟨rfl, rfl⟩)
    (fun os started H enc _ F0 => by rw [OpenClaim.pre_eq_preRow]; exact lifted os started H enc F0)

/-- No parameter wants a stand-in; the program's own looks are off. -/
theorem plain (f : FuncId) (fn : Func) (hf : Tryd.pinned.checked.prog.funcNamed "pentaglot/pentaglotlaw18.LunisolarRepeats" = some f) (hfn : Tryd.pinned.checked.prog.funcs[f]? = some fn) :
    false = Tryd.pinned.checked.prog.looks [] ∧ ∀ (j : Nat) t, fn.params[j]? = some t → Tryd.pinned.checked.prog.wantsStandIn t = false := by
  obtain rfl : f = 12 := Option.some.inj ((show Tryd.prog.funcNamed "pentaglot/pentaglotlaw18.LunisolarRepeats" = some 12 by kernel_rfl).symm.trans hf) |>.symm
  obtain rfl : fn = Tryd.f12 := (Option.some.inj (Tryd.func12.symm.trans hfn)).symm
  refine ⟨by kernel_rfl, fun j t ht => ?_⟩
  rw [Tryd.params12] at ht
  have hm : t = 3 := by simpa using Array.mem_of_getElem? ht
  rcases hm with rfl
  · exact (show Tryd.prog.wantsStandIn 3 = false by kernel_rfl)

theorem proved : Rows.LunisolarRepeatsCardSaid :=
  Claim7.holds_tied_plain_at .later [] _ _ _ _ row (fun _ h => by cases h) (by kernel_rfl) (fun _ h => by cases h) lunisolarRepeats_row_tie rfl ⟨rfl, rfl⟩ (by kernel_rfl) rfl plain (by kernel_rfl)
#print axioms proved
end Go.Proofs.YtdeojpmimhagjabDoor.lawNRepeats
