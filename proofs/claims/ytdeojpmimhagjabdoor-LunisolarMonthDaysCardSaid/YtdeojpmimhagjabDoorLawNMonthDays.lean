/-
  For every date, MonthDays returns the length of its month, or 0 if the month does not exist; the day is ignored: the law LunisolarMonthDays returns true. (a tied card: pruned copy of the program; the table of the months' lengths holds what its text lays).
-/
import Derived.Test.YtdeojpmimhagjabDoorLunFrame
import Derived.Test.YtdeojpmimhagjabDoorLunAwake
import Derived.Test.YtdeojpmimhagjabDoorLunRef
import Derived.Test.YtdeojpmimhagjabDoorCards
import Derived.Test.YtdeojpmimhagjabDoorTie
import Derived.Deep.DeepHandedRow
import Derived.Deep.DeepWitnessRowRef
import Derived.SevenTiedAt
namespace Go.Proofs.YtdeojpmimhagjabDoor.lawNMonthDays
open Go.ChangeShapes Go.WideShapes Go.ChangeAt Go.RowKit
open LunPlain

theorem ten_aft {W0 w1 w2 : World} {p q : Nat} {v0 v1 v2 v3 v4 u0 u1 u2 u3 u4 : Value} (h : Aft W0 w1 ∧ (w1.cell? ⟨p, 0, none⟩ = some v0 ∧ w1.cell? ⟨p, 1, none⟩ = some v1 ∧ w1.cell? ⟨p, 2, none⟩ = some v2 ∧ w1.cell? ⟨p, 3, none⟩ = some v3 ∧ w1.cell? ⟨p, 4, none⟩ = some v4 ∧ w1.cell? ⟨q, 0, none⟩ = some u0 ∧ w1.cell? ⟨q, 1, none⟩ = some u1 ∧ w1.cell? ⟨q, 2, none⟩ = some u2 ∧ w1.cell? ⟨q, 3, none⟩ = some u3 ∧ w1.cell? ⟨q, 4, none⟩ = some u4)) (k : Aft w1 w2) :
    Aft W0 w2 ∧ w2.cell? ⟨p, 0, none⟩ = some v0 ∧ w2.cell? ⟨p, 1, none⟩ = some v1 ∧ w2.cell? ⟨p, 2, none⟩ = some v2 ∧ w2.cell? ⟨p, 3, none⟩ = some v3 ∧ w2.cell? ⟨p, 4, none⟩ = some v4 ∧ w2.cell? ⟨q, 0, none⟩ = some u0 ∧ w2.cell? ⟨q, 1, none⟩ = some u1 ∧ w2.cell? ⟨q, 2, none⟩ = some u2 ∧ w2.cell? ⟨q, 3, none⟩ = some u3 ∧ w2.cell? ⟨q, 4, none⟩ = some u4 := by
  obtain ⟨h0, a0, a1, a2, a3, a4, b0, b1, b2, b3, b4⟩ := h
  exact ⟨h0.trans k, k.cell a0, k.cell a1, k.cell a2, k.cell a3, k.cell a4, k.cell b0, k.cell b1, k.cell b2, k.cell b3, k.cell b4⟩

set_option maxRecDepth 100000 in
set_option maxHeartbeats 1600000 in
theorem walk (c y m d : Int) (l : Bool) (k : Int) (w : World) (ht : Tab w) (_ : (Lit.int .i64 c).wf = true) (_ : (Lit.int .i64 y).wf = true) (_ : (Lit.int .i64 m).wf = true) (_ : (Lit.int .i64 d).wf = true) (_ : (Lit.int .i64 k).wf = true) :
    Calls Tryd.prog 6 #[(.agg #[.int .i64 c, .int .i64 y, .int .i64 m, .int .i64 d, .bool l]), .int .i64 k] w (BoolPost w true) := by
  have H1 := Lib.hid (fun w ht => MonthDays_any c y m d l w ht)
  have H2 := Lib.hid (fun w => refMonthDays_any c y m d l w)
  have H3 := Lib.hid (fun w ht => MonthDays_any c y m k l w ht)
  generalize mdV c y m l = M at *
  have b1 := BoxD.new w c y m d l
  have A2 := (Aft.refl w).alloc (.cells #[.int .i64 c, .int .i64 y, .int .i64 m, .int .i64 d, .bool l] 34)
  obtain ⟨c3, c4, c5, c6, c7⟩ := b1.five
  go_enter Tryd.func6, Tryd.ntmps6
  go_wp2_with fail
  refine (awake_t _ (ht.aft A2)).mono ?_
  rintro e v1 ⟨rfl, N8⟩
  have A9 := A2.trans N8
  have b10 := b1.aft N8
  clear b1
  obtain ⟨c11, c12, c13, c14, c15⟩ := b10.five
  have HT := Lib.hid ((ht.aft A9).aft ((Aft.refl v1).alloc (.cells #[.int .i64 c, .int .i64 y, .int .i64 m, .int .i64 k, .bool l] 34)))
  obtain ⟨p0, p1, p2, p3, p4⟩ := (b10.aft ((Aft.refl v1).alloc (.cells #[.int .i64 c, .int .i64 y, .int .i64 m, .int .i64 k, .bool l] 34))).five
  obtain ⟨r0, r1, r2, r3, r4⟩ := (BoxD.new v1 c y m k l).five
  clear b10
  go_wp2
  refine wp_region_held_drew (S := fun w' => Aft (v1.alloc (.cells #[.int .i64 c, .int .i64 y, .int .i64 m, .int .i64 k, .bool l] 34)) w' ∧ w'.cell? ⟨w.heap.size, 0, none⟩ = some (.int .i64 c) ∧ w'.cell? ⟨w.heap.size, 1, none⟩ = some (.int .i64 y) ∧ w'.cell? ⟨w.heap.size, 2, none⟩ = some (.int .i64 m) ∧ w'.cell? ⟨w.heap.size, 3, none⟩ = some (.int .i64 d) ∧ w'.cell? ⟨w.heap.size, 4, none⟩ = some (.bool l) ∧ w'.cell? ⟨v1.heap.size, 0, none⟩ = some (.int .i64 c) ∧ w'.cell? ⟨v1.heap.size, 1, none⟩ = some (.int .i64 y) ∧ w'.cell? ⟨v1.heap.size, 2, none⟩ = some (.int .i64 m) ∧ w'.cell? ⟨v1.heap.size, 3, none⟩ = some (.int .i64 k) ∧ w'.cell? ⟨v1.heap.size, 4, none⟩ = some (.bool l)) (by kernel_rfl) (⟨Below.drew (Aft.refl _), p0, p1, p2, p3, p4, r0, r1, r2, r3, r4⟩) (fun hHeld => ?_)
  refine take_on (i := 0) (v := ?v1) rfl (by kernel_rfl) (by kernel_rfl) (by kernel_rfl) (fun _ _ _ h => h) (by rfl) (by assumption) ?y1 ?_
  case y1 => (intro w hSw; (try dsimp only at hSw); go_simp; (try with_reducible rfl))
  try simp only [Act.put, List.setIfInBounds_toArray, List.set_cons_zero, List.set_cons_succ]
  refine take_on (i := 2) (v := ?v2) rfl (by kernel_rfl) (by kernel_rfl) (by kernel_rfl) (fun _ _ _ h => h) (by rfl) (by assumption) ?y2 ?_
  case y2 => (intro w hSw; (try dsimp only at hSw); go_simp; (try with_reducible rfl))
  try simp only [Act.put, List.setIfInBounds_toArray, List.set_cons_zero, List.set_cons_succ]
  refine one_ready (i := 1) rfl (by kernel_rfl) (by rfl) (fun K hK => ?_)
  go_simp
  go_at_call 21
  refine (H1.out _ (HT.out.aft (by first | exact hHeld.1 | exact Below.drew hHeld.1))).mono ?_
  rintro e' w' ⟨rfl, N9⟩
  have hh : (fun w' => Aft (v1.alloc (.cells #[.int .i64 c, .int .i64 y, .int .i64 m, .int .i64 k, .bool l] 34)) w' ∧ w'.cell? ⟨w.heap.size, 0, none⟩ = some (.int .i64 c) ∧ w'.cell? ⟨w.heap.size, 1, none⟩ = some (.int .i64 y) ∧ w'.cell? ⟨w.heap.size, 2, none⟩ = some (.int .i64 m) ∧ w'.cell? ⟨w.heap.size, 3, none⟩ = some (.int .i64 d) ∧ w'.cell? ⟨w.heap.size, 4, none⟩ = some (.bool l) ∧ w'.cell? ⟨v1.heap.size, 0, none⟩ = some (.int .i64 c) ∧ w'.cell? ⟨v1.heap.size, 1, none⟩ = some (.int .i64 y) ∧ w'.cell? ⟨v1.heap.size, 2, none⟩ = some (.int .i64 m) ∧ w'.cell? ⟨v1.heap.size, 3, none⟩ = some (.int .i64 k) ∧ w'.cell? ⟨v1.heap.size, 4, none⟩ = some (.bool l)) w' := ten_aft hHeld (Aft.trans (by first | exact Aft.refl _ | exact Below.drew (Aft.refl _)) N9)
  clear N9
  try go_simp
  refine hK.out _ _ (by first | exact hh | exact ⟨Below.drew hh.1, hh.2⟩ | exact hHeld) (fun hHeld => ?_)
  clear hK K
  try simp only [Act.put, List.setIfInBounds_toArray, List.set_cons_zero, List.set_cons_succ]
  refine one_ready (i := 3) rfl (by kernel_rfl) (by rfl) (fun K hK => ?_)
  go_simp
  go_at_call 24
  refine (H2.out _).mono ?_
  rintro e' w' ⟨rfl, N9⟩
  have hh : (fun w' => Aft (v1.alloc (.cells #[.int .i64 c, .int .i64 y, .int .i64 m, .int .i64 k, .bool l] 34)) w' ∧ w'.cell? ⟨w.heap.size, 0, none⟩ = some (.int .i64 c) ∧ w'.cell? ⟨w.heap.size, 1, none⟩ = some (.int .i64 y) ∧ w'.cell? ⟨w.heap.size, 2, none⟩ = some (.int .i64 m) ∧ w'.cell? ⟨w.heap.size, 3, none⟩ = some (.int .i64 d) ∧ w'.cell? ⟨w.heap.size, 4, none⟩ = some (.bool l) ∧ w'.cell? ⟨v1.heap.size, 0, none⟩ = some (.int .i64 c) ∧ w'.cell? ⟨v1.heap.size, 1, none⟩ = some (.int .i64 y) ∧ w'.cell? ⟨v1.heap.size, 2, none⟩ = some (.int .i64 m) ∧ w'.cell? ⟨v1.heap.size, 3, none⟩ = some (.int .i64 k) ∧ w'.cell? ⟨v1.heap.size, 4, none⟩ = some (.bool l)) w' := ten_aft hHeld (Aft.trans (by first | exact Aft.refl _ | exact Below.drew (Aft.refl _)) N9)
  clear N9
  try go_simp
  refine hK.out _ _ (by first | exact hh | exact ⟨Below.drew hh.1, hh.2⟩ | exact hHeld) (fun hHeld => ?_)
  clear hK K
  try simp only [Act.put, List.setIfInBounds_toArray, List.set_cons_zero, List.set_cons_succ]
  refine take_on (i := 4) (v := ?v5) rfl (by kernel_rfl) (by kernel_rfl) (by kernel_rfl) (fun _ _ _ h => h) (by rfl) (by assumption) ?y5 ?_
  case y5 => (intro w hSw; (try dsimp only at hSw); go_simp; (try with_reducible rfl))
  try simp only [Act.put, List.setIfInBounds_toArray, List.set_cons_zero, List.set_cons_succ]
  refine take_on (i := 5) (v := ?v6) rfl (by kernel_rfl) (by kernel_rfl) (by kernel_rfl) (fun _ _ _ h => h) (by rfl) (by assumption) ?y6 ?_
  case y6 => (intro w hSw; (try dsimp only at hSw); go_simp; (try with_reducible rfl))
  try simp only [Act.put, List.setIfInBounds_toArray, List.set_cons_zero, List.set_cons_succ]
  refine take_on (i := 6) (v := ?v7) rfl (by kernel_rfl) (by kernel_rfl) (by kernel_rfl) (fun _ _ _ h => h) (by rfl) (by assumption) ?y7 ?_
  case y7 => (intro w hSw; (try dsimp only at hSw); go_simp; (try with_reducible rfl))
  try simp only [Act.put, List.setIfInBounds_toArray, List.set_cons_zero, List.set_cons_succ]
  refine take_on (i := 8) (v := ?v8) rfl (by kernel_rfl) (by kernel_rfl) (by kernel_rfl) (fun _ _ _ h => h) (by rfl) (by assumption) ?y8 ?_
  case y8 => (intro w hSw; (try dsimp only at hSw); go_simp; (try with_reducible rfl))
  try simp only [Act.put, List.setIfInBounds_toArray, List.set_cons_zero, List.set_cons_succ]
  refine one_ready (i := 7) rfl (by kernel_rfl) (by rfl) (fun K hK => ?_)
  go_simp
  go_at_call 21
  refine (H3.out _ (HT.out.aft (by first | exact hHeld.1 | exact Below.drew hHeld.1))).mono ?_
  rintro e' w' ⟨rfl, N9⟩
  have hh : (fun w' => Aft (v1.alloc (.cells #[.int .i64 c, .int .i64 y, .int .i64 m, .int .i64 k, .bool l] 34)) w' ∧ w'.cell? ⟨w.heap.size, 0, none⟩ = some (.int .i64 c) ∧ w'.cell? ⟨w.heap.size, 1, none⟩ = some (.int .i64 y) ∧ w'.cell? ⟨w.heap.size, 2, none⟩ = some (.int .i64 m) ∧ w'.cell? ⟨w.heap.size, 3, none⟩ = some (.int .i64 d) ∧ w'.cell? ⟨w.heap.size, 4, none⟩ = some (.bool l) ∧ w'.cell? ⟨v1.heap.size, 0, none⟩ = some (.int .i64 c) ∧ w'.cell? ⟨v1.heap.size, 1, none⟩ = some (.int .i64 y) ∧ w'.cell? ⟨v1.heap.size, 2, none⟩ = some (.int .i64 m) ∧ w'.cell? ⟨v1.heap.size, 3, none⟩ = some (.int .i64 k) ∧ w'.cell? ⟨v1.heap.size, 4, none⟩ = some (.bool l)) w' := ten_aft hHeld (Aft.trans (by first | exact Aft.refl _ | exact Below.drew (Aft.refl _)) N9)
  clear N9
  try go_simp
  refine hK.out _ _ (by first | exact hh | exact ⟨Below.drew hh.1, hh.2⟩ | exact hHeld) (fun hHeld => ?_)
  clear hK K
  try simp only [Act.put, List.setIfInBounds_toArray, List.set_cons_zero, List.set_cons_succ]
  refine one_ready (i := 9) rfl (by kernel_rfl) (by rfl) (fun K hK => ?_)
  go_simp
  go_at_call 24
  refine (H2.out _).mono ?_
  rintro e' w' ⟨rfl, N9⟩
  have hh : (fun w' => Aft (v1.alloc (.cells #[.int .i64 c, .int .i64 y, .int .i64 m, .int .i64 k, .bool l] 34)) w' ∧ w'.cell? ⟨w.heap.size, 0, none⟩ = some (.int .i64 c) ∧ w'.cell? ⟨w.heap.size, 1, none⟩ = some (.int .i64 y) ∧ w'.cell? ⟨w.heap.size, 2, none⟩ = some (.int .i64 m) ∧ w'.cell? ⟨w.heap.size, 3, none⟩ = some (.int .i64 d) ∧ w'.cell? ⟨w.heap.size, 4, none⟩ = some (.bool l) ∧ w'.cell? ⟨v1.heap.size, 0, none⟩ = some (.int .i64 c) ∧ w'.cell? ⟨v1.heap.size, 1, none⟩ = some (.int .i64 y) ∧ w'.cell? ⟨v1.heap.size, 2, none⟩ = some (.int .i64 m) ∧ w'.cell? ⟨v1.heap.size, 3, none⟩ = some (.int .i64 k) ∧ w'.cell? ⟨v1.heap.size, 4, none⟩ = some (.bool l)) w' := ten_aft hHeld (Aft.trans (by first | exact Aft.refl _ | exact Below.drew (Aft.refl _)) N9)
  clear N9
  try go_simp
  refine hK.out _ _ (by first | exact hh | exact ⟨Below.drew hh.1, hh.2⟩ | exact hHeld) (fun hHeld => ?_)
  clear hK K
  try simp only [Act.put, List.setIfInBounds_toArray, List.set_cons_zero, List.set_cons_succ]
  refine take_on (i := 10) (v := ?v11) rfl (by kernel_rfl) (by kernel_rfl) (by kernel_rfl) (fun _ _ _ h => h) (by rfl) (by assumption) ?y11 ?_
  case y11 => (intro w hSw; (try dsimp only at hSw); go_simp; (try with_reducible rfl))
  try simp only [Act.put, List.setIfInBounds_toArray, List.set_cons_zero, List.set_cons_succ]
  refine take_on (i := 11) (v := ?v12) rfl (by kernel_rfl) (by kernel_rfl) (by kernel_rfl) (fun _ _ _ h => h) (by rfl) (by assumption) ?y12 ?_
  case y12 => (intro w hSw; (try dsimp only at hSw); go_simp; (try with_reducible rfl))
  try simp only [Act.put, List.setIfInBounds_toArray, List.set_cons_zero, List.set_cons_succ]
  refine take_on (i := 12) (v := ?v13) rfl (by kernel_rfl) (by kernel_rfl) (by kernel_rfl) (fun _ _ _ h => h) (by rfl) (by assumption) ?y13 ?_
  case y13 => (intro w hSw; (try dsimp only at hSw); go_simp; (try with_reducible rfl))
  try simp only [Act.put, List.setIfInBounds_toArray, List.set_cons_zero, List.set_cons_succ]
  refine wpAnyH_done (by kernel_rfl) ?_ _
  go_wp2
  go_ret
  exact ⟨by first | rfl | simp, (A9.alloc _).trans hHeld.1⟩

theorem own : ownKnob Tryd.prog.godebug = none := by kernel_rfl
theorem laidOut : laidOutB Tryd.prog = true := by kernel_rfl

set_option maxRecDepth 100000 in
theorem contract (H : Type) (enc : TypeId × Value → H) (W : World) (base : Nat) (args : Array Value) (ds gs : List (DataW H)) (before : List MemPlace)
    (hval : ∀ (j : Nat) t v, Tryd.f6.params[j]? = some t → args[j]? = some v → Value.okWide Tryd.prog W .any base t v)
    (hW : DataW.Whole enc Tryd.prog Tryd.f6.params.toList Rows.lunisolarMonthDaysSpec.vars false W args.toList ds gs before) (hsz0 : (DataW.weightsEach Tryd.prog (Tryd.f6.params.toList ++ Rows.lunisolarMonthDaysSpec.plain.varTypes Tryd.prog) (ds ++ gs)).all (· ≤ reachBytes) = true) (hL : laidMetH Tryd.prog listed W) :
    Calls Tryd.prog 6 args W fun e W' => ∃ v, e = .returned v ∧ Rows.lunisolarMonthDaysSpec.post enc Tryd.prog Tryd.f6 false true false false W args v W' := by
  have hW' := hW
  obtain ⟨p, q, hA0, hV, rfl, hfz, hnd⟩ := hW
  have hA : DataW.TrodAll enc Tryd.prog W 0 (fun _ => true) true Tryd.f6.params.toList args.toList ds p := hA0
  have hsz := hsz0
  rw [Tryd.params6] at hA hval hsz
  obtain ⟨v0, vs0, d0, ds0, p0, q0, hargs, rfl, rfl, h0, r0⟩ := trodAll_cons hA
  obtain ⟨v1, vs1, d1, ds1, p1, q1, rfl, rfl, rfl, h1, r1⟩ := trodAll_cons r0
  obtain ⟨rfl, rfl, rfl⟩ := trodAll_nil r1
  obtain rfl : args = #[v0, v1] := by cases args; simp_all
  obtain ⟨rfl, rfl⟩ := trodVars_none hV
  have lt0 : ∀ x ∈ p0, x.block < W.heap.size := by obtain ⟨m, hm⟩ := h0; exact DataW.trod_lt m _ _ _ hm
  obtain ⟨xc0, xy0, xm0, xd0, xl0, rfl, zc0, zy0, zm0, zd0⟩ := date_of (okWide_struct Tryd.underlying34 (hval 0 34 v0 rfl rfl)) h0
  obtain ⟨xs1, rfl, rfl, rfl, z1⟩ := open_int Tryd.underlying3 (hval 1 3 v1 rfl rfl) h1
  clear hA0
  refine (walk xc0 xy0 xm0 xd0 xl0 xs1 W (tabs_of hL) zc0 zy0 zm0 zd0 z1).mono fun e W' ⟨he, bel⟩ => ?_
  subst he
  exact ⟨_, rfl, _, _, _, [], _, [], hW', trodAll_mk1 (shut_bool Tryd.underlying4 _), (trodAll_cons_mk (Below.trod laidOut (by kernel_rfl) (of_decide_eq_true (by kernel_rfl)) h0 bel lt0) (trodAll_cons_mk (shut_int Tryd.underlying3 z1) trodAll_mk0)), rfl, Below.frame bel _, fun h => by cases h⟩

theorem witness_row (os : Os) {H : Type} (enc : TypeId × Value → H) :
    (OpenSpec.ofChange Rows.lunisolarMonthDaysSpec).preRow enc Tryd.prog Tryd.f6 Rows.lunisolarMonthDaysRow.domain false Rows.lunisolarMonthDaysRow.laid ((laidWorld os).forCall (fun _ _ => 0) ⟨#[], #[.agg #[.int .i64 0, .int .i64 0, .int .i64 0, .int .i64 0, .bool false], .int .i64 0], []⟩).memory #[.agg #[.int .i64 0, .int .i64 0, .int .i64 0, .int .i64 0, .bool false], .int .i64 0] := by
  have hw : (DataW.whole enc Tryd.prog ((laidWorld os).forCall (fun _ _ => 0) ⟨#[], #[.agg #[.int .i64 0, .int .i64 0, .int .i64 0, .int .i64 0, .bool false], .int .i64 0], []⟩).memory Tryd.f6.params.toList Rows.lunisolarMonthDaysSpec.vars false (#[.agg #[.int .i64 0, .int .i64 0, .int .i64 0, .int .i64 0, .bool false], .int .i64 0] : Array Value).toList 8).map (fun x => (x.1, x.2.1)) =
      some ([.agg [.lit (.int .i64 0), .lit (.int .i64 0), .lit (.int .i64 0), .lit (.int .i64 0), .lit (.bool false)], .lit (.int .i64 0)], []) := by kernel_rfl
  obtain ⟨⟨x1, x2, x3⟩, hx, hx1⟩ := Option.map_eq_some_iff.1 hw
  simp only [Prod.mk.injEq] at hx1
  obtain ⟨rfl, rfl⟩ := hx1
  exact OpenSpec.preRow_of_cond 8 hx (by kernel_rfl) (fun k hk => by cases hk) (by kernel_rfl) (laid_met os _)

set_option maxRecDepth 100000 in
theorem lifted (os : Os) (started : os.Started) (H : Type) (enc : TypeId × Value → H) (F : Stop.Interp) :
    ReturnsInHanded {} Tryd.checked os 6 .any ((OpenSpec.ofChange Rows.lunisolarMonthDaysSpec).preRow enc Tryd.prog Tryd.f6 Rows.lunisolarMonthDaysRow.domain false Rows.lunisolarMonthDaysRow.laid) (((OpenSpec.ofChange Rows.lunisolarMonthDaysSpec).at F).post enc Tryd.prog Tryd.f6 false true false false) := by
  refine returnsInHanded_of_row (C := Tryd.checked) (s := (OpenSpec.ofChange Rows.lunisolarMonthDaysSpec)) own started (by kernel_rfl) Tryd.func6
    (witness_row_atRef (enc := enc) (C := Tryd.checked) false (laidWorld os) #[.agg #[.int .i64 0, .int .i64 0, .int .i64 0, .int .i64 0, .bool false], .int .i64 0] rfl (by kernel_rfl) (by kernel_rfl) (by kernel_rfl) (witness_row os enc)) ?_
  intro W base args ds gs before hval hW _ _ hsz hL _ _
  exact contract H enc W base args ds gs before hval hW hsz hL

theorem row : Rows.LunisolarMonthDaysSaid :=
  OpenClaim.holds_of_cond 6 Tryd.f6 rfl rfl rfl rfl rfl rfl rfl ⟨rfl, rfl, rfl, rfl, rfl⟩ rfl rfl rfl rfl rfl (by kernel_rfl) Tryd.func6 (by kernel_rfl)
    (of_decide_eq_true (by kernel_rfl)) (by unfold Func.isWrapper; rw [if_neg (of_decide_eq_false (by kernel_rfl))]; exact ⟨rfl, rfl⟩)
    (fun os started H enc _ F0 => by rw [OpenClaim.pre_eq_preRow]; exact lifted os started H enc F0)

/-- No parameter wants a stand-in; the program's own looks are off. -/
theorem plain (f : FuncId) (fn : Func) (hf : Tryd.pinned.checked.prog.funcNamed "pentaglot/pentaglotlaw18.LunisolarMonthDays" = some f) (hfn : Tryd.pinned.checked.prog.funcs[f]? = some fn) :
    false = Tryd.pinned.checked.prog.looks [] ∧ ∀ (j : Nat) t, fn.params[j]? = some t → Tryd.pinned.checked.prog.wantsStandIn t = false := by
  obtain rfl : f = 6 := Option.some.inj ((show Tryd.prog.funcNamed "pentaglot/pentaglotlaw18.LunisolarMonthDays" = some 6 by kernel_rfl).symm.trans hf) |>.symm
  obtain rfl : fn = Tryd.f6 := (Option.some.inj (Tryd.func6.symm.trans hfn)).symm
  refine ⟨by kernel_rfl, fun j t ht => ?_⟩
  rw [Tryd.params6] at ht
  have hm : t = 34 ∨ t = 3 := by simpa using Array.mem_of_getElem? ht
  rcases hm with rfl | rfl
  · exact (show Tryd.prog.wantsStandIn 34 = false by kernel_rfl)
  · exact (show Tryd.prog.wantsStandIn 3 = false by kernel_rfl)

theorem proved : Rows.LunisolarMonthDaysCardSaid :=
  Claim7.holds_tied_plain_at .later [] _ _ _ _ row (fun _ h => by cases h) (by kernel_rfl) (fun _ h => by cases h) lunisolarMonthDays_row_tie rfl ⟨rfl, rfl⟩ (by kernel_rfl) rfl plain (by kernel_rfl)
#print axioms proved
end Go.Proofs.YtdeojpmimhagjabDoor.lawNMonthDays
