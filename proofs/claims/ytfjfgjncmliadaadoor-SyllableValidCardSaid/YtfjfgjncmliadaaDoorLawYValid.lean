/-
  Valid accepts exactly the phonotactics of at most 32 onsets of at most 4 masks, with 1 to 8 runes beside a hyphen: the law SyllableValid returns true. Conditions: none.
-/
import Derived.Test.YtfjfgjncmliadaaDoorSylFrame
import Derived.Test.YtfjfgjncmliadaaDoorCards
import Derived.Test.YtfjfgjncmliadaaDoorTie
import Derived.Deep.DeepHandedRow
import Derived.Deep.DeepWitnessRowRef
import Derived.SevenTiedAt
import Derived.Deep.RegionHeld3
namespace Go.Proofs.YtfjfgjncmliadaaDoor.lawYValid
open Go.ChangeShapes Go.WideShapes Go.ChangeAt Go.RowKit
open Go.ChangeMaps (open_string shut_string)
open AlphPlain

set_option maxRecDepth 100000 in
set_option maxHeartbeats 1600000 in
theorem walk (B : Option Addr) (m d : Nat) (L R : Int) (os : List Mk) (w : World) (hT : Tabs w) (hb : Ons w B m d os) (_ : (Lit.int .i64 L).wf = true) (_ : (Lit.int .i64 R).wf = true) :
    Calls Tryd.prog 3 #[pV B m d L R] w (BoolPost w true) := by
  have AL : Aft w (w.alloc (.cells #[.slice B m d, .int .i64 L, .int .i64 R] 24)) := (Aft.refl w).alloc _
  obtain ⟨t0, t1, t2⟩ := three_cells w (.slice B m d) (.int .i64 L) (.int .i64 R) 24
  cases hf : fewP 0 os ⟨#[]⟩
  · go_enter Tryd.func3, Tryd.ntmps3
    go_wp2_with fail
    have h1 := awake_any _ (tabs_aft hT AL)
    refine h1.mono ?_
    rintro e w1 ⟨rfl, N1⟩
    clear h1
    have A1 := AL.trans N1
    have b0_1 := N1.cell t0
    have b1_1 := N1.cell t1
    have b2_1 := N1.cell t2
    go_wp2_with fail
    have h1 := few_any none 0 0 B m d os L R ⟨#[]⟩ w1 (by omega) (hb.aft A1) (by unfold maxLen; decide)
    rw [hf] at h1
    refine h1.mono ?_
    rintro e w2 ⟨rfl, N2⟩
    clear h1
    have A2 := A1.trans N2
    have b0_2 := N2.cell b0_1
    have b1_2 := N2.cell b1_1
    have b2_2 := N2.cell b2_1
    go_wp2_with fail
    have h1 := awake_any w2 (tabs_aft hT A2)
    refine h1.mono ?_
    rintro e w3 ⟨rfl, N3⟩
    clear h1
    have A3 := A2.trans N3
    go_wp2
    go_ret
    exact ⟨by first | rfl | simp, A3⟩
  · go_enter Tryd.func3, Tryd.ntmps3
    go_wp2_with fail
    have h1 := awake_any _ (tabs_aft hT AL)
    refine h1.mono ?_
    rintro e w1 ⟨rfl, N1⟩
    clear h1
    have A1 := AL.trans N1
    have b0_1 := N1.cell t0
    have b1_1 := N1.cell t1
    have b2_1 := N1.cell t2
    go_wp2_with fail
    have h1 := few_any none 0 0 B m d os L R ⟨#[]⟩ w1 (by omega) (hb.aft A1) (by unfold maxLen; decide)
    rw [hf] at h1
    refine h1.mono ?_
    rintro e w2 ⟨rfl, N2⟩
    clear h1
    have A2 := A1.trans N2
    have b0_2 := N2.cell b0_1
    have b1_2 := N2.cell b1_1
    have b2_2 := N2.cell b2_1
    have hx1 : ∀ w0, Aft w2 w0 → Calls Tryd.prog 16 #[pV B m d L R] w0 (fun e w' => e = .returned (.bool (validP (masks os) L R)) ∧ (Aft w2 w' ∧ w'.cell? ⟨w.heap.size, 0, none⟩ = some (.slice B m d) ∧ w'.cell? ⟨w.heap.size, 1, none⟩ = some (.int .i64 L) ∧ w'.cell? ⟨w.heap.size, 2, none⟩ = some (.int .i64 R))) := fun w0 a => by have h := validP_any B m d os L R w0 (hb.aft (A2.trans a)); exact h.mono fun _ _ z => ⟨z.1, a.trans z.2, (a.trans z.2).cell b0_2, (a.trans z.2).cell b1_2, (a.trans z.2).cell b2_2⟩
    have hx2 : ∀ w0, Aft w2 w0 → Calls Tryd.prog 17 #[pV B m d L R] w0 (fun e w' => e = .returned (.bool (validP (masks os) L R)) ∧ (Aft w2 w' ∧ w'.cell? ⟨w.heap.size, 0, none⟩ = some (.slice B m d) ∧ w'.cell? ⟨w.heap.size, 1, none⟩ = some (.int .i64 L) ∧ w'.cell? ⟨w.heap.size, 2, none⟩ = some (.int .i64 R))) := fun w0 a => by have h := refValidP_any B m d os L R w0 (hb.aft (A2.trans a)); exact h.mono fun _ _ z => ⟨z.1, a.trans z.2, (a.trans z.2).cell b0_2, (a.trans z.2).cell b1_2, (a.trans z.2).cell b2_2⟩
    generalize validP (masks os) L R = V at *
    clear hb hf hT t0 t1 t2 b0_1 b1_1 b2_1 AL N1 N2 A1
    have hsf : Aft w2 w2.drew := Below.drew (Aft.refl _)
    go_wp2
    go_region_held3 (fun w' => Aft w2 w' ∧ w'.cell? ⟨w.heap.size, 0, none⟩ = some (.slice B m d) ∧ w'.cell? ⟨w.heap.size, 1, none⟩ = some (.int .i64 L) ∧ w'.cell? ⟨w.heap.size, 2, none⟩ = some (.int .i64 R)) (first | (exact ⟨by assumption, by assumption, by assumption, by assumption⟩) | (exact ⟨Below.drew (by assumption), by assumption, by assumption, by assumption⟩) | go_keep) (first | (go_at_call 16; refine (hx1 _ (by first | assumption | (simp [*]; done))).mono ?_; rintro e w' ⟨rfl, N, k0, k1, k2⟩) | (go_at_call 17; refine (hx2 _ (by first | assumption | (simp [*]; done))).mono ?_; rintro e w' ⟨rfl, N, k0, k1, k2⟩))
    go_wp2
    go_ret
    exact ⟨by first | rfl | simp, A2.trans (by assumption)⟩

theorem own : ownKnob Tryd.prog.godebug = none := by kernel_rfl
theorem laidOut : laidOutB Tryd.prog = true := by kernel_rfl

set_option maxRecDepth 100000 in
theorem contract (H : Type) (enc : TypeId × Value → H) (W : World) (base : Nat) (args : Array Value) (ds gs : List (DataW H)) (before : List MemPlace)
    (hval : ∀ (j : Nat) t v, Tryd.f3.params[j]? = some t → args[j]? = some v → Value.okWide Tryd.prog W .any base t v)
    (hW : DataW.Whole enc Tryd.prog Tryd.f3.params.toList Rows.syllableValidSpec.vars false W args.toList ds gs before) (hsz0 : (DataW.weightsEach Tryd.prog (Tryd.f3.params.toList ++ Rows.syllableValidSpec.plain.varTypes Tryd.prog) (ds ++ gs)).all (· ≤ reachBytes) = true) (hL : laidMetH Tryd.prog listed W) :
    Calls Tryd.prog 3 args W fun e W' => ∃ v, e = .returned v ∧ Rows.syllableValidSpec.post enc Tryd.prog Tryd.f3 false true false false W args v W' := by
  have hW' := hW
  obtain ⟨p, q, hA0, hV, rfl, hfz, hnd⟩ := hW
  have hA : DataW.TrodAll enc Tryd.prog W 0 (fun _ => true) true Tryd.f3.params.toList args.toList ds p := hA0
  have hsz := hsz0
  rw [Tryd.params3] at hA hval hsz
  obtain ⟨v0, vs0, d0, ds0, p0, q0, hargs, rfl, rfl, h0, r0⟩ := trodAll_cons hA
  obtain ⟨rfl, rfl, rfl⟩ := trodAll_nil r0
  obtain rfl : args = #[v0] := by cases args; simp_all
  obtain ⟨rfl, rfl⟩ := trodVars_none hV
  have lt0 : ∀ x ∈ p0, x.block < W.heap.size := by obtain ⟨m, hm⟩ := h0; exact DataW.trod_lt m _ _ _ hm
  obtain ⟨a0, len0, cap0, L0, R0, xs0, rfl, s0, zl0, zr0⟩ := pho_of (okWide_struct Tryd.underlying24 (hval 0 24 v0 rfl rfl)) h0
  clear hA0
  refine (walk a0 len0 cap0 L0 R0 xs0 W (tabs_of hL) s0 zl0 zr0).mono fun e W' ⟨he, bel⟩ => ?_
  subst he
  exact ⟨_, rfl, _, _, _, [], _, [], hW', trodAll_mk1 (shut_bool Tryd.underlying4 _), (trodAll_cons_mk (Below.trod laidOut (by kernel_rfl) (of_decide_eq_true (by kernel_rfl)) h0 bel lt0) trodAll_mk0), rfl, Below.frame bel _, fun h => by cases h⟩

theorem witness_row (os : Os) {H : Type} (enc : TypeId × Value → H) :
    (OpenSpec.ofChange Rows.syllableValidSpec).preRow enc Tryd.prog Tryd.f3 Rows.syllableValidRow.domain false Rows.syllableValidRow.laid ((laidWorld os).forCall (fun _ _ => 0) ⟨#[], #[.agg #[.slice none 0 0, .int .i64 0, .int .i64 0]], []⟩).memory #[.agg #[.slice none 0 0, .int .i64 0, .int .i64 0]] := by
  have hw : (DataW.whole enc Tryd.prog ((laidWorld os).forCall (fun _ _ => 0) ⟨#[], #[.agg #[.slice none 0 0, .int .i64 0, .int .i64 0]], []⟩).memory Tryd.f3.params.toList Rows.syllableValidSpec.vars false (#[.agg #[.slice none 0 0, .int .i64 0, .int .i64 0]] : Array Value).toList 8).map (fun x => (x.1, x.2.1)) =
      some ([.agg [.nil, .lit (.int .i64 0), .lit (.int .i64 0)]], []) := by kernel_rfl
  obtain ⟨⟨x1, x2, x3⟩, hx, hx1⟩ := Option.map_eq_some_iff.1 hw
  simp only [Prod.mk.injEq] at hx1
  obtain ⟨rfl, rfl⟩ := hx1
  exact OpenSpec.preRow_of_cond 8 hx (by kernel_rfl) (fun k hk => by cases hk) (by kernel_rfl) (laid_met os _)

set_option maxRecDepth 100000 in
theorem lifted (os : Os) (started : os.Started) (H : Type) (enc : TypeId × Value → H) (F : Stop.Interp) :
    ReturnsInHanded {} Tryd.checked os 3 .any ((OpenSpec.ofChange Rows.syllableValidSpec).preRow enc Tryd.prog Tryd.f3 Rows.syllableValidRow.domain false Rows.syllableValidRow.laid) (((OpenSpec.ofChange Rows.syllableValidSpec).at F).post enc Tryd.prog Tryd.f3 false true false false) := by
  refine returnsInHanded_of_row (C := Tryd.checked) (s := (OpenSpec.ofChange Rows.syllableValidSpec)) own started (by kernel_rfl) Tryd.func3
    (witness_row_atRef (enc := enc) (C := Tryd.checked) false (laidWorld os) #[.agg #[.slice none 0 0, .int .i64 0, .int .i64 0]] rfl (by kernel_rfl) (by kernel_rfl) (by kernel_rfl) (witness_row os enc)) ?_
  intro W base args ds gs before hval hW _ _ hsz hL _ _
  exact contract H enc W base args ds gs before hval hW hsz hL

theorem row : Rows.SyllableValidSaid :=
  OpenClaim.holds_of_cond 3 Tryd.f3 rfl rfl rfl rfl rfl rfl rfl ⟨rfl, rfl, rfl, rfl, rfl⟩ rfl rfl rfl rfl rfl (by kernel_rfl) Tryd.func3 (by kernel_rfl)
    (of_decide_eq_true (by kernel_rfl)) (by unfold Func.isWrapper; rw [if_neg (of_decide_eq_false (by kernel_rfl))]; exact ⟨rfl, rfl⟩)
    (fun os started H enc _ F0 => by rw [OpenClaim.pre_eq_preRow]; exact lifted os started H enc F0)

/-- No parameter wants a stand-in; the program's own looks are off. -/
theorem plain (f : FuncId) (fn : Func) (hf : Tryd.pinned.checked.prog.funcNamed "pentaglot/pentaglotlaw13.SyllableValid" = some f) (hfn : Tryd.pinned.checked.prog.funcs[f]? = some fn) :
    false = Tryd.pinned.checked.prog.looks [] ∧ ∀ (j : Nat) t, fn.params[j]? = some t → Tryd.pinned.checked.prog.wantsStandIn t = false := by
  obtain rfl : f = 3 := Option.some.inj ((show Tryd.prog.funcNamed "pentaglot/pentaglotlaw13.SyllableValid" = some 3 by kernel_rfl).symm.trans hf) |>.symm
  obtain rfl : fn = Tryd.f3 := (Option.some.inj (Tryd.func3.symm.trans hfn)).symm
  refine ⟨by kernel_rfl, fun j t ht => ?_⟩
  rw [Tryd.params3] at ht
  have hm : t = 24 := by simpa using Array.mem_of_getElem? ht
  rcases hm with rfl
  · exact (show Tryd.prog.wantsStandIn 24 = false by kernel_rfl)

theorem proved : Rows.SyllableValidCardSaid :=
  Claim7.holds_tied_plain_at .later [] _ _ _ _ row (fun _ h => by cases h) (by kernel_rfl) (fun _ h => by cases h) syllableValid_row_tie rfl ⟨rfl, rfl⟩ (by kernel_rfl) rfl plain (by kernel_rfl)
#print axioms proved
end Go.Proofs.YtfjfgjncmliadaaDoor.lawYValid
