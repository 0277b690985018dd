/-
  Nuclei returns the indices of the vowels: the law SyllableNuclei returns true. Conditions: none.
-/
import Derived.Test.YtfjfgjncmliadaaDoorSylFrame
import Derived.Test.YtfjfgjncmliadaaDoorSylRef2
import Derived.Test.YtfjfgjncmliadaaDoorCards
import Derived.Test.YtfjfgjncmliadaaDoorTie
import Derived.Deep.DeepHandedRow
import Derived.Deep.DeepWitnessRowRef
import Derived.SevenTiedAt
import Derived.Deep.RegionHeld3
namespace Go.Proofs.YtfjfgjncmliadaaDoor.lawYNuclei
open Go.ChangeShapes Go.WideShapes Go.ChangeAt Go.RowKit
open Go.ChangeMaps (open_string shut_string)
open AlphPlain

set_option maxRecDepth 100000 in
set_option maxHeartbeats 1600000 in
theorem walk (A : Option Addr) (n c : Nat) (ls : List Lt) (s : ByteArray) (w : World) (hT : Tabs w) (ha : Ll w A n c ls) (_ : c * 8 ≤ reachBytes) (zs : s.size ≤ maxLen) :
    Calls Tryd.prog 4 #[.slice A n c, .string s] w (BoolPost w true) := by
  cases hf : fewP n [] s
  · go_enter Tryd.func4, Tryd.ntmps4
    go_wp2_with fail
    have h1 := awake_any w hT
    refine h1.mono ?_
    rintro e w1 ⟨rfl, N1⟩
    clear h1
    have A1 := N1
    go_wp2_with fail
    have h1 := few_any A n c none 0 0 [] 0 0 s w1 (by have := ha.le; have := ha.cmax; omega) ⟨Rw.nil, fun x hx => (by cases hx)⟩ zs
    rw [hf] at h1
    refine h1.mono ?_
    rintro e w2 ⟨rfl, N2⟩
    clear h1
    have A2 := A1.trans N2
    go_wp2_with fail
    have h1 := awake_any w2 (tabs_aft hT A2)
    refine h1.mono ?_
    rintro e w3 ⟨rfl, N3⟩
    clear h1
    have A3 := A2.trans N3
    go_wp2
    go_ret
    exact ⟨by first | rfl | simp, A3⟩
  · have hsz := (fewP_facts hf).2.2.1
    go_enter Tryd.func4, Tryd.ntmps4
    go_wp2_with fail
    have h1 := awake_any w hT
    refine h1.mono ?_
    rintro e w1 ⟨rfl, N1⟩
    clear h1
    have A1 := N1
    go_wp2_with fail
    have h1 := few_any A n c none 0 0 [] 0 0 s w1 (by have := ha.le; have := ha.cmax; omega) ⟨Rw.nil, fun x hx => (by cases hx)⟩ zs
    rw [hf] at h1
    refine h1.mono ?_
    rintro e w2 ⟨rfl, N2⟩
    clear h1
    have A2 := A1.trans N2
    go_wp2_with fail
    have h1 := nuclei_any A n c ls s w2 (ha.aft A2) (by omega)
    refine h1.mono ?_
    rintro e w3 ⟨⟨X1, n1, k1, rfl, r1⟩, N3⟩
    clear h1
    have A3 := A2.trans N3
    have HR1 := Lib.hid r1
    clear r1
    go_wp2_with fail
    have h1 := refNuclei_any A n c ls s w3 (ha.aft A3) (by omega)
    refine h1.mono ?_
    rintro e w4 ⟨⟨X2, n2, k2, rfl, r2⟩, N4⟩
    clear h1
    have A4 := A3.trans N4
    have HR2 := Lib.hid r2
    clear r2
    go_wp2_with fail
    have h1 := ints_any X1 n1 k1 X2 n2 k2 _ w4 (HR1.out.aft N4) HR2.out
    refine h1.mono ?_
    rintro e w5 ⟨rfl, N5⟩
    clear h1
    have A5 := A4.trans N5
    go_wp2
    go_ret
    exact ⟨by first | rfl | simp, A5⟩

theorem own : ownKnob Tryd.prog.godebug = none := by kernel_rfl
theorem laidOut : laidOutB Tryd.prog = true := by kernel_rfl
theorem bytesA : Tryd.prog.bytesOf 51 = 8 := by kernel_rfl

set_option maxRecDepth 100000 in
theorem contract (H : Type) (enc : TypeId × Value → H) (W : World) (base : Nat) (args : Array Value) (ds gs : List (DataW H)) (before : List MemPlace)
    (hval : ∀ (j : Nat) t v, Tryd.f4.params[j]? = some t → args[j]? = some v → Value.okWide Tryd.prog W .any base t v)
    (hW : DataW.Whole enc Tryd.prog Tryd.f4.params.toList Rows.syllableNucleiSpec.vars false W args.toList ds gs before) (hsz0 : (DataW.weightsEach Tryd.prog (Tryd.f4.params.toList ++ Rows.syllableNucleiSpec.plain.varTypes Tryd.prog) (ds ++ gs)).all (· ≤ reachBytes) = true) (hL : laidMetH Tryd.prog listed W) :
    Calls Tryd.prog 4 args W fun e W' => ∃ v, e = .returned v ∧ Rows.syllableNucleiSpec.post enc Tryd.prog Tryd.f4 false true false false W args v W' := by
  have hW' := hW
  obtain ⟨p, q, hA0, hV, rfl, hfz, hnd⟩ := hW
  have hA : DataW.TrodAll enc Tryd.prog W 0 (fun _ => true) true Tryd.f4.params.toList args.toList ds p := hA0
  have hsz := hsz0
  rw [Tryd.params4] at hA hval hsz
  obtain ⟨v0, vs0, d0, ds0, p0, q0, hargs, rfl, rfl, h0, r0⟩ := trodAll_cons hA
  obtain ⟨v1, vs1, d1, ds1, p1, q1, rfl, rfl, rfl, h1, r1⟩ := trodAll_cons r0
  obtain ⟨rfl, rfl, rfl⟩ := trodAll_nil r1
  obtain rfl : args = #[v0, v1] := by cases args; simp_all
  obtain ⟨rfl, rfl⟩ := trodVars_none hV
  obtain ⟨a0, len0, cap0, rfl⟩ := okWide_slice Tryd.underlying28 (hval 0 28 v0 rfl rfl)
  have lt0 : ∀ x ∈ p0, x.block < W.heap.size := by obtain ⟨m, hm⟩ := h0; exact DataW.trod_lt m _ _ _ hm
  obtain ⟨xs0, s0, b0⟩ := letters_of h0 (Nat.le_refl _) (fun el sp e => by have := sized_slice hsz (j := 0) (t := 28) (e := 51) rfl (by rw [e]; rfl) Tryd.underlying28; rwa [bytesA] at this)
  obtain ⟨xs1, rfl, rfl, rfl, z1⟩ := open_string Tryd.underlying9 (hval 1 9 v1 rfl rfl) h1
  clear hA0
  refine (walk a0 len0 cap0 xs0 xs1 W (tabs_of hL) s0 b0 z1).mono fun e W' ⟨he, bel⟩ => ?_
  subst he
  exact ⟨_, rfl, _, _, _, [], _, [], hW', trodAll_mk1 (shut_bool Tryd.underlying4 _), (trodAll_cons_mk (Below.trod laidOut (by kernel_rfl) (of_decide_eq_true (by kernel_rfl)) h0 bel lt0) (trodAll_cons_mk (shut_string Tryd.underlying9 z1) trodAll_mk0)), rfl, Below.frame bel _, fun h => by cases h⟩

theorem witness_row (os : Os) {H : Type} (enc : TypeId × Value → H) :
    (OpenSpec.ofChange Rows.syllableNucleiSpec).preRow enc Tryd.prog Tryd.f4 Rows.syllableNucleiRow.domain false Rows.syllableNucleiRow.laid ((laidWorld os).forCall (fun _ _ => 0) ⟨#[], #[.slice none 0 0, .string ⟨#[]⟩], []⟩).memory #[.slice none 0 0, .string ⟨#[]⟩] := by
  have hw : (DataW.whole enc Tryd.prog ((laidWorld os).forCall (fun _ _ => 0) ⟨#[], #[.slice none 0 0, .string ⟨#[]⟩], []⟩).memory Tryd.f4.params.toList Rows.syllableNucleiSpec.vars false (#[.slice none 0 0, .string ⟨#[]⟩] : Array Value).toList 8).map (fun x => (x.1, x.2.1)) =
      some ([.nil, .lit (.string [])], []) := by kernel_rfl
  obtain ⟨⟨x1, x2, x3⟩, hx, hx1⟩ := Option.map_eq_some_iff.1 hw
  simp only [Prod.mk.injEq] at hx1
  obtain ⟨rfl, rfl⟩ := hx1
  exact OpenSpec.preRow_of_cond 8 hx (by kernel_rfl) (fun k hk => by cases hk) (by kernel_rfl) (laid_met os _)

set_option maxRecDepth 100000 in
theorem lifted (os : Os) (started : os.Started) (H : Type) (enc : TypeId × Value → H) (F : Stop.Interp) :
    ReturnsInHanded {} Tryd.checked os 4 .any ((OpenSpec.ofChange Rows.syllableNucleiSpec).preRow enc Tryd.prog Tryd.f4 Rows.syllableNucleiRow.domain false Rows.syllableNucleiRow.laid) (((OpenSpec.ofChange Rows.syllableNucleiSpec).at F).post enc Tryd.prog Tryd.f4 false true false false) := by
  refine returnsInHanded_of_row (C := Tryd.checked) (s := (OpenSpec.ofChange Rows.syllableNucleiSpec)) own started (by kernel_rfl) Tryd.func4
    (witness_row_atRef (enc := enc) (C := Tryd.checked) false (laidWorld os) #[.slice none 0 0, .string ⟨#[]⟩] rfl (by kernel_rfl) (by kernel_rfl) (by kernel_rfl) (witness_row os enc)) ?_
  intro W base args ds gs before hval hW _ _ hsz hL _ _
  exact contract H enc W base args ds gs before hval hW hsz hL

theorem row : Rows.SyllableNucleiSaid :=
  OpenClaim.holds_of_cond 4 Tryd.f4 rfl rfl rfl rfl rfl rfl rfl ⟨rfl, rfl, rfl, rfl, rfl⟩ rfl rfl rfl rfl rfl (by kernel_rfl) Tryd.func4 (by kernel_rfl)
    (of_decide_eq_true (by kernel_rfl)) (by unfold Func.isWrapper; rw [if_neg (of_decide_eq_false (by kernel_rfl))]; exact ⟨rfl, rfl⟩)
    (fun os started H enc _ F0 => by rw [OpenClaim.pre_eq_preRow]; exact lifted os started H enc F0)

/-- No parameter wants a stand-in; the program's own looks are off. -/
theorem plain (f : FuncId) (fn : Func) (hf : Tryd.pinned.checked.prog.funcNamed "pentaglot/pentaglotlaw13.SyllableNuclei" = some f) (hfn : Tryd.pinned.checked.prog.funcs[f]? = some fn) :
    false = Tryd.pinned.checked.prog.looks [] ∧ ∀ (j : Nat) t, fn.params[j]? = some t → Tryd.pinned.checked.prog.wantsStandIn t = false := by
  obtain rfl : f = 4 := Option.some.inj ((show Tryd.prog.funcNamed "pentaglot/pentaglotlaw13.SyllableNuclei" = some 4 by kernel_rfl).symm.trans hf) |>.symm
  obtain rfl : fn = Tryd.f4 := (Option.some.inj (Tryd.func4.symm.trans hfn)).symm
  refine ⟨by kernel_rfl, fun j t ht => ?_⟩
  rw [Tryd.params4] at ht
  have hm : t = 28 ∨ t = 9 := by simpa using Array.mem_of_getElem? ht
  rcases hm with rfl | rfl
  · exact (show Tryd.prog.wantsStandIn 28 = false by kernel_rfl)
  · exact (show Tryd.prog.wantsStandIn 9 = false by kernel_rfl)

theorem proved : Rows.SyllableNucleiCardSaid :=
  Claim7.holds_tied_plain_at .later [] _ _ _ _ row (fun _ h => by cases h) (by kernel_rfl) (fun _ h => by cases h) syllableNuclei_row_tie rfl ⟨rfl, rfl⟩ (by kernel_rfl) rfl plain (by kernel_rfl)
#print axioms proved
end Go.Proofs.YtfjfgjncmliadaaDoor.lawYNuclei
