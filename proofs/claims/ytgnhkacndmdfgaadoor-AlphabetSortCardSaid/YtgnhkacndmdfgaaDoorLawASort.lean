/-
  Sort returns the strings in collation order, equal ones in their original order: the law AlphabetSort returns true. Conditions: none.
-/
import Derived.Test.YtgnhkacndmdfgaaDoorAlphFrame
import Derived.Test.YtgnhkacndmdfgaaDoorSortAll
import Derived.Test.YtgnhkacndmdfgaaDoorSortRef
import Derived.Test.YtgnhkacndmdfgaaDoorAlphAwake
import Derived.Test.YtgnhkacndmdfgaaDoorCards
import Derived.Test.YtgnhkacndmdfgaaDoorTie
import Derived.Deep.DeepHandedRow
import Derived.Deep.DeepWitnessRowRef
import Derived.SevenTiedAt
namespace Go.Proofs.YtgnhkacndmdfgaaDoor.lawASort
open Go.ChangeShapes Go.WideShapes Go.ChangeAt Go.RowKit
open Go.ChangeMaps (open_string shut_string)
open AlphPlain SortPlain

set_option maxRecDepth 100000 in
set_option maxHeartbeats 3200000 in
theorem walk (A : Option Addr) (n c : Nat) (ls : List Lt) (B : Option Addr) (m d : Nat) (ss : List ByteArray) (w : World) (hT : Tabs w) (ha : Ll w A n c ls) (_ : c * 8 ≤ reachBytes) (hb : Ss w B m d ss) (hz : ∀ s ∈ ss, s.size ≤ maxLen) (_ : d * 16 ≤ reachBytes) :
    Calls Tryd.prog 10 #[.slice A n c, .slice B m d] w (BoolPost w true) := by
  cases hf : fewB n ss
  · go_enter Tryd.func10, Tryd.ntmps10
    go_wp2_with fail
    have h1 := awake_any w hT
    refine h1.mono ?_
    rintro e w1 ⟨rfl, N1⟩
    clear h1
    have A1 := N1
    go_wp2_with fail
    have h1 := few_any A n c ls B m d ss w1 (ha.aft A1) (hb.aft A1) hz
    rw [hf] at h1
    refine h1.mono ?_
    rintro e w2 ⟨rfl, N2⟩
    clear h1
    have A2 := A1.trans N2
    go_wp2_with fail
    have h1 := awake_any w2 (tabs_aft hT A2)
    refine h1.mono ?_
    rintro e w3 ⟨rfl, N3⟩
    clear h1
    have A3 := A2.trans N3
    go_wp2
    go_ret
    exact ⟨by first | rfl | simp, A3⟩
  · have hm40 : m ≤ 40 := by have := hb.len; simp only [fewB, Bool.and_eq_true, decide_eq_true_eq] at hf; omega
    have h200 : ∀ s ∈ ss, s.size ≤ 200 := fun s hs => by simp only [fewB, Bool.and_eq_true, List.all_eq_true, decide_eq_true_eq] at hf; exact hf.1.1 s hs
    go_enter Tryd.func10, Tryd.ntmps10
    go_wp2_with fail
    have h1 := awake_any w hT
    refine h1.mono ?_
    rintro e w1 ⟨rfl, N1⟩
    clear h1
    have A1 := N1
    go_wp2_with fail
    have h1 := few_any A n c ls B m d ss w1 (ha.aft A1) (hb.aft A1) hz
    rw [hf] at h1
    refine h1.mono ?_
    rintro e w2 ⟨rfl, N2⟩
    clear h1
    have A2 := A1.trans N2
    go_wp2_with fail
    have h1 := sort_any A n c ls B m d ss w2 (ha.aft A2) (hb.aft A2) (tabs_aft hT A2) hm40
    refine h1.mono ?_
    rintro e w3 ⟨⟨U, un, uc, rfl, su⟩, N3⟩
    clear h1
    have A3 := A2.trans N3
    go_wp2_with fail
    have h1 := refSort_any A n c ls B m d ss w3 (ha.aft A3) (hb.aft A3) hm40 h200
    refine h1.mono ?_
    rintro e w4 ⟨⟨V, vn, vc, rfl, sv⟩, N4⟩
    clear h1
    have A4 := A3.trans N4
    go_wp2_with fail
    have h1 := sameS_any U un uc V vn vc _ w4 (su.aft N4) sv
    refine h1.mono ?_
    rintro e w5 ⟨rfl, N5⟩
    clear h1
    have A5 := A4.trans N5
    go_wp2
    go_ret
    exact ⟨by first | rfl | simp, A5⟩

theorem own : ownKnob Tryd.prog.godebug = none := by kernel_rfl
theorem laidOut : laidOutB Tryd.prog = true := by kernel_rfl
theorem bytesA : Tryd.prog.bytesOf 31 = 8 := by kernel_rfl
theorem bytesT : Tryd.prog.bytesOf 9 = 16 := by kernel_rfl

set_option maxRecDepth 100000 in
theorem contract (H : Type) (enc : TypeId × Value → H) (W : World) (base : Nat) (args : Array Value) (ds gs : List (DataW H)) (before : List MemPlace)
    (hval : ∀ (j : Nat) t v, Tryd.f10.params[j]? = some t → args[j]? = some v → Value.okWide Tryd.prog W .any base t v)
    (hW : DataW.Whole enc Tryd.prog Tryd.f10.params.toList Rows.alphabetSortSpec.vars false W args.toList ds gs before) (hsz0 : (DataW.weightsEach Tryd.prog (Tryd.f10.params.toList ++ Rows.alphabetSortSpec.plain.varTypes Tryd.prog) (ds ++ gs)).all (· ≤ reachBytes) = true) (hL : laidMetH Tryd.prog listed W) :
    Calls Tryd.prog 10 args W fun e W' => ∃ v, e = .returned v ∧ Rows.alphabetSortSpec.post enc Tryd.prog Tryd.f10 false true false false W args v W' := by
  have hW' := hW
  obtain ⟨p, q, hA0, hV, rfl, hfz, hnd⟩ := hW
  have hA : DataW.TrodAll enc Tryd.prog W 0 (fun _ => true) true Tryd.f10.params.toList args.toList ds p := hA0
  have hsz := hsz0
  rw [Tryd.params10] at hA hval hsz
  obtain ⟨v0, vs0, d0, ds0, p0, q0, hargs, rfl, rfl, h0, r0⟩ := trodAll_cons hA
  obtain ⟨v1, vs1, d1, ds1, p1, q1, rfl, rfl, rfl, h1, r1⟩ := trodAll_cons r0
  obtain ⟨rfl, rfl, rfl⟩ := trodAll_nil r1
  obtain rfl : args = #[v0, v1] := by cases args; simp_all
  obtain ⟨rfl, rfl⟩ := trodVars_none hV
  obtain ⟨a0, len0, cap0, rfl⟩ := okWide_slice Tryd.underlying22 (hval 0 22 v0 rfl rfl)
  have lt0 : ∀ x ∈ p0, x.block < W.heap.size := by obtain ⟨m, hm⟩ := h0; exact DataW.trod_lt m _ _ _ hm
  obtain ⟨xs0, s0, b0⟩ := letters_of h0 (Nat.le_refl _) (fun el sp e => by have := sized_slice hsz (j := 0) (t := 22) (e := 31) rfl (by rw [e]; rfl) Tryd.underlying22; rwa [bytesA] at this)
  obtain ⟨a1, len1, cap1, rfl⟩ := okWide_slice Tryd.underlying39 (hval 1 39 v1 rfl rfl)
  have lt1 : ∀ x ∈ p1, x.block < W.heap.size := by obtain ⟨m, hm⟩ := h1; exact DataW.trod_lt m _ _ _ hm
  obtain ⟨xs1, s1, z1, b1⟩ := strs_of h1 (Nat.le_refl _) (fun el sp e => by have := sized_slice hsz (j := 1) (t := 39) (e := 9) rfl (by rw [e]; rfl) Tryd.underlying39; rwa [bytesT] at this)
  clear hA0
  refine (walk a0 len0 cap0 xs0 a1 len1 cap1 xs1 W (tabs_of hL) s0 b0 s1 z1 b1).mono fun e W' ⟨he, bel⟩ => ?_
  subst he
  exact ⟨_, rfl, _, _, _, [], _, [], hW', trodAll_mk1 (shut_bool Tryd.underlying4 _), (trodAll_cons_mk (Below.trod laidOut (by kernel_rfl) (of_decide_eq_true (by kernel_rfl)) h0 bel lt0) (trodAll_cons_mk (Below.trod laidOut (by kernel_rfl) (of_decide_eq_true (by kernel_rfl)) h1 bel lt1) trodAll_mk0)), rfl, Below.frame bel _, fun h => by cases h⟩

theorem witness_row (os : Os) {H : Type} (enc : TypeId × Value → H) :
    (OpenSpec.ofChange Rows.alphabetSortSpec).preRow enc Tryd.prog Tryd.f10 Rows.alphabetSortRow.domain false Rows.alphabetSortRow.laid ((laidWorld os).forCall (fun _ _ => 0) ⟨#[], #[.slice none 0 0, .slice none 0 0], []⟩).memory #[.slice none 0 0, .slice none 0 0] := by
  have hw : (DataW.whole enc Tryd.prog ((laidWorld os).forCall (fun _ _ => 0) ⟨#[], #[.slice none 0 0, .slice none 0 0], []⟩).memory Tryd.f10.params.toList Rows.alphabetSortSpec.vars false (#[.slice none 0 0, .slice none 0 0] : Array Value).toList 8).map (fun x => (x.1, x.2.1)) =
      some ([.nil, .nil], []) := by kernel_rfl
  obtain ⟨⟨x1, x2, x3⟩, hx, hx1⟩ := Option.map_eq_some_iff.1 hw
  simp only [Prod.mk.injEq] at hx1
  obtain ⟨rfl, rfl⟩ := hx1
  exact OpenSpec.preRow_of_cond 8 hx (by kernel_rfl) (fun k hk => by cases hk) (by kernel_rfl) (laid_met os _)

set_option maxRecDepth 100000 in
theorem lifted (os : Os) (started : os.Started) (H : Type) (enc : TypeId × Value → H) (F : Stop.Interp) :
    ReturnsInHanded {} Tryd.checked os 10 .any ((OpenSpec.ofChange Rows.alphabetSortSpec).preRow enc Tryd.prog Tryd.f10 Rows.alphabetSortRow.domain false Rows.alphabetSortRow.laid) (((OpenSpec.ofChange Rows.alphabetSortSpec).at F).post enc Tryd.prog Tryd.f10 false true false false) := by
  refine returnsInHanded_of_row (C := Tryd.checked) (s := (OpenSpec.ofChange Rows.alphabetSortSpec)) own started (by kernel_rfl) Tryd.func10
    (witness_row_atRef (enc := enc) (C := Tryd.checked) false (laidWorld os) #[.slice none 0 0, .slice none 0 0] rfl (by kernel_rfl) (by kernel_rfl) (by kernel_rfl) (witness_row os enc)) ?_
  intro W base args ds gs before hval hW _ _ hsz hL _ _
  exact contract H enc W base args ds gs before hval hW hsz hL

theorem row : Rows.AlphabetSortSaid :=
  OpenClaim.holds_of_cond 10 Tryd.f10 rfl rfl rfl rfl rfl rfl rfl ⟨rfl, rfl, rfl, rfl, rfl⟩ rfl rfl rfl rfl rfl (by kernel_rfl) Tryd.func10 (by kernel_rfl)
    (of_decide_eq_true (by kernel_rfl)) (by unfold Func.isWrapper; rw [if_neg (of_decide_eq_false (by kernel_rfl))]; exact ⟨rfl, rfl⟩)
    (fun os started H enc _ F0 => by rw [OpenClaim.pre_eq_preRow]; exact lifted os started H enc F0)

/-- No parameter wants a stand-in; the program's own looks are off. -/
theorem plain (f : FuncId) (fn : Func) (hf : Tryd.pinned.checked.prog.funcNamed "pentaglot/pentaglotlaw01.AlphabetSort" = some f) (hfn : Tryd.pinned.checked.prog.funcs[f]? = some fn) :
    false = Tryd.pinned.checked.prog.looks [] ∧ ∀ (j : Nat) t, fn.params[j]? = some t → Tryd.pinned.checked.prog.wantsStandIn t = false := by
  obtain rfl : f = 10 := Option.some.inj ((show Tryd.prog.funcNamed "pentaglot/pentaglotlaw01.AlphabetSort" = some 10 by kernel_rfl).symm.trans hf) |>.symm
  obtain rfl : fn = Tryd.f10 := (Option.some.inj (Tryd.func10.symm.trans hfn)).symm
  refine ⟨by kernel_rfl, fun j t ht => ?_⟩
  rw [Tryd.params10] at ht
  have hm : t = 22 ∨ t = 39 := by simpa using Array.mem_of_getElem? ht
  rcases hm with rfl | rfl
  · exact (show Tryd.prog.wantsStandIn 22 = false by kernel_rfl)
  · exact (show Tryd.prog.wantsStandIn 39 = false by kernel_rfl)

theorem proved : Rows.AlphabetSortCardSaid :=
  Claim7.holds_tied_plain_at .later [] _ _ _ _ row (fun _ h => by cases h) (by kernel_rfl) (fun _ h => by cases h) alphabetSort_row_tie rfl ⟨rfl, rfl⟩ (by kernel_rfl) rfl plain (by kernel_rfl)
#print axioms proved
end Go.Proofs.YtgnhkacndmdfgaaDoor.lawASort
