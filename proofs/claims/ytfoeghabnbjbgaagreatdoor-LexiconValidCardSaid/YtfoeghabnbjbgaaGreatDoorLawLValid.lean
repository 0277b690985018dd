/-
  LexiconValid: Valid accepts exactly the lexicons over an alphabet: the law returns true. Conditions: none (every list of letters and of lexemes, of any size that an argument can have).
-/
import Derived.Test.YtfoeghabnbjbgaaGreatDoorLexAwakeW
import Derived.Test.YtfoeghabnbjbgaaGreatDoorLexFrame
import Derived.Test.YtfoeghabnbjbgaaGreatDoorLexFind
import Derived.Test.YtfoeghabnbjbgaaGreatDoorAlAll
import Derived.Test.YtfoeghabnbjbgaaGreatDoorLexRefValid
import Derived.Test.YtfoeghabnbjbgaaGreatDoorCards
import Derived.Test.YtfoeghabnbjbgaaGreatDoorTie
import Derived.Deep.DeepWitnessRowRef
import Derived.Deep.DeepHandedRow
import Derived.Deep.Cut
import Derived.SevenTiedAt
namespace Go.Proofs.YtfoeghabnbjbgaaGreatDoor.lawValidL
open Go.ChangeShapes Go.WideShapes Go.ChangeAt Go.RowKit
open Go.ChangeMaps (open_string shut_string)
open FeatPlain

theorem few_stems {xs : List Lx} (h : fewB xs = true) : ∀ x ∈ xs, x.stem.size ≤ 200 := fun x hx => by
  simp only [fewB, Bool.and_eq_true, List.all_eq_true] at h
  have := h.1 x hx
  simp only [shortB, Bool.and_eq_true, decide_eq_true_eq] at this
  omega

set_option maxRecDepth 100000 in
set_option maxHeartbeats 3200000 in
theorem walk (A : Option Addr) (n c : Nat) (ls : List AlphPlain.Lt) (B : Option Addr) (m d : Nat) (xs : List Lx) (w : World) (hM : Mx w) (hT : Al.Tabs w) (ha : Al.Ll w A n c ls) (_ : c * 8 ≤ reachBytes) (hb : Ls w B m d xs) (hok : Lok xs) :
    Calls Tryz.prog 3 #[.slice A n c, .slice B m d] w (BoolPost w true) := by
  have hfew := fun W (k : Aft w W) => few_any B m d xs W (hb.aft k)
  cases hf : fewB xs
  · rw [hf] at hfew
    have HF := Lib.hid hfew
    clear hfew hf
    go_enter Tryz.func3, Tryz.ntmps3
    go_wp2_with fail
    refine (awakeL_any w hM).mono ?_
    rintro e wA ⟨rfl, AA⟩
    go_wp2_with fail
    refine (HF.out _ AA).mono ?_
    rintro e wF ⟨rfl, AF⟩
    have AO := AA.trans AF
    clear HF
    go_wp2_with fail
    refine (awakeL_any _ (hM.aft AO)).mono ?_
    rintro e wO ⟨rfl, AP⟩
    go_wp2
    go_ret
    exact ⟨rfl, AO.trans AP⟩
  · rw [hf] at hfew
    have HF := Lib.hid hfew
    have hs2 := few_stems hf
    clear hfew hf
    by_cases h70 : n ≤ 70
    · have b70 : ¬ (70 : Int) < (n : Int) := by omega
      clear h70
      go_enter Tryz.func3, Tryz.ntmps3
      go_wp2_with fail
      refine (awakeL_any w hM).mono ?_
      rintro e wA ⟨rfl, AA⟩
      go_wp2_with fail
      refine (HF.out _ AA).mono ?_
      rintro e wF ⟨rfl, AF⟩
      have A0 := AA.trans AF
      have H1 := Lib.hid (ValidL_any A n c ls B m d xs wF (Al.tabs_aft hT A0) (ha.aft A0) (hb.aft A0) hok.sz hs2)
      clear HF
      go_wp2_with fail
      refine H1.out.mono ?_
      rintro e w1 ⟨rfl, A1⟩
      have A01 := A0.trans A1
      have H2 := Lib.hid (refValidL_any A n c ls B m d xs w1 (ha.aft A01) (hb.aft A01) hok.sz hs2)
      clear H1
      go_wp2_with fail
      refine H2.out.mono ?_
      rintro e w2 ⟨rfl, A2⟩
      clear H2
      generalize validLx ls xs = v
      cases v
      · go_wp2
        go_ret
        exact ⟨rfl, A01.trans A2⟩
      · go_wp2
        go_ret
        exact ⟨rfl, A01.trans A2⟩
    · have b70 : (70 : Int) < (n : Int) := by omega
      clear h70
      go_enter Tryz.func3, Tryz.ntmps3
      go_wp2_with fail
      refine (awakeL_any w hM).mono ?_
      rintro e wA ⟨rfl, AA⟩
      go_wp2_with fail
      refine (HF.out _ AA).mono ?_
      rintro e wF ⟨rfl, AF⟩
      have AO := AA.trans AF
      clear HF
      go_wp2_with fail
      refine (awakeL_any _ (hM.aft AO)).mono ?_
      rintro e wO ⟨rfl, AP⟩
      go_wp2
      go_ret
      exact ⟨rfl, AO.trans AP⟩

theorem own : ownKnob Tryz.prog.godebug = none := by kernel_rfl
theorem laidOut : laidOutB Tryz.prog = true := by kernel_rfl
theorem bytesA : Tryz.prog.bytesOf 63 = 8 := by kernel_rfl

set_option maxRecDepth 100000 in
theorem contract (H : Type) (enc : TypeId × Value → H) (W : World) (base : Nat) (args : Array Value) (ds gs : List (DataW H)) (before : List MemPlace)
    (hval : ∀ (j : Nat) t v, Tryz.f3.params[j]? = some t → args[j]? = some v → Value.okWide Tryz.prog W .any base t v)
    (hW : DataW.Whole enc Tryz.prog Tryz.f3.params.toList Rows.lexiconValidSpec.vars false W args.toList ds gs before) (hsz0 : (DataW.weightsEach Tryz.prog (Tryz.f3.params.toList ++ Rows.lexiconValidSpec.plain.varTypes Tryz.prog) (ds ++ gs)).all (· ≤ reachBytes) = true) (hSh : W.ShapedOpen Tryz.prog) (hL : laidMetH Tryz.prog Al.listed W) :
    Calls Tryz.prog 3 args W fun e W' => ∃ v, e = .returned v ∧ Rows.lexiconValidSpec.post enc Tryz.prog Tryz.f3 false true false false W args v W' := by
  have hW' := hW
  obtain ⟨p, q, hA0, hV, rfl, hfz, hnd⟩ := hW
  have hA : DataW.TrodAll enc Tryz.prog W 0 (fun _ => true) true Tryz.f3.params.toList args.toList ds p := hA0
  have hsz := hsz0
  rw [Tryz.params3] at hA hval hsz
  obtain ⟨v0, vs0, d0, ds0, p0, q0, hargs, rfl, rfl, h0, r0⟩ := trodAll_cons hA
  obtain ⟨v1, vs1, d1, ds1, p1, q1, rfl, rfl, rfl, h1, r1⟩ := trodAll_cons r0
  obtain ⟨rfl, rfl, rfl⟩ := trodAll_nil r1
  obtain rfl : args = #[v0, v1] := by cases args; simp_all
  obtain ⟨rfl, rfl⟩ := trodVars_none hV
  obtain ⟨a0, len0, cap0, rfl⟩ := okWide_slice Tryz.underlying22 (hval 0 22 v0 rfl rfl)
  have lt0 : ∀ x ∈ p0, x.block < W.heap.size := by obtain ⟨m, hm⟩ := h0; exact DataW.trod_lt m _ _ _ hm
  obtain ⟨xs0, s0, b0⟩ := Al.letters_of h0 (Nat.le_refl _) (fun el sp e => by have := sized_slice hsz (j := 0) (t := 22) (e := 63) rfl (by rw [e]; rfl) Tryz.underlying22; rwa [bytesA] at this)
  obtain ⟨a1, len1, cap1, rfl⟩ := okWide_slice Tryz.underlying23 (hval 1 23 v1 rfl rfl)
  have lt1 : ∀ x ∈ p1, x.block < W.heap.size := by obtain ⟨m, hm⟩ := h1; exact DataW.trod_lt m _ _ _ hm
  obtain ⟨xs1, s1, z1⟩ := lexs_of h1 (fun x hx => by simpa using List.all_eq_true.1 hsz x (DataW.weights_mem_each (j := 1) (t := 23) rfl rfl x hx))
  clear hA0
  refine (walk a0 len0 cap0 xs0 a1 len1 cap1 xs1 W (mx_of hSh) (Al.tabs_of hL) s0 b0 s1 z1).mono fun e W' ⟨he, bel⟩ => ?_
  subst he
  exact ⟨_, rfl, _, _, _, [], _, [], hW', trodAll_mk1 (shut_bool Tryz.underlying4 _), (trodAll_cons_mk (Below.trod laidOut (by kernel_rfl) (of_decide_eq_true (by kernel_rfl)) h0 bel lt0) (trodAll_cons_mk (Below.trod laidOut (by kernel_rfl) (of_decide_eq_true (by kernel_rfl)) h1 bel lt1) trodAll_mk0)), rfl, Below.frame bel _, fun h => by cases h⟩

theorem witness_row (os : Os) {H : Type} (enc : TypeId × Value → H) :
    (OpenSpec.ofChange Rows.lexiconValidSpec).preRow enc Tryz.prog Tryz.f3 Rows.lexiconValidRow.domain false Rows.lexiconValidRow.laid ((laidWorld os).forCall (fun _ _ => 0) ⟨#[], #[.slice none 0 0, .slice none 0 0], []⟩).memory #[.slice none 0 0, .slice none 0 0] := by
  have hw : (DataW.whole enc Tryz.prog ((laidWorld os).forCall (fun _ _ => 0) ⟨#[], #[.slice none 0 0, .slice none 0 0], []⟩).memory Tryz.f3.params.toList Rows.lexiconValidSpec.vars false (#[.slice none 0 0, .slice none 0 0] : Array Value).toList 8).map (fun x => (x.1, x.2.1)) =
      some ([.nil, .nil], []) := by kernel_rfl
  obtain ⟨⟨x1, x2, x3⟩, hx, hx1⟩ := Option.map_eq_some_iff.1 hw
  simp only [Prod.mk.injEq] at hx1
  obtain ⟨rfl, rfl⟩ := hx1
  exact OpenSpec.preRow_of_cond 8 hx (by kernel_rfl) (fun k hk => by cases hk) (by kernel_rfl) (laid_met os _)

set_option maxRecDepth 100000 in
theorem lifted (os : Os) (started : os.Started) (H : Type) (enc : TypeId × Value → H) (F : Stop.Interp) :
    ReturnsInHanded {} Tryz.checked os 3 .any ((OpenSpec.ofChange Rows.lexiconValidSpec).preRow enc Tryz.prog Tryz.f3 Rows.lexiconValidRow.domain false Rows.lexiconValidRow.laid) (((OpenSpec.ofChange Rows.lexiconValidSpec).at F).post enc Tryz.prog Tryz.f3 false true false false) := by
  refine returnsInHanded_of_row (C := Tryz.checked) (s := (OpenSpec.ofChange Rows.lexiconValidSpec)) own started (by kernel_rfl) Tryz.func3
    (witness_row_atRef (enc := enc) (C := Tryz.checked) false (laidWorld os) #[.slice none 0 0, .slice none 0 0] rfl (by kernel_rfl) (by kernel_rfl) (by kernel_rfl) (witness_row os enc)) ?_
  intro W base args ds gs before hval hW _ _ hsz hL hSh _
  exact contract H enc W base args ds gs before hval hW hsz hSh hL

theorem row : Rows.LexiconValidSaid :=
  OpenClaim.holds_of_cond 3 Tryz.f3 rfl rfl rfl rfl rfl rfl rfl ⟨rfl, rfl, rfl, rfl, rfl⟩ rfl rfl rfl rfl rfl (by kernel_rfl) Tryz.func3 (by kernel_rfl)
    (of_decide_eq_true (by kernel_rfl)) (by unfold Func.isWrapper; rw [if_neg (of_decide_eq_false (by kernel_rfl))]; exact ⟨rfl, rfl⟩)
    (fun os started H enc _ F0 => by rw [OpenClaim.pre_eq_preRow]; exact lifted os started H enc F0)

/-- No parameter wants a stand-in; the program's own looks are off. -/
theorem plain (f : FuncId) (fn : Func) (hf : Tryz.pinned.checked.prog.funcNamed "pentaglot/pentaglotlaw09.LexiconValid" = some f) (hfn : Tryz.pinned.checked.prog.funcs[f]? = some fn) :
    false = Tryz.pinned.checked.prog.looks [] ∧ ∀ (j : Nat) t, fn.params[j]? = some t → Tryz.pinned.checked.prog.wantsStandIn t = false := by
  obtain rfl : f = 3 := Option.some.inj ((show Tryz.prog.funcNamed "pentaglot/pentaglotlaw09.LexiconValid" = some 3 by kernel_rfl).symm.trans hf) |>.symm
  obtain rfl : fn = Tryz.f3 := (Option.some.inj (Tryz.func3.symm.trans hfn)).symm
  refine ⟨by kernel_rfl, fun j t ht => ?_⟩
  rw [Tryz.params3] at ht
  have hm : t = 22 ∨ t = 23 := by simpa using Array.mem_of_getElem? ht
  rcases hm with rfl | rfl
  · exact (show Tryz.prog.wantsStandIn 22 = false by kernel_rfl)
  · exact (show Tryz.prog.wantsStandIn 23 = false by kernel_rfl)

theorem proved : Rows.LexiconValidCardSaid :=
  Claim7.holds_tied_plain_at .later [] _ _ _ _ row (fun _ h => by cases h) (by kernel_rfl) (fun _ h => by cases h) lexiconValid_row_tie rfl ⟨rfl, rfl⟩ (by kernel_rfl) rfl plain (by kernel_rfl)
#print axioms proved
end Go.Proofs.YtfoeghabnbjbgaaGreatDoor.lawValidL
