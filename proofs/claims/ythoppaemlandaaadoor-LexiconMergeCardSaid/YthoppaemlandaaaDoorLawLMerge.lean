/-
  LexiconMerge: Merge returns the lexemes of both lists, or the first error that applies: the law returns true. Conditions: none (every two lists of lexemes, of any size that an argument can have).
-/
import Derived.Test.YthoppaemlandaaaDoorLexAwakeW
import Derived.Test.YthoppaemlandaaaDoorLexFrame
import Derived.Test.YthoppaemlandaaaDoorLexFind
import Derived.Test.YthoppaemlandaaaDoorLexSame
import Derived.Test.YthoppaemlandaaaDoorLexMerge
import Derived.Test.YthoppaemlandaaaDoorCards
import Derived.Test.YthoppaemlandaaaDoorTie
import Derived.Deep.DeepWitnessRowRef
import Derived.Deep.DeepHandedRow
import Derived.SevenTiedAt
namespace Go.Proofs.YthoppaemlandaaaDoor.lawMerge
open Go.ChangeShapes Go.WideShapes Go.ChangeAt Go.RowKit
open Go.ChangeMaps (open_string shut_string)
open FeatPlain

set_option maxRecDepth 100000 in
set_option maxHeartbeats 3200000 in
theorem walk (A : Option Addr) (n c : Nat) (xs : List Lx) (B : Option Addr) (m d : Nat) (ys : List Lx) (w : World) (hM : Mx w) (ha : Ls w A n c xs) (hok : Lok xs) (hb : Ls w B m d ys) (hokb : Lok ys) :
    Calls Tryd.prog 8 #[.slice A n c, .slice B m d] w (BoolPost w true) := by
  have hfew := fun W (k : Aft w W) => few_any A n c xs W (ha.aft k)
  have hfewb := fun W (k : Aft w W) => few_any B m d ys W (hb.aft k)
  cases hf : fewB xs
  · rw [hf] at hfew
    have HF := Lib.hid hfew
    clear hfew hfewb hf
    go_enter Tryd.func8, Tryd.ntmps8
    go_wp2_with fail
    refine (awakeL_any w hM).mono ?_
    rintro e wA ⟨rfl, AA⟩
    go_wp2_with fail
    refine (HF.out _ AA).mono ?_
    rintro e wF ⟨rfl, AF⟩
    have AO := AA.trans AF
    clear HF
    go_wp2_with fail
    refine (awakeL_any _ (hM.aft AO)).mono ?_
    rintro e wO ⟨rfl, AP⟩
    go_wp2
    go_ret
    exact ⟨rfl, AO.trans AP⟩
  · rw [hf] at hfew
    have HF := Lib.hid hfew
    have hn3 : n ≤ 300 := by
      simp only [fewB, Bool.and_eq_true, decide_eq_true_eq] at hf
      rw [← ha.len]; exact hf.2
    clear hfew hf
    cases hg : fewB ys
    · rw [hg] at hfewb
      have HG := Lib.hid hfewb
      clear hfewb hg
      go_enter Tryd.func8, Tryd.ntmps8
      go_wp2_with fail
      refine (awakeL_any w hM).mono ?_
      rintro e wA ⟨rfl, AA⟩
      go_wp2_with fail
      refine (HF.out _ AA).mono ?_
      rintro e wF ⟨rfl, AF⟩
      have A0 := AA.trans AF
      go_wp2_with fail
      refine (HG.out _ A0).mono ?_
      rintro e wG ⟨rfl, AG⟩
      have AO := A0.trans AG
      clear HF HG
      go_wp2_with fail
      refine (awakeL_any _ (hM.aft AO)).mono ?_
      rintro e wO ⟨rfl, AP⟩
      go_wp2
      go_ret
      exact ⟨rfl, AO.trans AP⟩
    · rw [hg] at hfewb
      have HG := Lib.hid hfewb
      have hm3 : m ≤ 300 := by
        simp only [fewB, Bool.and_eq_true, decide_eq_true_eq] at hg
        rw [← hb.len]; exact hg.2
      clear hfewb hg
      go_enter Tryd.func8, Tryd.ntmps8
      go_wp2_with fail
      refine (awakeL_any w hM).mono ?_
      rintro e wA ⟨rfl, AA⟩
      go_wp2_with fail
      refine (HF.out _ AA).mono ?_
      rintro e wF ⟨rfl, AF⟩
      have A0 := AA.trans AF
      go_wp2_with fail
      refine (HG.out _ A0).mono ?_
      rintro e wG ⟨rfl, AG⟩
      have A1 := A0.trans AG
      have H1 := Lib.hid (Merge_any A n c xs B m d ys wG (ha.aft A1) (hb.aft A1) hok.fn hokb.fn (by omega) (by omega))
      clear HF HG
      go_wp2_with fail
      refine H1.out.mono ?_
      rintro e w2 ⟨A2, C, k, f, zs, rfl, hC, hz⟩
      have A02 := A1.trans A2
      have H2 := Lib.hid (refMerge_any A n c xs B m d ys w2 (ha.aft A02) (hb.aft A02) (by omega) (by omega))
      have HC := Lib.hid hC
      have HZ := Lib.hid hz
      clear H1 hC hz
      go_wp2_with fail
      refine H2.out.mono ?_
      rintro e w3 ⟨A3, D, k', f', rfl, hD⟩
      have A03 := A02.trans A3
      have h4 := fun W (q : Aft w3 W) => sameAllL_any C k f zs D k' f' _ W ((HC.out.aft A3).aft q) (hD.aft q)
      rw [show decide (zs.map Lx.say = (if mergeE xs ys = 0 then xs ++ ys else []).map Lx.say) = true from decide_eq_true HZ.out] at h4
      have H4 := Lib.hid h4
      clear H2 h4 hD HC HZ
      go_wp2_with fail
      refine (H4.out _ (Aft.refl _)).mono ?_
      rintro e w4 ⟨rfl, A4⟩
      go_wp2
      go_ret
      exact ⟨rfl, A03.trans A4⟩

theorem own : ownKnob Tryd.prog.godebug = none := by kernel_rfl
theorem laidOut : laidOutB Tryd.prog = true := by kernel_rfl

set_option maxRecDepth 100000 in
theorem contract (H : Type) (enc : TypeId × Value → H) (W : World) (base : Nat) (args : Array Value) (ds gs : List (DataW H)) (before : List MemPlace)
    (hval : ∀ (j : Nat) t v, Tryd.f8.params[j]? = some t → args[j]? = some v → Value.okWide Tryd.prog W .any base t v)
    (hW : DataW.Whole enc Tryd.prog Tryd.f8.params.toList Rows.lexiconMergeSpec.vars false W args.toList ds gs before) (hsz0 : (DataW.weightsEach Tryd.prog (Tryd.f8.params.toList ++ Rows.lexiconMergeSpec.plain.varTypes Tryd.prog) (ds ++ gs)).all (· ≤ reachBytes) = true) (hSh : W.ShapedOpen Tryd.prog) :
    Calls Tryd.prog 8 args W fun e W' => ∃ v, e = .returned v ∧ Rows.lexiconMergeSpec.post enc Tryd.prog Tryd.f8 false true false false W args v W' := by
  have hW' := hW
  obtain ⟨p, q, hA0, hV, rfl, hfz, hnd⟩ := hW
  have hA : DataW.TrodAll enc Tryd.prog W 0 (fun _ => true) true Tryd.f8.params.toList args.toList ds p := hA0
  have hsz := hsz0
  rw [Tryd.params8] at hA hval hsz
  obtain ⟨v0, vs0, d0, ds0, p0, q0, hargs, rfl, rfl, h0, r0⟩ := trodAll_cons hA
  obtain ⟨v1, vs1, d1, ds1, p1, q1, rfl, rfl, rfl, h1, r1⟩ := trodAll_cons r0
  obtain ⟨rfl, rfl, rfl⟩ := trodAll_nil r1
  obtain rfl : args = #[v0, v1] := by cases args; simp_all
  obtain ⟨rfl, rfl⟩ := trodVars_none hV
  obtain ⟨a0, len0, cap0, rfl⟩ := okWide_slice Tryd.underlying22 (hval 0 22 v0 rfl rfl)
  have lt0 : ∀ x ∈ p0, x.block < W.heap.size := by obtain ⟨m, hm⟩ := h0; exact DataW.trod_lt m _ _ _ hm
  obtain ⟨xs0, s0, z0⟩ := lexs_of h0 (fun x hx => by simpa using List.all_eq_true.1 hsz x (DataW.weights_mem_each (j := 0) (t := 22) rfl rfl x hx))
  obtain ⟨a1, len1, cap1, rfl⟩ := okWide_slice Tryd.underlying22 (hval 1 22 v1 rfl rfl)
  have lt1 : ∀ x ∈ p1, x.block < W.heap.size := by obtain ⟨m, hm⟩ := h1; exact DataW.trod_lt m _ _ _ hm
  obtain ⟨xs1, s1, z1⟩ := lexs_of h1 (fun x hx => by simpa using List.all_eq_true.1 hsz x (DataW.weights_mem_each (j := 1) (t := 22) rfl rfl x hx))
  clear hA0
  refine (walk a0 len0 cap0 xs0 a1 len1 cap1 xs1 W (mx_of hSh) s0 z0 s1 z1).mono fun e W' ⟨he, bel⟩ => ?_
  subst he
  exact ⟨_, rfl, _, _, _, [], _, [], hW', trodAll_mk1 (shut_bool Tryd.underlying4 _), (trodAll_cons_mk (Below.trod laidOut (by kernel_rfl) (of_decide_eq_true (by kernel_rfl)) h0 bel lt0) (trodAll_cons_mk (Below.trod laidOut (by kernel_rfl) (of_decide_eq_true (by kernel_rfl)) h1 bel lt1) trodAll_mk0)), rfl, Below.frame bel _, fun h => by cases h⟩

theorem witness_row (os : Os) {H : Type} (enc : TypeId × Value → H) :
    (OpenSpec.ofChange Rows.lexiconMergeSpec).preRow enc Tryd.prog Tryd.f8 Rows.lexiconMergeRow.domain false Rows.lexiconMergeRow.laid ((laidWorld os).forCall (fun _ _ => 0) ⟨#[], #[.slice none 0 0, .slice none 0 0], []⟩).memory #[.slice none 0 0, .slice none 0 0] := by
  have hw : (DataW.whole enc Tryd.prog ((laidWorld os).forCall (fun _ _ => 0) ⟨#[], #[.slice none 0 0, .slice none 0 0], []⟩).memory Tryd.f8.params.toList Rows.lexiconMergeSpec.vars false (#[.slice none 0 0, .slice none 0 0] : Array Value).toList 8).map (fun x => (x.1, x.2.1)) =
      some ([.nil, .nil], []) := by kernel_rfl
  obtain ⟨⟨x1, x2, x3⟩, hx, hx1⟩ := Option.map_eq_some_iff.1 hw
  simp only [Prod.mk.injEq] at hx1
  obtain ⟨rfl, rfl⟩ := hx1
  exact OpenSpec.preRow_of_cond 8 hx (by kernel_rfl) (fun k hk => by cases hk) (by kernel_rfl) (laid_met os _)

set_option maxRecDepth 100000 in
theorem lifted (os : Os) (started : os.Started) (H : Type) (enc : TypeId × Value → H) (F : Stop.Interp) :
    ReturnsInHanded {} Tryd.checked os 8 .any ((OpenSpec.ofChange Rows.lexiconMergeSpec).preRow enc Tryd.prog Tryd.f8 Rows.lexiconMergeRow.domain false Rows.lexiconMergeRow.laid) (((OpenSpec.ofChange Rows.lexiconMergeSpec).at F).post enc Tryd.prog Tryd.f8 false true false false) := by
  refine returnsInHanded_of_row (C := Tryd.checked) (s := (OpenSpec.ofChange Rows.lexiconMergeSpec)) own started (by kernel_rfl) Tryd.func8
    (witness_row_atRef (enc := enc) (C := Tryd.checked) false (laidWorld os) #[.slice none 0 0, .slice none 0 0] rfl (by kernel_rfl) (by kernel_rfl) (by kernel_rfl) (witness_row os enc)) ?_
  intro W base args ds gs before hval hW _ _ hsz _ hSh _
  exact contract H enc W base args ds gs before hval hW hsz hSh

theorem row : Rows.LexiconMergeSaid :=
  OpenClaim.holds_of_cond 8 Tryd.f8 rfl rfl rfl rfl rfl rfl rfl ⟨rfl, rfl, rfl, rfl, rfl⟩ rfl rfl rfl rfl rfl (by kernel_rfl) Tryd.func8 (by kernel_rfl)
    (of_decide_eq_true (by kernel_rfl)) (by unfold Func.isWrapper; rw [if_neg (of_decide_eq_false (by kernel_rfl))]; exact ⟨rfl, rfl⟩)
    (fun os started H enc _ F0 => by rw [OpenClaim.pre_eq_preRow]; exact lifted os started H enc F0)

/-- No parameter wants a stand-in; the program's own looks are off. -/
theorem plain (f : FuncId) (fn : Func) (hf : Tryd.pinned.checked.prog.funcNamed "pentaglot/pentaglotlaw09.LexiconMerge" = some f) (hfn : Tryd.pinned.checked.prog.funcs[f]? = some fn) :
    false = Tryd.pinned.checked.prog.looks [] ∧ ∀ (j : Nat) t, fn.params[j]? = some t → Tryd.pinned.checked.prog.wantsStandIn t = false := by
  obtain rfl : f = 8 := Option.some.inj ((show Tryd.prog.funcNamed "pentaglot/pentaglotlaw09.LexiconMerge" = some 8 by kernel_rfl).symm.trans hf) |>.symm
  obtain rfl : fn = Tryd.f8 := (Option.some.inj (Tryd.func8.symm.trans hfn)).symm
  refine ⟨by kernel_rfl, fun j t ht => ?_⟩
  rw [Tryd.params8] at ht
  have hm : t = 22 ∨ t = 22 := by simpa using Array.mem_of_getElem? ht
  rcases hm with rfl | rfl
  · exact (show Tryd.prog.wantsStandIn 22 = false by kernel_rfl)
  · exact (show Tryd.prog.wantsStandIn 22 = false by kernel_rfl)

theorem proved : Rows.LexiconMergeCardSaid :=
  Claim7.holds_tied_plain_at .later [] _ _ _ _ row (fun _ h => by cases h) (by kernel_rfl) (fun _ h => by cases h) lexiconMerge_row_tie rfl ⟨rfl, rfl⟩ (by kernel_rfl) rfl plain (by kernel_rfl)
#print axioms proved
end Go.Proofs.YthoppaemlandaaaDoor.lawMerge
