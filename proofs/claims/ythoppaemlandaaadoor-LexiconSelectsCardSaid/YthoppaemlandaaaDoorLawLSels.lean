/-
  LexiconSelects: Category, Stem and With return exactly the lexemes with the category, the stem and all of the features, in their order: the law returns true. Conditions: none (every list of lexemes, every string and every list of features, of any size that an argument can have).
-/
import Derived.Test.YthoppaemlandaaaDoorLexAwakeW
import Derived.Test.YthoppaemlandaaaDoorLexFrame
import Derived.Test.YthoppaemlandaaaDoorLexFind
import Derived.Test.YthoppaemlandaaaDoorLexSame
import Derived.Test.YthoppaemlandaaaDoorLexRefSel
import Derived.Test.YthoppaemlandaaaDoorLexRefWith
import Derived.Test.YthoppaemlandaaaDoorCards
import Derived.Test.YthoppaemlandaaaDoorTie
import Derived.Deep.DeepWitnessRowRef
import Derived.Deep.DeepHandedRow
import Derived.SevenTiedAt
namespace Go.Proofs.YthoppaemlandaaaDoor.lawSels
open Go.ChangeShapes Go.WideShapes Go.ChangeAt Go.RowKit
open Go.ChangeMaps (open_string shut_string)
open FeatPlain

set_option maxRecDepth 100000 in
set_option maxHeartbeats 3200000 in
theorem walk (A : Option Addr) (n c : Nat) (xs : List Lx) (s : ByteArray) (F : Option Addr) (m d : Nat) (fs : List Ft) (w : World) (hM : Mx w) (ha : Ls w A n c xs) (hok : Lok xs) (_ : s.size ≤ maxLen) (hb : Sl w F m d fs) (hz : Sized fs) (_ : d * 32 ≤ reachBytes) :
    Calls Tryd.prog 5 #[.slice A n c, .string s, .slice F m d] w (BoolPost w true) := by
  have hfew := fun W (k : Aft w W) => few_any A n c xs W (ha.aft k)
  cases hf : fewB xs
  · rw [hf] at hfew
    have HF := Lib.hid hfew
    clear hfew hf
    go_enter Tryd.func5, Tryd.ntmps5
    go_wp2_with fail
    refine (awakeL_any w hM).mono ?_
    rintro e wA ⟨rfl, AA⟩
    go_wp2_with fail
    refine (HF.out _ AA).mono ?_
    rintro e wF ⟨rfl, AF⟩
    have AO := AA.trans AF
    clear HF
    go_wp2_with fail
    refine (awakeL_any _ (hM.aft AO)).mono ?_
    rintro e wO ⟨rfl, AP⟩
    go_wp2
    go_ret
    exact ⟨rfl, AO.trans AP⟩
  · rw [hf] at hfew
    have HF := Lib.hid hfew
    have hx3 : xs.length ≤ 300 := by
      simp only [fewB, Bool.and_eq_true, decide_eq_true_eq] at hf
      exact hf.2
    have hfx : ∀ x ∈ xs, Sized x.fs ∧ x.fn ≤ 4294967296 := fun x hx => by
      simp only [fewB, Bool.and_eq_true, List.all_eq_true] at hf
      have := hf.1 x hx
      simp only [shortB, Bool.and_eq_true, decide_eq_true_eq] at this
      exact ⟨hok.sz x hx, by omega⟩
    have hn3 : n ≤ 300 := by rw [← ha.len]; exact hx3
    clear hfew hf
    by_cases h2 : s.size ≤ 200
    · have b2 : ¬ (200 : Int) < (s.size : Int) := by omega
      clear h2
      by_cases h20 : m ≤ 20
      · have b20 : ¬ (20 : Int) < (m : Int) := by omega
        go_enter Tryd.func5, Tryd.ntmps5
        go_wp2_with fail
        refine (awakeL_any w hM).mono ?_
        rintro e wA ⟨rfl, AA⟩
        go_wp2_with fail
        refine (HF.out _ AA).mono ?_
        rintro e wF ⟨rfl, AF⟩
        have A0 := AA.trans AF
        have H1 := Lib.hid (Category_any A n c xs s wF (ha.aft A0) hok.fn (by omega))
        clear HF
        go_wp2_with fail
        refine H1.out.mono ?_
        rintro e w1 ⟨⟨B1, n1, e1, ys1, rfl, y1, _, z1⟩, A1⟩
        have A01 := A0.trans A1
        have H2 := Lib.hid (refCategory_any A n c xs s w1 (ha.aft A01) (by omega))
        have Y1 := Lib.hid y1
        have Z1 := Lib.hid z1
        clear H1 y1 z1
        go_wp2_with fail
        refine H2.out.mono ?_
        rintro e w2 ⟨⟨B2, n2, e2, rfl, y2⟩, A2⟩
        have h3 := sameAllL_any B1 n1 e1 ys1 B2 n2 e2 _ w2 (Y1.out.aft A2) y2
        rw [show decide (ys1.map Lx.say = (xs.filter fun x => decide (x.cat = s)).map Lx.say) = true from decide_eq_true Z1.out] at h3
        have H3 := Lib.hid h3
        have A02 := A01.trans A2
        clear H2 h3 y2 Y1 Z1
        go_wp2_with fail
        refine H3.out.mono ?_
        rintro e w3 ⟨rfl, A3⟩
        have A03 := A02.trans A3
        have H4 := Lib.hid (Stem_any A n c xs s w3 (ha.aft A03) hok.fn (by omega))
        clear H3
        go_wp2_with fail
        refine H4.out.mono ?_
        rintro e w4 ⟨⟨B1, n1, e1, ys1, rfl, y1, _, z1⟩, A4⟩
        have A04 := A03.trans A4
        have H5 := Lib.hid (refStem_any A n c xs s w4 (ha.aft A04) (by omega))
        have Y1 := Lib.hid y1
        have Z1 := Lib.hid z1
        clear H4 y1 z1
        go_wp2_with fail
        refine H5.out.mono ?_
        rintro e w5 ⟨⟨B2, n2, e2, rfl, y2⟩, A5⟩
        have h6 := sameAllL_any B1 n1 e1 ys1 B2 n2 e2 _ w5 (Y1.out.aft A5) y2
        rw [show decide (ys1.map Lx.say = (xs.filter fun x => decide (x.stem = s)).map Lx.say) = true from decide_eq_true Z1.out] at h6
        have H6 := Lib.hid h6
        have A05 := A04.trans A5
        clear H5 h6 y2 Y1 Z1
        go_wp2_with fail
        refine H6.out.mono ?_
        rintro e w6 ⟨rfl, A6⟩
        have A06 := A05.trans A6
        have H7 := Lib.hid (With_any A n c xs F m d fs w6 (ha.aft A06) hok.fn hfx (by omega) (hb.aft A06) hz (by omega))
        clear H6
        go_wp2_with fail
        refine H7.out.mono ?_
        rintro e w7 ⟨⟨B1, n1, e1, ys1, rfl, y1, _, z1⟩, A7⟩
        have A07 := A06.trans A7
        have H8 := Lib.hid (refWith_any A n c xs F m d fs w7 (ha.aft A07) (by omega) (hb.aft A07))
        have Y1 := Lib.hid y1
        have Z1 := Lib.hid z1
        clear H7 y1 z1
        go_wp2_with fail
        refine H8.out.mono ?_
        rintro e w8 ⟨⟨B2, n2, e2, rfl, y2⟩, A8⟩
        have h9 := sameAllL_any B1 n1 e1 ys1 B2 n2 e2 _ w8 (Y1.out.aft A8) y2
        rw [show decide (ys1.map Lx.say = (xs.filter fun x => fs.all (inF x.fs)).map Lx.say) = true from decide_eq_true Z1.out] at h9
        have H9 := Lib.hid h9
        have A08 := A07.trans A8
        clear H8 h9 y2 Y1 Z1
        go_wp2_with fail
        refine H9.out.mono ?_
        rintro e w9 ⟨rfl, A9⟩
        go_wp2
        go_ret
        exact ⟨rfl, A08.trans A9⟩
      · have b20 : (20 : Int) < (m : Int) := by omega
        go_enter Tryd.func5, Tryd.ntmps5
        go_wp2_with fail
        refine (awakeL_any w hM).mono ?_
        rintro e wA ⟨rfl, AA⟩
        go_wp2_with fail
        refine (HF.out _ AA).mono ?_
        rintro e wF ⟨rfl, AF⟩
        have AO := AA.trans AF
        clear HF
        go_wp2_with fail
        refine (awakeL_any _ (hM.aft AO)).mono ?_
        rintro e wO ⟨rfl, AP⟩
        go_wp2
        go_ret
        exact ⟨rfl, AO.trans AP⟩
    · have b2 : (200 : Int) < (s.size : Int) := by omega
      clear h2
      go_enter Tryd.func5, Tryd.ntmps5
      go_wp2_with fail
      refine (awakeL_any w hM).mono ?_
      rintro e wA ⟨rfl, AA⟩
      go_wp2_with fail
      refine (HF.out _ AA).mono ?_
      rintro e wF ⟨rfl, AF⟩
      have AO := AA.trans AF
      clear HF
      go_wp2_with fail
      refine (awakeL_any _ (hM.aft AO)).mono ?_
      rintro e wO ⟨rfl, AP⟩
      go_wp2
      go_ret
      exact ⟨rfl, AO.trans AP⟩

theorem own : ownKnob Tryd.prog.godebug = none := by kernel_rfl
theorem laidOut : laidOutB Tryd.prog = true := by kernel_rfl
theorem bytesF : Tryd.prog.bytesOf 57 = 32 := by kernel_rfl

set_option maxRecDepth 100000 in
theorem contract (H : Type) (enc : TypeId × Value → H) (W : World) (base : Nat) (args : Array Value) (ds gs : List (DataW H)) (before : List MemPlace)
    (hval : ∀ (j : Nat) t v, Tryd.f5.params[j]? = some t → args[j]? = some v → Value.okWide Tryd.prog W .any base t v)
    (hW : DataW.Whole enc Tryd.prog Tryd.f5.params.toList Rows.lexiconSelectsSpec.vars false W args.toList ds gs before) (hsz0 : (DataW.weightsEach Tryd.prog (Tryd.f5.params.toList ++ Rows.lexiconSelectsSpec.plain.varTypes Tryd.prog) (ds ++ gs)).all (· ≤ reachBytes) = true) (hSh : W.ShapedOpen Tryd.prog) :
    Calls Tryd.prog 5 args W fun e W' => ∃ v, e = .returned v ∧ Rows.lexiconSelectsSpec.post enc Tryd.prog Tryd.f5 false true false false W args v W' := by
  have hW' := hW
  obtain ⟨p, q, hA0, hV, rfl, hfz, hnd⟩ := hW
  have hA : DataW.TrodAll enc Tryd.prog W 0 (fun _ => true) true Tryd.f5.params.toList args.toList ds p := hA0
  have hsz := hsz0
  rw [Tryd.params5] at hA hval hsz
  obtain ⟨v0, vs0, d0, ds0, p0, q0, hargs, rfl, rfl, h0, r0⟩ := trodAll_cons hA
  obtain ⟨v1, vs1, d1, ds1, p1, q1, rfl, rfl, rfl, h1, r1⟩ := trodAll_cons r0
  obtain ⟨v2, vs2, d2, ds2, p2, q2, rfl, rfl, rfl, h2, r2⟩ := trodAll_cons r1
  obtain ⟨rfl, rfl, rfl⟩ := trodAll_nil r2
  obtain rfl : args = #[v0, v1, v2] := by cases args; simp_all
  obtain ⟨rfl, rfl⟩ := trodVars_none hV
  obtain ⟨a0, len0, cap0, rfl⟩ := okWide_slice Tryd.underlying22 (hval 0 22 v0 rfl rfl)
  have lt0 : ∀ x ∈ p0, x.block < W.heap.size := by obtain ⟨m, hm⟩ := h0; exact DataW.trod_lt m _ _ _ hm
  obtain ⟨xs0, s0, z0⟩ := lexs_of h0 (fun x hx => by simpa using List.all_eq_true.1 hsz x (DataW.weights_mem_each (j := 0) (t := 22) rfl rfl x hx))
  obtain ⟨xs1, rfl, rfl, rfl, z1⟩ := open_string Tryd.underlying9 (hval 1 9 v1 rfl rfl) h1
  obtain ⟨a2, len2, cap2, rfl⟩ := okWide_slice Tryd.underlying25 (hval 2 25 v2 rfl rfl)
  have lt2 : ∀ x ∈ p2, x.block < W.heap.size := by obtain ⟨m, hm⟩ := h2; exact DataW.trod_lt m _ _ _ hm
  obtain ⟨xs2, s2, z2, b2⟩ := feats_of h2 (Nat.le_refl _) (fun el sp e => by have := sized_slice hsz (j := 2) (t := 25) (e := 57) rfl (by rw [e]; rfl) Tryd.underlying25; rwa [bytesF] at this)
  clear hA0
  refine (walk a0 len0 cap0 xs0 xs1 a2 len2 cap2 xs2 W (mx_of hSh) s0 z0 z1 s2 z2 b2).mono fun e W' ⟨he, bel⟩ => ?_
  subst he
  exact ⟨_, rfl, _, _, _, [], _, [], hW', trodAll_mk1 (shut_bool Tryd.underlying4 _), (trodAll_cons_mk (Below.trod laidOut (by kernel_rfl) (of_decide_eq_true (by kernel_rfl)) h0 bel lt0) (trodAll_cons_mk (shut_string Tryd.underlying9 z1) (trodAll_cons_mk (Below.trod laidOut (by kernel_rfl) (of_decide_eq_true (by kernel_rfl)) h2 bel lt2) trodAll_mk0))), rfl, Below.frame bel _, fun h => by cases h⟩

theorem witness_row (os : Os) {H : Type} (enc : TypeId × Value → H) :
    (OpenSpec.ofChange Rows.lexiconSelectsSpec).preRow enc Tryd.prog Tryd.f5 Rows.lexiconSelectsRow.domain false Rows.lexiconSelectsRow.laid ((laidWorld os).forCall (fun _ _ => 0) ⟨#[], #[.slice none 0 0, .string ⟨#[]⟩, .slice none 0 0], []⟩).memory #[.slice none 0 0, .string ⟨#[]⟩, .slice none 0 0] := by
  have hw : (DataW.whole enc Tryd.prog ((laidWorld os).forCall (fun _ _ => 0) ⟨#[], #[.slice none 0 0, .string ⟨#[]⟩, .slice none 0 0], []⟩).memory Tryd.f5.params.toList Rows.lexiconSelectsSpec.vars false (#[.slice none 0 0, .string ⟨#[]⟩, .slice none 0 0] : Array Value).toList 8).map (fun x => (x.1, x.2.1)) =
      some ([.nil, .lit (.string []), .nil], []) := by kernel_rfl
  obtain ⟨⟨x1, x2, x3⟩, hx, hx1⟩ := Option.map_eq_some_iff.1 hw
  simp only [Prod.mk.injEq] at hx1
  obtain ⟨rfl, rfl⟩ := hx1
  exact OpenSpec.preRow_of_cond 8 hx (by kernel_rfl) (fun k hk => by cases hk) (by kernel_rfl) (laid_met os _)

set_option maxRecDepth 100000 in
theorem lifted (os : Os) (started : os.Started) (H : Type) (enc : TypeId × Value → H) (F : Stop.Interp) :
    ReturnsInHanded {} Tryd.checked os 5 .any ((OpenSpec.ofChange Rows.lexiconSelectsSpec).preRow enc Tryd.prog Tryd.f5 Rows.lexiconSelectsRow.domain false Rows.lexiconSelectsRow.laid) (((OpenSpec.ofChange Rows.lexiconSelectsSpec).at F).post enc Tryd.prog Tryd.f5 false true false false) := by
  refine returnsInHanded_of_row (C := Tryd.checked) (s := (OpenSpec.ofChange Rows.lexiconSelectsSpec)) own started (by kernel_rfl) Tryd.func5
    (witness_row_atRef (enc := enc) (C := Tryd.checked) false (laidWorld os) #[.slice none 0 0, .string ⟨#[]⟩, .slice none 0 0] rfl (by kernel_rfl) (by kernel_rfl) (by kernel_rfl) (witness_row os enc)) ?_
  intro W base args ds gs before hval hW _ _ hsz _ hSh _
  exact contract H enc W base args ds gs before hval hW hsz hSh

theorem row : Rows.LexiconSelectsSaid :=
  OpenClaim.holds_of_cond 5 Tryd.f5 rfl rfl rfl rfl rfl rfl rfl ⟨rfl, rfl, rfl, rfl, rfl⟩ rfl rfl rfl rfl rfl (by kernel_rfl) Tryd.func5 (by kernel_rfl)
    (of_decide_eq_true (by kernel_rfl)) (by unfold Func.isWrapper; rw [if_neg (of_decide_eq_false (by kernel_rfl))]; exact ⟨rfl, rfl⟩)
    (fun os started H enc _ F0 => by rw [OpenClaim.pre_eq_preRow]; exact lifted os started H enc F0)

/-- No parameter wants a stand-in; the program's own looks are off. -/
theorem plain (f : FuncId) (fn : Func) (hf : Tryd.pinned.checked.prog.funcNamed "pentaglot/pentaglotlaw09.LexiconSelects" = some f) (hfn : Tryd.pinned.checked.prog.funcs[f]? = some fn) :
    false = Tryd.pinned.checked.prog.looks [] ∧ ∀ (j : Nat) t, fn.params[j]? = some t → Tryd.pinned.checked.prog.wantsStandIn t = false := by
  obtain rfl : f = 5 := Option.some.inj ((show Tryd.prog.funcNamed "pentaglot/pentaglotlaw09.LexiconSelects" = some 5 by kernel_rfl).symm.trans hf) |>.symm
  obtain rfl : fn = Tryd.f5 := (Option.some.inj (Tryd.func5.symm.trans hfn)).symm
  refine ⟨by kernel_rfl, fun j t ht => ?_⟩
  rw [Tryd.params5] at ht
  have hm : t = 22 ∨ t = 9 ∨ t = 25 := by simpa using Array.mem_of_getElem? ht
  rcases hm with rfl | rfl | rfl
  · exact (show Tryd.prog.wantsStandIn 22 = false by kernel_rfl)
  · exact (show Tryd.prog.wantsStandIn 9 = false by kernel_rfl)
  · exact (show Tryd.prog.wantsStandIn 25 = false by kernel_rfl)

theorem proved : Rows.LexiconSelectsCardSaid :=
  Claim7.holds_tied_plain_at .later [] _ _ _ _ row (fun _ h => by cases h) (by kernel_rfl) (fun _ h => by cases h) lexiconSelects_row_tie rfl ⟨rfl, rfl⟩ (by kernel_rfl) rfl plain (by kernel_rfl)
#print axioms proved
end Go.Proofs.YthoppaemlandaaaDoor.lawSels
