/-
  LexiconFind: Index and Find return the first lexeme with an ID: the law returns true. Conditions: none (every list of lexemes, of any size that an argument can have, and every string).
-/
import Derived.Test.YthoppaemlandaaaDoorLexAwakeW
import Derived.Test.YthoppaemlandaaaDoorLexFrame
import Derived.Test.YthoppaemlandaaaDoorLexFind
import Derived.Test.YthoppaemlandaaaDoorLexSame
import Derived.Test.YthoppaemlandaaaDoorCards
import Derived.Test.YthoppaemlandaaaDoorTie
import Derived.Deep.DeepWitnessRowRef
import Derived.Deep.DeepHandedRow
import Derived.SevenTiedAt
namespace Go.Proofs.YthoppaemlandaaaDoor.lawFind
open Go.ChangeShapes Go.WideShapes Go.ChangeAt Go.RowKit
open Go.ChangeMaps (open_string shut_string)
open FeatPlain

set_option maxRecDepth 100000 in
set_option maxHeartbeats 3200000 in
theorem walk (A : Option Addr) (n c : Nat) (xs : List Lx) (s : ByteArray) (w : World) (hM : Mx w) (ha : Ls w A n c xs) (hok : Lok xs) (_ : s.size ≤ maxLen) :
    Calls Tryd.prog 3 #[.slice A n c, .string s] w (BoolPost w true) := by
  have hfew := fun W (k : Aft w W) => few_any A n c xs W (ha.aft k)
  cases hf : fewB xs
  · rw [hf] at hfew
    have HF := Lib.hid hfew
    clear hfew hf
    go_enter Tryd.func3, Tryd.ntmps3
    go_wp2_with fail
    refine (awakeL_any w hM).mono ?_
    rintro e wA ⟨rfl, AA⟩
    go_wp2_with fail
    refine (HF.out _ AA).mono ?_
    rintro e wF ⟨rfl, AF⟩
    have AO := AA.trans AF
    clear HF
    go_wp2_with fail
    refine (awakeL_any _ (hM.aft AO)).mono ?_
    rintro e wO ⟨rfl, AP⟩
    go_wp2
    go_ret
    exact ⟨rfl, AO.trans AP⟩
  · rw [hf] at hfew
    have HF := Lib.hid hfew
    clear hfew hf
    by_cases h60 : s.size ≤ 60
    · have b60 : ¬ (60 : Int) < (s.size : Int) := by omega
      clear h60
      go_enter Tryd.func3, Tryd.ntmps3
      go_wp2_with fail
      refine (awakeL_any w hM).mono ?_
      rintro e wA ⟨rfl, AA⟩
      go_wp2_with fail
      refine (HF.out _ AA).mono ?_
      rintro e wF ⟨rfl, AF⟩
      have A0 := AA.trans AF
      have H1 := Lib.hid (Find_any A n c xs s wF (ha.aft A0) hok.fn)
      clear HF
      go_wp2_with fail
      refine H1.out.mono ?_
      rintro e w1 ⟨A1, y, rfl, hy, hys⟩
      clear H1
      have B1 : Aft wF (w1.alloc (.cells #[.string y.id, .string y.cat, .string y.stem, .string y.par, .slice y.fa y.fn y.fc] 27)) := A1.alloc _
      have H2 := Lib.hid (refFind_any A n c xs s _ (ha.aft (A0.trans B1)) hok.fn)
      have f1 := Lib.hid (five_new w1 y 27)
      have l1 := Lib.hid (hy.aft ((Aft.refl w1).alloc (.cells #[.string y.id, .string y.cat, .string y.stem, .string y.par, .slice y.fa y.fn y.fc] 27)))
      have HYS := Lib.hid hys
      clear hy hys
      go_wp2_with fail
      refine H2.out.mono ?_
      rintro e w2 ⟨A2, z, rfl, hz, hzs⟩
      clear H2
      have B2 : Aft (w1.alloc (.cells #[.string y.id, .string y.cat, .string y.stem, .string y.par, .slice y.fa y.fn y.fc] 27)) (w2.alloc (.cells #[.string z.id, .string z.cat, .string z.stem, .string z.par, .slice z.fa z.fn z.fc] 27)) := A2.alloc _
      have f2 := Lib.hid (five_new w2 z 27)
      have l2 := Lib.hid (hz.aft ((Aft.refl w2).alloc (.cells #[.string z.id, .string z.cat, .string z.stem, .string z.par, .slice z.fa z.fn z.fc] 27)))
      have HZS := Lib.hid hzs
      have A02 := (A0.trans B1).trans B2
      have H3 := Lib.hid (Index_any A n c xs s _ (ha.aft A02))
      clear hz hzs
      go_wp2_with fail
      refine H3.out.mono ?_
      rintro e w3 ⟨rfl, A3⟩
      have H4 := Lib.hid (refIndexL_any A n c xs s w3 (ha.aft (A02.trans A3)))
      clear H3
      go_wp2_with fail
      refine H4.out.mono ?_
      rintro e w4 ⟨rfl, A4⟩
      clear H4
      have A34 := A3.trans A4
      obtain ⟨c0, c1, c2, c3, c4⟩ := f1.out.aft (B2.trans A34)
      obtain ⟨d0, d1, d2, d3, d4⟩ := f2.out.aft A34
      simp only [Nat.zero_add] at c1 c2 c3 c4 d1 d2 d3 d4
      have hsm := sameL_any y z w4 (l1.out.aft (B2.trans A34)) (l2.out.aft A34)
      rw [show decide (y.say = z.say) = true from decide_eq_true (by rw [HYS.out, HZS.out])] at hsm
      have H5 := Lib.hid hsm
      clear hsm
      generalize idxL (fun x => decide (x.id = s)) xs = ix
      generalize ((xs.find? fun x => decide (x.id = s)).map Lx.say).isSome = ok
      go_wp2_with fail
      refine H5.out.mono ?_
      rintro e w5 ⟨rfl, A5⟩
      go_wp2
      go_ret
      exact ⟨by first | rfl | simp, (A02.trans A34).trans A5⟩
    · have b60 : (60 : Int) < (s.size : Int) := by omega
      clear h60
      go_enter Tryd.func3, Tryd.ntmps3
      go_wp2_with fail
      refine (awakeL_any w hM).mono ?_
      rintro e wA ⟨rfl, AA⟩
      go_wp2_with fail
      refine (HF.out _ AA).mono ?_
      rintro e wF ⟨rfl, AF⟩
      have AO := AA.trans AF
      clear HF
      go_wp2_with fail
      refine (awakeL_any _ (hM.aft AO)).mono ?_
      rintro e wO ⟨rfl, AP⟩
      go_wp2
      go_ret
      exact ⟨rfl, AO.trans AP⟩

theorem own : ownKnob Tryd.prog.godebug = none := by kernel_rfl
theorem laidOut : laidOutB Tryd.prog = true := by kernel_rfl

set_option maxRecDepth 100000 in
theorem contract (H : Type) (enc : TypeId × Value → H) (W : World) (base : Nat) (args : Array Value) (ds gs : List (DataW H)) (before : List MemPlace)
    (hval : ∀ (j : Nat) t v, Tryd.f3.params[j]? = some t → args[j]? = some v → Value.okWide Tryd.prog W .any base t v)
    (hW : DataW.Whole enc Tryd.prog Tryd.f3.params.toList Rows.lexiconFindSpec.vars false W args.toList ds gs before) (hsz0 : (DataW.weightsEach Tryd.prog (Tryd.f3.params.toList ++ Rows.lexiconFindSpec.plain.varTypes Tryd.prog) (ds ++ gs)).all (· ≤ reachBytes) = true) (hSh : W.ShapedOpen Tryd.prog) :
    Calls Tryd.prog 3 args W fun e W' => ∃ v, e = .returned v ∧ Rows.lexiconFindSpec.post enc Tryd.prog Tryd.f3 false true false false W args v W' := by
  have hW' := hW
  obtain ⟨p, q, hA0, hV, rfl, hfz, hnd⟩ := hW
  have hA : DataW.TrodAll enc Tryd.prog W 0 (fun _ => true) true Tryd.f3.params.toList args.toList ds p := hA0
  have hsz := hsz0
  rw [Tryd.params3] at hA hval hsz
  obtain ⟨v0, vs0, d0, ds0, p0, q0, hargs, rfl, rfl, h0, r0⟩ := trodAll_cons hA
  obtain ⟨v1, vs1, d1, ds1, p1, q1, rfl, rfl, rfl, h1, r1⟩ := trodAll_cons r0
  obtain ⟨rfl, rfl, rfl⟩ := trodAll_nil r1
  obtain rfl : args = #[v0, v1] := by cases args; simp_all
  obtain ⟨rfl, rfl⟩ := trodVars_none hV
  obtain ⟨a0, len0, cap0, rfl⟩ := okWide_slice Tryd.underlying22 (hval 0 22 v0 rfl rfl)
  have lt0 : ∀ x ∈ p0, x.block < W.heap.size := by obtain ⟨m, hm⟩ := h0; exact DataW.trod_lt m _ _ _ hm
  obtain ⟨xs0, s0, z0⟩ := lexs_of h0 (fun x hx => by simpa using List.all_eq_true.1 hsz x (DataW.weights_mem_each (j := 0) (t := 22) rfl rfl x hx))
  obtain ⟨xs1, rfl, rfl, rfl, z1⟩ := open_string Tryd.underlying9 (hval 1 9 v1 rfl rfl) h1
  clear hA0
  refine (walk a0 len0 cap0 xs0 xs1 W (mx_of hSh) s0 z0 z1).mono fun e W' ⟨he, bel⟩ => ?_
  subst he
  exact ⟨_, rfl, _, _, _, [], _, [], hW', trodAll_mk1 (shut_bool Tryd.underlying4 _), (trodAll_cons_mk (Below.trod laidOut (by kernel_rfl) (of_decide_eq_true (by kernel_rfl)) h0 bel lt0) (trodAll_cons_mk (shut_string Tryd.underlying9 z1) trodAll_mk0)), rfl, Below.frame bel _, fun h => by cases h⟩

theorem witness_row (os : Os) {H : Type} (enc : TypeId × Value → H) :
    (OpenSpec.ofChange Rows.lexiconFindSpec).preRow enc Tryd.prog Tryd.f3 Rows.lexiconFindRow.domain false Rows.lexiconFindRow.laid ((laidWorld os).forCall (fun _ _ => 0) ⟨#[], #[.slice none 0 0, .string ⟨#[]⟩], []⟩).memory #[.slice none 0 0, .string ⟨#[]⟩] := by
  have hw : (DataW.whole enc Tryd.prog ((laidWorld os).forCall (fun _ _ => 0) ⟨#[], #[.slice none 0 0, .string ⟨#[]⟩], []⟩).memory Tryd.f3.params.toList Rows.lexiconFindSpec.vars false (#[.slice none 0 0, .string ⟨#[]⟩] : Array Value).toList 8).map (fun x => (x.1, x.2.1)) =
      some ([.nil, .lit (.string [])], []) := by kernel_rfl
  obtain ⟨⟨x1, x2, x3⟩, hx, hx1⟩ := Option.map_eq_some_iff.1 hw
  simp only [Prod.mk.injEq] at hx1
  obtain ⟨rfl, rfl⟩ := hx1
  exact OpenSpec.preRow_of_cond 8 hx (by kernel_rfl) (fun k hk => by cases hk) (by kernel_rfl) (laid_met os _)

set_option maxRecDepth 100000 in
theorem lifted (os : Os) (started : os.Started) (H : Type) (enc : TypeId × Value → H) (F : Stop.Interp) :
    ReturnsInHanded {} Tryd.checked os 3 .any ((OpenSpec.ofChange Rows.lexiconFindSpec).preRow enc Tryd.prog Tryd.f3 Rows.lexiconFindRow.domain false Rows.lexiconFindRow.laid) (((OpenSpec.ofChange Rows.lexiconFindSpec).at F).post enc Tryd.prog Tryd.f3 false true false false) := by
  refine returnsInHanded_of_row (C := Tryd.checked) (s := (OpenSpec.ofChange Rows.lexiconFindSpec)) own started (by kernel_rfl) Tryd.func3
    (witness_row_atRef (enc := enc) (C := Tryd.checked) false (laidWorld os) #[.slice none 0 0, .string ⟨#[]⟩] rfl (by kernel_rfl) (by kernel_rfl) (by kernel_rfl) (witness_row os enc)) ?_
  intro W base args ds gs before hval hW _ _ hsz _ hSh _
  exact contract H enc W base args ds gs before hval hW hsz hSh

theorem row : Rows.LexiconFindSaid :=
  OpenClaim.holds_of_cond 3 Tryd.f3 rfl rfl rfl rfl rfl rfl rfl ⟨rfl, rfl, rfl, rfl, rfl⟩ rfl rfl rfl rfl rfl (by kernel_rfl) Tryd.func3 (by kernel_rfl)
    (of_decide_eq_true (by kernel_rfl)) (by unfold Func.isWrapper; rw [if_neg (of_decide_eq_false (by kernel_rfl))]; exact ⟨rfl, rfl⟩)
    (fun os started H enc _ F0 => by rw [OpenClaim.pre_eq_preRow]; exact lifted os started H enc F0)

/-- No parameter wants a stand-in; the program's own looks are off. -/
theorem plain (f : FuncId) (fn : Func) (hf : Tryd.pinned.checked.prog.funcNamed "pentaglot/pentaglotlaw09.LexiconFind" = some f) (hfn : Tryd.pinned.checked.prog.funcs[f]? = some fn) :
    false = Tryd.pinned.checked.prog.looks [] ∧ ∀ (j : Nat) t, fn.params[j]? = some t → Tryd.pinned.checked.prog.wantsStandIn t = false := by
  obtain rfl : f = 3 := Option.some.inj ((show Tryd.prog.funcNamed "pentaglot/pentaglotlaw09.LexiconFind" = some 3 by kernel_rfl).symm.trans hf) |>.symm
  obtain rfl : fn = Tryd.f3 := (Option.some.inj (Tryd.func3.symm.trans hfn)).symm
  refine ⟨by kernel_rfl, fun j t ht => ?_⟩
  rw [Tryd.params3] at ht
  have hm : t = 22 ∨ t = 9 := by simpa using Array.mem_of_getElem? ht
  rcases hm with rfl | rfl
  · exact (show Tryd.prog.wantsStandIn 22 = false by kernel_rfl)
  · exact (show Tryd.prog.wantsStandIn 9 = false by kernel_rfl)

theorem proved : Rows.LexiconFindCardSaid :=
  Claim7.holds_tied_plain_at .later [] _ _ _ _ row (fun _ h => by cases h) (by kernel_rfl) (fun _ h => by cases h) lexiconFind_row_tie rfl ⟨rfl, rfl⟩ (by kernel_rfl) rfl plain (by kernel_rfl)
#print axioms proved
end Go.Proofs.YthoppaemlandaaaDoor.lawFind
