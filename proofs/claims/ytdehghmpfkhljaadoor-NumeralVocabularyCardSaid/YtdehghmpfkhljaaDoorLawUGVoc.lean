/-
  The ascending list of a system's words, and that the words of a number are among them: the law NumeralVocabulary returns true. Conditions: none.
-/
import Derived.Test.YtdehghmpfkhljaaDoorNumFrame
import Derived.Test.YtdehghmpfkhljaaDoorNumLawB
import Derived.Test.YtdehghmpfkhljaaDoorNumRefV
import Derived.Test.YtdehghmpfkhljaaDoorNumBad
import Derived.Test.YtdehghmpfkhljaaDoorNumRefVoc
import Derived.Test.YtdehghmpfkhljaaDoorNumLawV
import Derived.Deep.DeepHandedRow
import Derived.Deep.DeepWitnessRowRef
import Derived.Deep.RegionHeld3
import Derived.Deep.CutRange
namespace Go.Proofs.YtdehghmpfkhljaaDoor.lawUGVoc
open Go.ChangeShapes Go.WideShapes Go.ChangeAt Go.RowKit
open Go.ChangeMaps (open_string shut_string)
open NumPlain

open Voc
set_option maxRecDepth 100000 in
set_option maxHeartbeats 3200000 in
theorem walk (x : Nm) (k1 : Int) (w : World) (hT : Tabs w) (hw : Nw w x) (hz : Sz x) (hzb : (Lit.int .i64 x.base).wf = true) (_ : (Lit.int .i64 x.sub).wf = true) (hk1 : (Lit.int .u16 k1).wf = true) :
    Calls Tryd.prog 9 #[nV x, .int .u16 k1] w (BoolPost w true) := by
  have AL : Aft w (w.alloc (.cells (nC x) 24)) := (Aft.refl w).alloc _
  have HBX := Lib.hid (Bx.new w x 24)
  have HT := Lib.hid (tabs_aft hT AL)
  have HW := Lib.hid (hw.aft AL)
  have HZ := Lib.hid hz
  have HA := Lib.hid AL
  clear hT hw hz AL
  by_cases hsm : x.dn ≤ 40 ∧ x.pn ≤ 10
  · have HSM := Lib.hid (small_yes hsm)
    clear hsm
    cases hv : validB x
    · have HV := Lib.hid hv
      clear hv
      have hz1 := wf_range16 hk1
      obtain ⟨j, hj⟩ : ∃ j : Nat, k1.tmod 10000 = (j : Int) := ⟨(k1.tmod 10000).toNat, by rw [Int.toNat_of_nonneg]; exact Int.tmod_nonneg _ hz1.1⟩
      have hj9 : j ≤ 9999 := by have := Int.tmod_lt_of_pos k1 (show (0 : Int) < 10000 by omega); omega
      have HWV := Lib.hid (words_bad HV.out (j : Int))
      go_enter Tryd.func9, Tryd.ntmps9
      obtain ⟨c0, c1, c2, c3, c4, c5, c6, c7⟩ := HBX.out
      go_wp2_with fail
      have h1 := small_any x (w.alloc (.cells (nC x) 24))
      rw [HSM.out] at h1
      refine h1.mono ?_
      rintro e v1 ⟨rfl, N1⟩
      clear h1
      have D1 := N1
      clear c0 c1 c2 c3 c4 c5 c6 c7
      obtain ⟨c0, c1, c2, c3, c4, c5, c6, c7⟩ := HBX.out.aft D1
      go_wp2_with fail
      have h1 := voc_bad x HV.out v1 (tabs_aft HT.out D1) (HW.out.aft D1) HZ.out
      refine h1.mono ?_
      rintro e v2 ⟨rfl, N2⟩
      clear h1
      have D2 := D1.trans N2
      clear c0 c1 c2 c3 c4 c5 c6 c7
      obtain ⟨c0, c1, c2, c3, c4, c5, c6, c7⟩ := HBX.out.aft D2
      go_wp2_with fail
      have h1 := refVoc_bad x HV.out v2 (tabs_aft HT.out D2) (HW.out.aft D2) HZ.out hzb
      refine h1.mono ?_
      rintro e v3 ⟨⟨g9, rfl⟩, N3⟩
      clear h1
      have D3 := D2.trans N3
      clear c0 c1 c2 c3 c4 c5 c6 c7
      go_wp2_with fail
      have h1 := texts_any none 0 0 [] (some ⟨g9, 0, none⟩) 0 0 [] v3 Rw.nil (rw_empty_at _ _)
      rw [decide_eq_true rfl] at h1
      refine h1.mono ?_
      rintro e v4 ⟨rfl, N4⟩
      clear h1
      have D4 := D3.trans N4
      obtain ⟨c0, c1, c2, c3, c4, c5, c6, c7⟩ := HBX.out.aft D4
      go_wp2_with fail
      have h1 := words_any x (j : Int) v4 (tabs_aft HT.out D4) (HW.out.aft D4) HZ.out
      rw [HWV.out] at h1
      refine h1.mono ?_
      rintro e v5 ⟨⟨X1, n1, q1, rfl, r1⟩, N5⟩
      clear h1
      have D5 := D4.trans N5
      obtain rfl : n1 = 0 := r1.len.symm
      clear r1
      clear c0 c1 c2 c3 c4 c5 c6 c7
      go_wp2
      go_loopw [8] (fun i wr => i = .int .i64 0 ∧ Aft v5 wr) (fun _ _ => 0)
      case atStart => exact ⟨rfl, Aft.refl _⟩
      case round =>
        obtain ⟨rfl, haf⟩ := hrel
        have D90 := D5.trans haf
        go_wp2_with fail
        have h1 := awake_any wr (tabs_aft HT.out D90)
        refine h1.mono ?_
        rintro e v91 ⟨rfl, N91⟩
        clear h1
        have D91 := D90.trans N91
        obtain ⟨c0, c1, c2, c3, c4, c5, c6, c7⟩ := HBX.out.aft D91
        go_wp2_with fail
        have h1 := refValid_any x v91 (tabs_aft HT.out D91) (HW.out.aft D91) HZ.out hzb
        rw [HV.out] at h1
        refine h1.mono ?_
        rintro e v92 ⟨rfl, N92⟩
        clear h1
        have D92 := D91.trans N92
        go_wp2
        go_ret
        exact ⟨by first | rfl | simp, HA.out.trans D92⟩
    · have HV := Lib.hid hv
      clear hv
      have hz1 := wf_range16 hk1
      obtain ⟨j, hj⟩ : ∃ j : Nat, k1.tmod 10000 = (j : Int) := ⟨(k1.tmod 10000).toNat, by rw [Int.toNat_of_nonneg]; exact Int.tmod_nonneg _ hz1.1⟩
      have hj9 : j ≤ 9999 := by have := Int.tmod_lt_of_pos k1 (show (0 : Int) < 10000 by omega); omega
      have HWO := Lib.hid (words_ok HV.out hj9)
      go_enter Tryd.func9, Tryd.ntmps9
      obtain ⟨c0, c1, c2, c3, c4, c5, c6, c7⟩ := HBX.out
      go_wp2_with fail
      have h1 := small_any x (w.alloc (.cells (nC x) 24))
      rw [HSM.out] at h1
      refine h1.mono ?_
      rintro e v1 ⟨rfl, N1⟩
      clear h1
      have D1 := N1
      clear c0 c1 c2 c3 c4 c5 c6 c7
      obtain ⟨c0, c1, c2, c3, c4, c5, c6, c7⟩ := HBX.out.aft D1
      go_wp2_with fail
      have h1 := voc_any x HV.out v1 (tabs_aft HT.out D1) (HW.out.aft D1) HZ.out
      refine h1.mono ?_
      rintro e v2 ⟨⟨X1, n1, q1, rfl, r1⟩, N2⟩
      clear h1
      have D2 := D1.trans N2
      have R1 := Lib.hid r1
      clear r1
      clear c0 c1 c2 c3 c4 c5 c6 c7
      obtain ⟨c0, c1, c2, c3, c4, c5, c6, c7⟩ := HBX.out.aft D2
      go_wp2_with fail
      have h1 := refVoc_any x HV.out v2 (tabs_aft HT.out D2) (HW.out.aft D2) HZ.out hzb
      refine h1.mono ?_
      rintro e v3 ⟨⟨X2, n2, q2, rfl, r2⟩, N3⟩
      clear h1
      have D3 := D2.trans N3
      have R2 := Lib.hid r2
      clear r2
      clear c0 c1 c2 c3 c4 c5 c6 c7
      go_wp2_with fail
      have h1 := texts_any X1 n1 q1 (vocS x) X2 n2 q2 (vocS x) v3 (R1.out.aft N3) R2.out
      rw [decide_eq_true rfl] at h1
      refine h1.mono ?_
      rintro e v4 ⟨rfl, N4⟩
      clear h1
      have D4 := D3.trans N4
      obtain ⟨c0, c1, c2, c3, c4, c5, c6, c7⟩ := HBX.out.aft D4
      go_wp2_with fail
      have h1 := words_any x (j : Int) v4 (tabs_aft HT.out D4) (HW.out.aft D4) HZ.out
      rw [HWO.out] at h1
      refine h1.mono ?_
      rintro e v5 ⟨⟨X3, n3, q3, rfl, r3⟩, N5⟩
      clear h1
      have D5 := D4.trans N5
      have R3 := Lib.hid (show Rw sV v5 X3 n3 q3 (wordsB x j) from r3)
      clear r3
      clear c0 c1 c2 c3 c4 c5 c6 c7
      have RV := Lib.hid (R1.out.aft (N3.trans (N4.trans N5)))
      have hc1 := R1.out.le
      have hm1 := R1.out.cmax
      have hc3 := R3.out.le
      have hm3 := R3.out.cmax
      go_wp2
      go_loopw [8] (fun i wr => ∃ q : Nat, q ≤ n3 ∧ i = .int .i64 (q : Nat) ∧ Aft v5 wr) (fun i _ => n3 - (intOf i).toNat)
      case atStart => exact ⟨0, Nat.zero_le _, rfl, Aft.refl _⟩
      case round =>
        obtain ⟨q, hq, rfl, haf⟩ := hrel
        have HF := Lib.hid haf
        by_cases hlt : q < n3
        · clear haf
          obtain ⟨bl, off, s, hX, hs, g1⟩ := R3.out.at_ hlt
          have HSV := Lib.hid ((vocS_mem x s).2 (words_voc s (List.mem_of_getElem? hs)))
          have c1 := HF.out.cell g1
          dsimp only [sV] at c1
          have hHX := Lib.hid hX
          subst hX
          have hqi : (q : Int) < (n3 : Int) := by omega
          clear hs g1
          go_wp2
          go_loopw [9, 10] (fun f i w2 => ∃ (k : Nat) (bb : Bool), k ≤ n1 ∧ i = .int .i64 (k : Nat) ∧ f = .bool bb ∧ bb = fndS s (vocS x) k ∧ Aft wr w2) (fun _ i _ => n1 - (intOf i).toNat)
          case atStart => exact ⟨0, false, Nat.zero_le _, rfl, rfl, rfl, Aft.refl _⟩
          case round =>
            obtain ⟨k, bb, hk, rfl, rfl, hbb, haf2⟩ := hrel
            have HBB := Lib.hid hbb
            have HF2 := Lib.hid haf2
            clear hbb haf2
            by_cases hkl : k < n1
            · obtain ⟨b2, o2, t, hA, ht, g2⟩ := (RV.out.aft (HF.out.trans HF2.out)).at_ hkl
              have c2 := HF2.out.cell c1
              dsimp only [sV] at g2
              have HFN := Lib.hid (fnds_next (s := s) ht)
              have hHA := Lib.hid hA
              subst hA
              have hki : (k : Int) < (n1 : Int) := by omega
              clear ht
              cases bb
              · have hbe := toList_beq t s
                by_cases hte : t = s
                · have HFV := Lib.hid (show fndS s (vocS x) (k + 1) = true by rw [HFN.out, ← HBB.out, decide_eq_true hte]; rfl)
                  rw [decide_eq_true hte] at hbe
                  clear hte
                  go_wp2
                  go_quiet (fail)
                  go_wp2
                  go_roundw
                  case rel => exact ⟨k + 1, true, by omega, by go_num, rfl, HFV.out.symm, (by first | exact HF2.out | exact Aft.drewN HF2.out _ | exact Below.drew HF2.out)⟩
                  case measure => simp [intOf]; omega
                · have HFV := Lib.hid (show fndS s (vocS x) (k + 1) = false by rw [HFN.out, ← HBB.out, decide_eq_false hte]; rfl)
                  rw [decide_eq_false hte] at hbe
                  clear hte
                  go_wp2
                  go_quiet (fail)
                  go_wp2
                  go_roundw
                  case rel => exact ⟨k + 1, false, by omega, by go_num, rfl, HFV.out.symm, (by first | exact HF2.out | exact Aft.drewN HF2.out _ | exact Below.drew HF2.out)⟩
                  case measure => simp [intOf]; omega
              · have HFV := Lib.hid (show fndS s (vocS x) (k + 1) = true by rw [HFN.out, ← HBB.out]; rfl)
                go_wp2
                go_quiet (fail)
                go_wp2
                go_roundw
                case rel => exact ⟨k + 1, true, by omega, by go_num, rfl, HFV.out.symm, (by first | exact HF2.out | exact Aft.drewN HF2.out _ | exact Below.drew HF2.out)⟩
                case measure => simp [intOf]; omega
            · obtain rfl : k = n1 := by omega
              have HFT := Lib.hid (show bb = true by rw [HBB.out]; exact fnds_all RV.out.len HSV.out)
              have hbt := HFT.out
              subst hbt
              go_wp2
              go_roundw
              case rel => exact ⟨q + 1, by omega, by go_num, HF.out.trans (by first | exact HF2.out | exact Aft.drewN HF2.out _ | exact Below.drew HF2.out)⟩
              case measure => simp [intOf]; omega
        · obtain rfl : q = n3 := by omega
          have D90 := D5.trans haf
          go_wp2_with fail
          have h1 := awake_any wr (tabs_aft HT.out D90)
          refine h1.mono ?_
          rintro e v91 ⟨rfl, N91⟩
          clear h1
          have D91 := D90.trans N91
          obtain ⟨c0, c1, c2, c3, c4, c5, c6, c7⟩ := HBX.out.aft D91
          go_wp2_with fail
          have h1 := refValid_any x v91 (tabs_aft HT.out D91) (HW.out.aft D91) HZ.out hzb
          rw [HV.out] at h1
          refine h1.mono ?_
          rintro e v92 ⟨rfl, N92⟩
          clear h1
          have D92 := D91.trans N92
          go_wp2
          go_ret
          exact ⟨by first | rfl | simp, HA.out.trans D92⟩
  · have HSM := Lib.hid (small_no hsm)
    clear hsm
    go_enter Tryd.func9, Tryd.ntmps9
    obtain ⟨c0, c1, c2, c3, c4, c5, c6, c7⟩ := HBX.out
    go_wp2_with fail
    have h1 := small_any x (w.alloc (.cells (nC x) 24))
    rw [HSM.out] at h1
    refine h1.mono ?_
    rintro e v1 ⟨rfl, N1⟩
    clear h1
    have D1 := N1
    clear c0 c1 c2 c3 c4 c5 c6 c7
    go_wp2_with fail
    have h1 := awake_any v1 (tabs_aft HT.out D1)
    refine h1.mono ?_
    rintro e v2 ⟨rfl, N2⟩
    clear h1
    have D2 := D1.trans N2
    go_wp2
    go_ret
    exact ⟨by first | rfl | simp, HA.out.trans D2⟩

theorem own : ownKnob Tryd.prog.godebug = none := by kernel_rfl
theorem laidOut : laidOutB Tryd.prog = true := by kernel_rfl

set_option maxRecDepth 100000 in
theorem contract (H : Type) (enc : TypeId × Value → H) (W : World) (base : Nat) (args : Array Value) (ds gs : List (DataW H)) (before : List MemPlace)
    (hval : ∀ (j : Nat) t v, Tryd.f9.params[j]? = some t → args[j]? = some v → Value.okWide Tryd.prog W .any base t v)
    (hW : DataW.Whole enc Tryd.prog Tryd.f9.params.toList Rows.numeralVocabularySpec.vars false W args.toList ds gs before) (hsz0 : (DataW.weightsEach Tryd.prog (Tryd.f9.params.toList ++ Rows.numeralVocabularySpec.plain.varTypes Tryd.prog) (ds ++ gs)).all (· ≤ reachBytes) = true) (hL : laidMetH Tryd.prog listed W) :
    Calls Tryd.prog 9 args W fun e W' => ∃ v, e = .returned v ∧ Rows.numeralVocabularySpec.post enc Tryd.prog Tryd.f9 false true false false W args v W' := by
  have hW' := hW
  obtain ⟨p, q, hA0, hV, rfl, hfz, hnd⟩ := hW
  have hA : DataW.TrodAll enc Tryd.prog W 0 (fun _ => true) true Tryd.f9.params.toList args.toList ds p := hA0
  have hsz := hsz0
  rw [Tryd.params9] at hA hval hsz
  obtain ⟨v0, vs0, d0, ds0, p0, q0, hargs, rfl, rfl, h0, r0⟩ := trodAll_cons hA
  obtain ⟨v1, vs1, d1, ds1, p1, q1, rfl, rfl, rfl, h1, r1⟩ := trodAll_cons r0
  obtain ⟨rfl, rfl, rfl⟩ := trodAll_nil r1
  obtain rfl : args = #[v0, v1] := by cases args; simp_all
  obtain ⟨rfl, rfl⟩ := trodVars_none hV
  have lt0 : ∀ x ∈ p0, x.block < W.heap.size := by obtain ⟨m, hm⟩ := h0; exact DataW.trod_lt m _ _ _ hm
  obtain ⟨xs0, rfl, sn0, sz0, zb0, zs0⟩ := sys_of (okWide_struct Tryd.underlying24 (hval 0 24 v0 rfl rfl)) h0
  obtain ⟨xs1, rfl, rfl, rfl, z1⟩ := open_int Tryd.underlying43 (hval 1 43 v1 rfl rfl) h1
  clear hA0
  refine (walk xs0 xs1 W (tabs_of hL) sn0 sz0 zb0 zs0 z1).mono fun e W' ⟨he, bel⟩ => ?_
  subst he
  exact ⟨_, rfl, _, _, _, [], _, [], hW', trodAll_mk1 (shut_bool Tryd.underlying4 _), (trodAll_cons_mk (Below.trod laidOut (by kernel_rfl) (of_decide_eq_true (by kernel_rfl)) h0 bel lt0) (trodAll_cons_mk (shut_int Tryd.underlying43 z1) trodAll_mk0)), rfl, Below.frame bel _, fun h => by cases h⟩

theorem witness_row (os : Os) {H : Type} (enc : TypeId × Value → H) :
    (OpenSpec.ofChange Rows.numeralVocabularySpec).preRow enc Tryd.prog Tryd.f9 Rows.numeralVocabularyRow.domain false Rows.numeralVocabularyRow.laid ((laidWorld os).forCall (fun _ _ => 0) ⟨#[], #[.agg #[.int .i64 0, .slice none 0 0, .slice none 0 0, .bool false, .string ⟨#[]⟩, .int .i64 0, .string ⟨#[]⟩, .bool false], .int .u16 0], []⟩).memory #[.agg #[.int .i64 0, .slice none 0 0, .slice none 0 0, .bool false, .string ⟨#[]⟩, .int .i64 0, .string ⟨#[]⟩, .bool false], .int .u16 0] := by
  have hw : (DataW.whole enc Tryd.prog ((laidWorld os).forCall (fun _ _ => 0) ⟨#[], #[.agg #[.int .i64 0, .slice none 0 0, .slice none 0 0, .bool false, .string ⟨#[]⟩, .int .i64 0, .string ⟨#[]⟩, .bool false], .int .u16 0], []⟩).memory Tryd.f9.params.toList Rows.numeralVocabularySpec.vars false (#[.agg #[.int .i64 0, .slice none 0 0, .slice none 0 0, .bool false, .string ⟨#[]⟩, .int .i64 0, .string ⟨#[]⟩, .bool false], .int .u16 0] : Array Value).toList 8).map (fun x => (x.1, x.2.1)) =
      some ([.agg [.lit (.int .i64 0), .nil, .nil, .lit (.bool false), .lit (.string []), .lit (.int .i64 0), .lit (.string []), .lit (.bool false)], .lit (.int .u16 0)], []) := by kernel_rfl
  obtain ⟨⟨x1, x2, x3⟩, hx, hx1⟩ := Option.map_eq_some_iff.1 hw
  simp only [Prod.mk.injEq] at hx1
  obtain ⟨rfl, rfl⟩ := hx1
  exact OpenSpec.preRow_of_cond 8 hx (by kernel_rfl) (fun k hk => by cases hk) (by kernel_rfl) (laid_met os _)

set_option maxRecDepth 100000 in
theorem lifted (os : Os) (started : os.Started) (H : Type) (enc : TypeId × Value → H) (F : Stop.Interp) :
    ReturnsInHanded {} Tryd.checked os 9 .any ((OpenSpec.ofChange Rows.numeralVocabularySpec).preRow enc Tryd.prog Tryd.f9 Rows.numeralVocabularyRow.domain false Rows.numeralVocabularyRow.laid) (((OpenSpec.ofChange Rows.numeralVocabularySpec).at F).post enc Tryd.prog Tryd.f9 false true false false) := by
  refine returnsInHanded_of_row (C := Tryd.checked) (s := (OpenSpec.ofChange Rows.numeralVocabularySpec)) own started (by kernel_rfl) Tryd.func9
    (witness_row_atRef (enc := enc) (C := Tryd.checked) false (laidWorld os) #[.agg #[.int .i64 0, .slice none 0 0, .slice none 0 0, .bool false, .string ⟨#[]⟩, .int .i64 0, .string ⟨#[]⟩, .bool false], .int .u16 0] rfl (by kernel_rfl) (by kernel_rfl) (by kernel_rfl) (witness_row os enc)) ?_
  intro W base args ds gs before hval hW _ _ hsz hL _ _
  exact contract H enc W base args ds gs before hval hW hsz hL

theorem row : Rows.NumeralVocabularySaid :=
  OpenClaim.holds_of_cond 9 Tryd.f9 rfl rfl rfl rfl rfl rfl rfl ⟨rfl, rfl, rfl, rfl, rfl⟩ rfl rfl rfl rfl rfl (by kernel_rfl) Tryd.func9 (by kernel_rfl)
    (of_decide_eq_true (by kernel_rfl)) (by unfold Func.isWrapper; rw [if_neg (of_decide_eq_false (by kernel_rfl))]; exact ⟨rfl, rfl⟩)
    (fun os started H enc _ F0 => by rw [OpenClaim.pre_eq_preRow]; exact lifted os started H enc F0)

/-- No parameter wants a stand-in; the program's own looks are off. -/
theorem plain (f : FuncId) (fn : Func) (hf : Tryd.pinned.checked.prog.funcNamed "pentaglot/pentaglotlaw15.NumeralVocabulary" = some f) (hfn : Tryd.pinned.checked.prog.funcs[f]? = some fn) :
    false = Tryd.pinned.checked.prog.looks [] ∧ ∀ (j : Nat) t, fn.params[j]? = some t → Tryd.pinned.checked.prog.wantsStandIn t = false := by
  obtain rfl : f = 9 := Option.some.inj ((show Tryd.prog.funcNamed "pentaglot/pentaglotlaw15.NumeralVocabulary" = some 9 by kernel_rfl).symm.trans hf) |>.symm
  obtain rfl : fn = Tryd.f9 := (Option.some.inj (Tryd.func9.symm.trans hfn)).symm
  refine ⟨by kernel_rfl, fun j t ht => ?_⟩
  rw [Tryd.params9] at ht
  have hm : t = 24 ∨ t = 43 := by simpa using Array.mem_of_getElem? ht
  rcases hm with rfl | rfl
  · exact (show Tryd.prog.wantsStandIn 24 = false by kernel_rfl)
  · exact (show Tryd.prog.wantsStandIn 43 = false by kernel_rfl)

theorem proved : Rows.NumeralVocabularyCardSaid :=
  Claim7.holds_tied_plain_at .later [] _ _ _ _ row (fun _ h => by cases h) (by kernel_rfl) (fun _ h => by cases h) numeralVocabulary_row_tie rfl ⟨rfl, rfl⟩ (by kernel_rfl) rfl plain (by kernel_rfl)
#print axioms proved
end Go.Proofs.YtdehghmpfkhljaaDoor.lawUGVoc
