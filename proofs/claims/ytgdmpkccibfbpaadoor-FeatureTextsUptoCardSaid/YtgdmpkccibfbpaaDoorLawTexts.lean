/-
  For every valid record Parse inverts Text; for every string Parse returns the valid record with this text, or ErrSyntax if there is none: the law FeatureTexts returns true. Condition: what is read is of bulk at most 1048576.
-/
import Derived.Test.YtgdmpkccibfbpaaDoorFeatAwake
import Derived.Test.YtgdmpkccibfbpaaDoorTextRefP
import Derived.Test.YtgdmpkccibfbpaaDoorFeatFrame
import Derived.Test.YtgdmpkccibfbpaaDoorTextFrame
import Derived.Test.YtgdmpkccibfbpaaDoorCards
import Derived.Test.YtgdmpkccibfbpaaDoorTie
import Derived.Deep.DeepHandedRow
import Derived.Deep.DeepWitnessRowRef
import Derived.SevenTiedAt
namespace Go.Proofs.YtgdmpkccibfbpaaDoor.lawTexts
open Go.ChangeShapes Go.WideShapes Go.ChangeAt Go.RowKit
open Go.ChangeMaps (open_string shut_string)
open FeatPlain

theorem text_small : ∀ {l : List Ft}, (∀ f ∈ l, f.1.size ≤ 1048576 ∧ f.2.size ≤ 1048576) → (text l).length ≤ l.length * 2097154
  | [], _ => by simp [text]
  | [f], h => by
    have := h f (by simp)
    have q1 : f.1.data.size = f.1.size := rfl
    have q2 : f.2.data.size = f.2.size := rfl
    simp [text, one] at this ⊢
    omega
  | f :: g :: l, h => by
    have h1 := h f (by simp)
    have h2 := text_small (l := g :: l) (fun x hx => h x (by simp [hx]))
    have q1 : f.1.data.size = f.1.size := rfl
    have q2 : f.2.data.size = f.2.size := rfl
    simp [text, one] at h1 h2 ⊢
    omega

set_option maxRecDepth 100000 in
set_option maxHeartbeats 3200000 in
theorem walk0 (A : Option Addr) (n c : Nat) (xs : List Ft) (s : ByteArray) (w : World) (ha : Sl w A n c xs) (hz : Sized xs) (hsm : ∀ f ∈ xs, f.1.size ≤ 1048576 ∧ f.2.size ≤ 1048576) (hs : s.size ≤ 1048576) :
    Calls Tryd.prog 3 #[.slice A n c, .string s] w (BoolPost w true) := by
  have hp := fun W => parse_any s W (by omega)
  have hq := fun W => refParse_any s W (by omega)
  have HP := Lib.hid hp
  have HQ := Lib.hid hq
  have hnc := ha.le
  have haw := awake_any w
  have HAW := Lib.hid haw
  clear hp hq haw
  cases hv : validB xs
  · have hva := fun W (h : Sl W A n c xs) => refValid_any A n c xs W h hz
    rw [hv] at hva
    have HVA := Lib.hid hva
    clear hva
    go_enter Tryd.func3, Tryd.ntmps3
    go_wp2_with fail
    refine (HAW.out).mono ?_
    rintro e w1 ⟨rfl, N1⟩
    have A1 := N1
    go_wp2_with fail
    refine (HVA.out _ (ha.aft A1)).mono ?_
    rintro e w2 ⟨rfl, q2⟩
    have N2 := quiet_aft q2
    have A2 := A1.trans N2
    cases hres : res s.data.toList with
    | none =>
      rw [hres] at HP HQ
      go_wp2_with fail
      refine (HP.out _).mono ?_
      rintro e w3 ⟨N3, rfl⟩
      have A3 := A2.trans N3
      go_wp2_with fail
      refine (HQ.out _).mono ?_
      rintro e w4 ⟨N4, rfl⟩
      have A4 := A3.trans N4
      go_wp2
      go_ret
      exact ⟨rfl, A4⟩
    | some l =>
      rw [hres] at HP HQ
      have htl := res_text hres
      have hse : s = ⟨(text l).toArray⟩ := by rw [htl]
      have HSE := Lib.hid hse
      have htx := fun X xn xc W (h : Sl W X xn xc l) => text_any X xn xc l W h (by rw [htl, Array.length_toList]; show s.size ≤ _; omega)
      have HTX := Lib.hid htx
      clear htl hse htx hres
      go_wp2_with fail
      refine (HP.out _).mono ?_
      rintro e w3 ⟨N3, X, xn, xc, rfl, sx⟩
      have A3 := A2.trans N3
      go_wp2_with fail
      refine (HQ.out _).mono ?_
      rintro e w4 ⟨N4, Y, yn, yc, rfl, sy⟩
      have A4 := A3.trans N4
      have hsm := same_any X xn xc l Y yn yc l w4 (sx.aft N4) sy
      rw [decide_eq_true rfl] at hsm
      have HSM := Lib.hid hsm
      clear hsm
      have hxl := sx.le
      have hyl := sy.le
      go_wp2_with fail
      refine (HSM.out).mono ?_
      rintro e w5 ⟨rfl, q5⟩
      have N5 := quiet_aft q5
      have A5 := A4.trans N5
      go_wp2_with fail
      refine (HTX.out X xn xc _ (((sx.aft N4).aft N5))).mono ?_
      rintro e w6 ⟨rfl, N6⟩
      have A6 := A5.trans N6
      rw [← HSE.out]
      go_wp2
      go_ret
      exact ⟨by first | rfl | simp, A6⟩
  · have hva := fun W (h : Sl W A n c xs) => refValid_any A n c xs W h hz
    rw [hv] at hva
    have HVA := Lib.hid hva
    have hl8 : xs.length ≤ 8 := by
      unfold validB at hv
      rw [Bool.and_eq_true, decide_eq_true_eq] at hv
      exact hv.1
    have htz : (text xs).length ≤ 16777232 := by
      have := text_small hsm
      have h8 : xs.length * 2097154 ≤ 8 * 2097154 := Nat.mul_le_mul_right _ hl8
      omega
    have htx := fun W (h : Sl W A n c xs) => text_any A n c xs W h (by omega)
    have hrt := fun W (h : Sl W A n c xs) => refText_any A n c xs W h (by omega)
    have hpt := fun W => parse_any ⟨(text xs).toArray⟩ W (by show (text xs).toArray.size ≤ _; simp; omega)
    have hrs : res (⟨(text xs).toArray⟩ : ByteArray).data.toList = some xs := by
      have : (⟨(text xs).toArray⟩ : ByteArray).data.toList = text xs := by simp
      rw [this]
      exact res_of_text hv
    rw [hrs] at hpt
    unfold StrPost at htx hrt
    generalize (⟨(text xs).toArray⟩ : ByteArray) = S at *
    have HT1 := Lib.hid htx
    have HT2 := Lib.hid hrt
    have HPT := Lib.hid hpt
    clear hva htx hrt hpt hrs htz hl8
    go_enter Tryd.func3, Tryd.ntmps3
    go_wp2_with fail
    refine (HAW.out).mono ?_
    rintro e w1 ⟨rfl, N1⟩
    have A1 := N1
    go_wp2_with fail
    refine (HVA.out _ (ha.aft A1)).mono ?_
    rintro e w2 ⟨rfl, q2⟩
    have N2 := quiet_aft q2
    have A2 := A1.trans N2
    go_wp2_with fail
    refine (HT1.out _ (ha.aft A2)).mono ?_
    rintro e w3 ⟨rfl, N3⟩
    have A3 := A2.trans N3
    go_wp2_with fail
    refine (HPT.out _).mono ?_
    rintro e w4 ⟨N4, B, m, d, rfl, sb⟩
    have A4 := A3.trans N4
    go_wp2_with fail
    refine (HT2.out _ (ha.aft A4)).mono ?_
    rintro e w5 ⟨rfl, N5⟩
    have A5 := A4.trans N5
    have hsm1 := same_any B m d xs A n c xs w5 (sb.aft N5) (ha.aft A5)
    rw [decide_eq_true rfl] at hsm1
    have HS1 := Lib.hid hsm1
    have hmd := sb.le
    clear hsm1
    go_wp2_with fail
    refine (HS1.out).mono ?_
    rintro e w6 ⟨rfl, q6⟩
    have N6 := quiet_aft q6
    have A6 := A5.trans N6
    cases hres : res s.data.toList with
    | none =>
      rw [hres] at HP HQ
      go_wp2_with fail
      refine (HP.out _).mono ?_
      rintro e w7 ⟨N7, rfl⟩
      have A7 := A6.trans N7
      go_wp2_with fail
      refine (HQ.out _).mono ?_
      rintro e w8 ⟨N8, rfl⟩
      have A8 := A7.trans N8
      go_wp2
      go_ret
      exact ⟨rfl, A8⟩
    | some l =>
      rw [hres] at HP HQ
      have htl := res_text hres
      have hse : s = ⟨(text l).toArray⟩ := by rw [htl]
      have HSE := Lib.hid hse
      have htx := fun X xn xc W (h : Sl W X xn xc l) => text_any X xn xc l W h (by rw [htl, Array.length_toList]; show s.size ≤ _; omega)
      have HTX := Lib.hid htx
      clear htl hse htx hres
      go_wp2_with fail
      refine (HP.out _).mono ?_
      rintro e w7 ⟨N7, X, xn, xc, rfl, sx⟩
      have A7 := A6.trans N7
      go_wp2_with fail
      refine (HQ.out _).mono ?_
      rintro e w8 ⟨N8, Y, yn, yc, rfl, sy⟩
      have A8 := A7.trans N8
      have hsm := same_any X xn xc l Y yn yc l w8 (sx.aft N8) sy
      rw [decide_eq_true rfl] at hsm
      have HSM := Lib.hid hsm
      clear hsm
      have hxl := sx.le
      have hyl := sy.le
      go_wp2_with fail
      refine (HSM.out).mono ?_
      rintro e w9 ⟨rfl, q9⟩
      have N9 := quiet_aft q9
      have A9 := A8.trans N9
      go_wp2_with fail
      refine (HTX.out X xn xc _ (((sx.aft N8).aft N9))).mono ?_
      rintro e w10 ⟨rfl, N10⟩
      have A10 := A9.trans N10
      rw [← HSE.out]
      go_wp2
      go_ret
      exact ⟨by first | rfl | simp, A10⟩

theorem own : ownKnob Tryd.prog.godebug = none := by kernel_rfl
theorem laidOut : laidOutB Tryd.prog = true := by kernel_rfl
theorem bytesF : Tryd.prog.bytesOf 34 = 32 := by kernel_rfl

set_option maxRecDepth 100000 in
theorem contract (H : Type) (enc : TypeId × Value → H) (W : World) (base : Nat) (args : Array Value) (ds gs : List (DataW H)) (before : List MemPlace)
    (hval : ∀ (j : Nat) t v, Tryd.f3.params[j]? = some t → args[j]? = some v → Value.okWide Tryd.prog W .any base t v)
    (hW : DataW.Whole enc Tryd.prog Tryd.f3.params.toList Rows.featureTextsSpec.vars false W args.toList ds gs before) (hsz0 : (DataW.weightsEach Tryd.prog (Tryd.f3.params.toList ++ Rows.featureTextsSpec.plain.varTypes Tryd.prog) (ds ++ gs)).all (· ≤ reachBytes) = true) (hk : Rows.uptoSmall H (ds ++ gs) = true) :
    Calls Tryd.prog 3 args W fun e W' => ∃ v, e = .returned v ∧ Rows.featureTextsSpec.post enc Tryd.prog Tryd.f3 false true false false W args v W' := by
  have hW' := hW
  obtain ⟨p, q, hA0, hV, rfl, hfz, hnd⟩ := hW
  have hA : DataW.TrodAll enc Tryd.prog W 0 (fun _ => true) true Tryd.f3.params.toList args.toList ds p := hA0
  have hsz := hsz0
  rw [Tryd.params3] at hA hval hsz
  obtain ⟨v0, vs0, d0, ds0, p0, q0, hargs, rfl, rfl, h0, r0⟩ := trodAll_cons hA
  obtain ⟨v1, vs1, d1, ds1, p1, q1, rfl, rfl, rfl, h1, r1⟩ := trodAll_cons r0
  obtain ⟨rfl, rfl, rfl⟩ := trodAll_nil r1
  obtain rfl : args = #[v0, v1] := by cases args; simp_all
  obtain ⟨rfl, rfl⟩ := trodVars_none hV
  obtain ⟨a0, len0, cap0, rfl⟩ := okWide_slice Tryd.underlying22 (hval 0 22 v0 rfl rfl)
  have lt0 : ∀ x ∈ p0, x.block < W.heap.size := by obtain ⟨m, hm⟩ := h0; exact DataW.trod_lt m _ _ _ hm
  have hB := bulks.bound hk
  have hB0 := bulks.part_le (d := d0) (l := [d0, d1] ++ []) (by simp)
  have hB1 := bulks.part_le (d := d1) (l := [d0, d1] ++ []) (by simp)
  obtain ⟨xs0, s0, z0, m0, b0⟩ := feats_small h0 (Nat.le_refl _) (fun el sp e => by have := sized_slice hsz (j := 0) (t := 22) (e := 34) rfl (by rw [e]; rfl) Tryd.underlying22; rwa [bytesF] at this) (M := 1048576) (by omega)
  obtain ⟨xs1, rfl, rfl, rfl, z1⟩ := open_string Tryd.underlying9 (hval 1 9 v1 rfl rfl) h1
  have y1 : xs1.size ≤ 1048576 := by
    simp only [Rows.uptoBulk, Array.length_toList] at hB1
    have q : xs1.data.size = xs1.size := rfl
    omega
  clear hA0
  refine (walk0 a0 len0 cap0 xs0 xs1 W s0 z0 m0 y1).mono fun e W' ⟨he, bel⟩ => ?_
  subst he
  exact ⟨_, rfl, _, _, _, [], _, [], hW', trodAll_mk1 (shut_bool Tryd.underlying4 _), (trodAll_cons_mk (Below.trod laidOut (by kernel_rfl) (of_decide_eq_true (by kernel_rfl)) h0 bel lt0) (trodAll_cons_mk (shut_string Tryd.underlying9 z1) trodAll_mk0)), rfl, Below.frame bel _, fun h => by cases h⟩

theorem witness_row (os : Os) {H : Type} (enc : TypeId × Value → H) :
    (Rows.OpenSpec.upto Rows.featureTextsSpec).preRow enc Tryd.prog Tryd.f3 Rows.featureTextsUptoRow.domain false Rows.featureTextsUptoRow.laid ((laidWorld os).forCall (fun _ _ => 0) ⟨#[], #[.slice none 0 0, .string ⟨#[]⟩], []⟩).memory #[.slice none 0 0, .string ⟨#[]⟩] := by
  have hw : (DataW.whole enc Tryd.prog ((laidWorld os).forCall (fun _ _ => 0) ⟨#[], #[.slice none 0 0, .string ⟨#[]⟩], []⟩).memory Tryd.f3.params.toList Rows.featureTextsSpec.vars false (#[.slice none 0 0, .string ⟨#[]⟩] : Array Value).toList 8).map (fun x => (x.1, x.2.1)) =
      some ([.nil, .lit (.string [])], []) := by kernel_rfl
  obtain ⟨⟨x1, x2, x3⟩, hx, hx1⟩ := Option.map_eq_some_iff.1 hw
  simp only [Prod.mk.injEq] at hx1
  obtain ⟨rfl, rfl⟩ := hx1
  exact OpenSpec.preRow_of_cond 8 hx (by kernel_rfl) (fun k hk => by cases hk; kernel_rfl) (by kernel_rfl) (laid_met os _)

set_option maxRecDepth 100000 in
theorem lifted (os : Os) (started : os.Started) (H : Type) (enc : TypeId × Value → H) (F : Stop.Interp) :
    ReturnsInHanded {} Tryd.checked os 3 .any ((Rows.OpenSpec.upto Rows.featureTextsSpec).preRow enc Tryd.prog Tryd.f3 Rows.featureTextsUptoRow.domain false Rows.featureTextsUptoRow.laid) (((Rows.OpenSpec.upto Rows.featureTextsSpec).at F).post enc Tryd.prog Tryd.f3 false true false false) := by
  refine returnsInHanded_of_row (C := Tryd.checked) (s := (Rows.OpenSpec.upto Rows.featureTextsSpec)) own started (by kernel_rfl) Tryd.func3
    (witness_row_atRef (enc := enc) (C := Tryd.checked) false (laidWorld os) #[.slice none 0 0, .string ⟨#[]⟩] rfl (by kernel_rfl) (by kernel_rfl) (by kernel_rfl) (witness_row os enc)) ?_
  intro W base args ds gs before hval hW _ hk hsz _ _ _
  exact contract H enc W base args ds gs before hval hW hsz (hk _ rfl)

theorem row : Rows.FeatureTextsUptoSaid :=
  OpenClaim.holds_of_cond 3 Tryd.f3 rfl rfl rfl rfl rfl rfl rfl ⟨rfl, rfl, rfl, rfl, rfl⟩ rfl rfl rfl rfl rfl (by kernel_rfl) Tryd.func3 (by kernel_rfl)
    (of_decide_eq_true (by kernel_rfl)) (by unfold Func.isWrapper; rw [if_neg (of_decide_eq_false (by kernel_rfl))]; exact ⟨rfl, rfl⟩)
    (fun os started H enc _ F0 => by rw [OpenClaim.pre_eq_preRow]; exact lifted os started H enc F0)

/-- No parameter wants a stand-in; the program's own looks are off. -/
theorem plain (f : FuncId) (fn : Func) (hf : Tryd.pinned.checked.prog.funcNamed "pentaglot/pentaglotlaw02.FeatureTexts" = some f) (hfn : Tryd.pinned.checked.prog.funcs[f]? = some fn) :
    false = Tryd.pinned.checked.prog.looks [] ∧ ∀ (j : Nat) t, fn.params[j]? = some t → Tryd.pinned.checked.prog.wantsStandIn t = false := by
  obtain rfl : f = 3 := Option.some.inj ((show Tryd.prog.funcNamed "pentaglot/pentaglotlaw02.FeatureTexts" = some 3 by kernel_rfl).symm.trans hf) |>.symm
  obtain rfl : fn = Tryd.f3 := (Option.some.inj (Tryd.func3.symm.trans hfn)).symm
  refine ⟨by kernel_rfl, fun j t ht => ?_⟩
  rw [Tryd.params3] at ht
  have hm : t = 22 ∨ t = 9 := by simpa using Array.mem_of_getElem? ht
  rcases hm with rfl | rfl
  · exact (show Tryd.prog.wantsStandIn 22 = false by kernel_rfl)
  · exact (show Tryd.prog.wantsStandIn 9 = false by kernel_rfl)

theorem proved : Rows.FeatureTextsUptoCardSaid :=
  Claim7.holds_tied_plain_at .later [] _ _ _ _ row (fun _ h => by cases h) (by kernel_rfl) (fun _ h => by cases h) featureTextsUpto_row_tie rfl ⟨rfl, rfl⟩ (by kernel_rfl) rfl plain (by kernel_rfl)
#print axioms proved
end Go.Proofs.YtgdmpkccibfbpaaDoor.lawTexts
